import PyProof.Rows.All
import Wide.All
import OpenK.AllK
import Wide.FinOn
import Lean
import PyProof.EqAt
import PyProof.EqKinds
import PyProof.TupleCall
import PySem.Challenge.RW_mendsure_k76_two_atoms_in_a_row
set_option Elab.async false
set_option linter.all false
set_option hygiene false
set_option compiler.extract_closed false
local macro_rules|`(↑0)=>`(S.length)
local macro_rules|`(↑1)=>`(s.heap.objs.size)
local macro_rules|`(↑2)=>`(Inv X pins σ H s)
local macro_rules|`(↑3)=>`(by decide)
local macro_rules|`(↑4)=>`(model X.prog X.w)
set_option maxRecDepth 100000
noncomputable section
set_option bootstrap.genMatcherCode false
open List (all_map drop_length drop_zero ext_getElem? filterMap_cons filterMap_cons_some find?_cons flatMap_cons flatten_cons forIn_cons forIn_nil getD_eq_getElem?_getD getElem?_append_left getElem?_append_right getElem?_eq_none getElem?_map getElem?_of_mem getElem?_range getElem?_set_ne getElem?_set_self getElem?_take_of_lt getElem_inj getElem_mem getElem_of_mem length_filterMap_le length_range length_zip lookup_cons map_drop mem_append_left mem_filterMap mem_flatMap mem_of_getElem? mem_of_mem_drop mem_of_mem_take mem_range nodup_append nodup_cons nodup_nil of_mem_zip pairwise_map replicate_succ reverse_cons take_length take_of_length_le zipIdx_cons zipIdx_nil zip_cons_cons zip_nil_left)
open Nat (add_assoc le_of_lt le_succ lt_irrefl lt_trans min_eq_left min_eq_right sub_self zero_le)
abbrev à:=@Nat.le_refl
abbrev á:=@List.getElem?_append_left
abbrev â:=@Option.some.inj
abbrev ã:=@List.map_cons
abbrev ä:=@PySem.Heap.lt_size
abbrev å:=@List.mem_append
abbrev æ:=@Nat.lt_of_lt_of_le
abbrev ç:=@List.length_nil
abbrev è:=@PySem.Heap.get?_push_size
abbrev é:=@List.getElem?_append_right
abbrev ê:=@Nat.ne_of_lt
abbrev ë:=@PySem.PassesOwn.never
abbrev ì:=@Nat.le_trans
abbrev í:=@Option.isSome_iff_exists
abbrev î:=@List.mem_of_getElem?
abbrev ï:=@List.getElem?_map
abbrev ð:=@PySem.wpAny_call_entry
abbrev ñ:=@List.mem_filter
abbrev ò:=@PySem.wpAny_field
abbrev ó:=@List.map_append
abbrev ô:=@PySem.wpAny_callSpecial?_slot
abbrev õ:=@List.all_eq_true
abbrev ö:=@of_decide_eq_true
abbrev ø:=@List.mem_append_right
abbrev ù:=@List.length_range
abbrev ú:=@PySem.wpAny_holding
abbrev û:=@Classical.choose_spec
abbrev ü:=@PySem.wpAny_mono
abbrev ý:=@PyProof.Rows.callWith_type1
abbrev þ:=@PySem.wpAny_setField_rec
abbrev ÿ:=@List.length_set
abbrev Ā:=@Array.getElem?_toList
abbrev ā:=@Array.length_toList
abbrev Ă:=@PySem.wpAny_truthy_bool
abbrev ă:=@Nat.ne_of_gt
abbrev Ą:=@List.mem_range
abbrev ą:=@List.filterMap_cons
abbrev Ć:=@List.length_drop
abbrev ć:=@List.getD_eq_getElem?_getD
abbrev Ĉ:=@List.length_filter_le
abbrev ĉ:=@PySem.F.slot_zip_next
abbrev Ċ:=@beq_eq_false_iff_ne
abbrev ċ:=@List.length_filterMap_le
abbrev Č:=@PySem.wpAny_seqItems
abbrev č:=@decide_true
abbrev Ď:=@List.length_replicate
abbrev ď:=@Nat.le_add_right
abbrev Đ:=@List.mem_filterMap
abbrev đ:=@PySem.sizeLine_eq
abbrev Ē:=@List.getElem?_take_of_lt
abbrev ē:=@PySem.Heap.get?_update_other
abbrev Ĕ:=@List.lookup_cons
abbrev ĕ:=@decide_false
abbrev Ė:=@PySem.Heap.size_push
abbrev ė:=@PyProof.Rows.slot_tuple_getitem
abbrev Ę:=@List.mem_append_left
abbrev ę:=@List.nodup_cons
abbrev Ě:=@List.nil_append
abbrev ě:=@PySem.wpAny_attempt
abbrev Ĝ:=@List.all_cons
abbrev ĝ:=@List.length_eq_zero_iff
abbrev Ğ:=@List.length_reverse
abbrev ğ:=@Bool.not_false
abbrev Ġ:=@List.getElem?_eq_none
abbrev ġ:=@List.any_eq_true
abbrev Ģ:=@PySem.wpAny_rule
abbrev ģ:=@Nat.lt_irrefl
abbrev Ĥ:=@List.nodup_append
abbrev ĥ:=@List.getElem?_set_ne
abbrev Ħ:=@PySem.wpAny_passesOwn
abbrev ħ:=@List.foldl_cons
abbrev Ĩ:=@PySem.wpAny_specialOf
abbrev ĩ:=@List.zip_cons_cons
abbrev Ī:=@PySem.F.slot_tuple_iterator_next
abbrev ī:=@List.getElem?_set_self
abbrev Ĭ:=@PySem.F.args_zip_next_1
abbrev ĭ:=@List.getElem?_eq_none_iff
abbrev Į:=@List.drop_eq_getElem_cons
abbrev į:=@PySem.wpAny_typeOf
abbrev İ:=@Nat.zero_add
abbrev ı:=@PySem.wpAny_isInstance
abbrev Ĳ:=@List.filterMap_cons_none
abbrev ĳ:=@PySem.F.entry_zip_next
abbrev Ĵ:=@List.filterMap_cons_some
abbrev ĵ:=@PySem.wpAny_getItem_str_slice
abbrev Ķ:=@Bool.not_true
abbrev ķ:=@List.mem_of_mem_take
abbrev ĸ:=@List.take_of_length_le
abbrev Ĺ:=@List.replicate_succ
abbrev ĺ:=PySem.Shared
abbrev Ļ:=PySem.Value
abbrev ļ:=PySem.Program
def q0{n:Nat}:n<=n:=Nat.le_refl n
def xF0:¬(false=true):=Bool.false_ne_true
abbrev dF0:=@decide_eq_false
abbrev dT0:=@decide_eq_true
abbrev iP:=@if_pos
abbrev iN:=@if_neg
abbrev mC:=@List.mem_cons
abbrev lC:=@List.length_cons
abbrev mO:=@List.mem_cons_of_mem
abbrev lM:=@List.length_map
abbrev nM:=@List.not_mem_nil
abbrev mS:=@List.mem_singleton
abbrev mF0:=@List.mem_cons_self
abbrev fT:=@Bool.false_eq_true
abbrev sA:=@List.size_toArray
abbrev lS:=@List.length_singleton
abbrev eL:=@Int.emod_lt_of_pos
abbrev eN0:=@Int.emod_nonneg
abbrev aE:=@Bool.and_eq_true
abbrev iF:=@if_false
abbrev aN:=@List.append_nil
abbrev lA:=@List.length_append
abbrev gS:=@List.getElem?_eq_some_iff
abbrev gE0:=@List.getElem?_eq_getElem
abbrev wB:=@PySem.wpAny_bind
abbrev wP:=@PySem.wpAny_pure
abbrev hP0:=@PySem.Heap.get?_push_of_some
abbrev mM:=@List.mem_map
abbrev lT:=@List.length_take
abbrev aA:=@List.append_assoc
abbrev VP:=PySem.Value->PySem.Shared->Prop
abbrev R0:=PySem.W.Frag
abbrev Q0:=List PySem.Expr
abbrev O0:=Option Int
abbrev N0:=List Bool
abbrev M0:=List (PySem.Addr×PySem.Obj)
abbrev L0:=PySem.Str->Option PySem.Value
abbrev K0:=List PySem.Str
abbrev B9:=List PySem.Addr
abbrev B0:=Array PySem.Value
abbrev A0:=List PySem.Value
abbrev Za:=List Int
abbrev Tk:=List (Int×Int)
abbrev Db:=List Nat
abbrev Ch:=List (List Nat)
set_option bootstrap.genMatcherCode true in
local macro_rules
 |`(#[0])=>`(by lia)
abbrev Ň:="_law_script"
abbrev ň:="_law_rows_here"
abbrev ŉ:="_law_many"
abbrev Ŋ:="_law_cell"
abbrev ŋ:="_law_rest"
abbrev Ō:="_law_words_here"
abbrev ō:="_law_wanted"
abbrev Ŏ:="_law_values_here"
abbrev ŏ:="_law_k"
abbrev Ő:="_law_words_by_digits"
abbrev ő:="_law_cells"
abbrev Œ:="_law_name_in"
abbrev œ:="_law_first"
abbrev Ŕ:="_law_start"
abbrev ŕ:="_law_cell_at"
abbrev Ŗ:="_law_values"
abbrev ŗ:="_law_extra"
abbrev Ř:="_law_words"
abbrev ř:="_law_drawn"
abbrev Ś:="_law_leads"
abbrev ś:="_law_rows"
abbrev Ŝ:="_law_sure"
abbrev ŝ:="_law_t"
abbrev Ş:="_law_key"
abbrev ş:="_law_number"
abbrev Š:="_law_value"
abbrev š:="_law_word"
namespace L2
open PySem PySem.Spec PyProof.Rows
abbrev Key:=Sum Int Str
noncomputable def sM:Key->Ļ->Bool
 |.inl k,v=>Value.isInt k v
 |.inr x,v=>Value.isStrOf x v
noncomputable def zBI(w:World):Key->Int
 |.inl k=>hashInt k
 |.inr x=>hashStr w x
def xD: ∀{k}{v},sM k v=true->(∃i t,k=Sum.inl i/\v=Value.int i t)\/(∃x t,k=Sum.inr x/\v=Value.str x t)
 |.inl i,v,h=>by obtain⟨t,e⟩:=Value.isInt_shape h;exact .inl ⟨i,t,rfl,e⟩
 |.inr x,v,h=>by obtain⟨t,e⟩:=Value.isStrOf_shape h;exact .inr ⟨x,t,rfl,e⟩
def Ia(i)(t):sM (.inl i) (.int i t)=true:=by simp[sM,Value.isInt]
def Ib(x)(t):sM (.inr x) (.str x t)=true:=by simp[sM,Value.isStrOf]
def J5(a b):decide ((Sum.inl a:Key)=Sum.inl b)=(a==b):=by
 by_cases e:a=b
 .subst e;simp
 .have h: ¬(Sum.inl a:Key)=Sum.inl b:=λq=>e (Sum.inl.inj q);rw[dF0 h];exact(Ċ.mpr e).symm
def J6(a b):decide ((Sum.inr a:Key)=Sum.inr b)=decide (a=b):=by
 by_cases e:a=b
 .subst e;simp
 .have h: ¬(Sum.inr a:Key)=Sum.inr b:=λq=>e (Sum.inr.inj q);rw[dF0 h,dF0 e]
def J7(a)(b):decide ((Sum.inl a:Key)=Sum.inr b)=false:=dF0 (λq=>nomatch q)
def J8(a)(b):decide ((Sum.inr a:Key)=Sum.inl b)=false:=dF0 (λq=>nomatch q)
def jT(prog)(w):PySem.KeyKind prog w Key where
 is:=sM
 hash:=zBI w
 inj:=λv a b ha hb=>by
  rcases xD ha with⟨i,t,rfl,rfl⟩|⟨x,t,rfl,rfl⟩
  .rcases xD hb with⟨j,u,rfl,e⟩|⟨y,u,rfl,e⟩
   .injection e with e1 _;rw[e1]
   .exact nomatch e
  .rcases xD hb with⟨j,u,rfl,e⟩|⟨y,u,rfl,e⟩
   .exact nomatch e
   .injection e with e1 _;rw[e1]
 byValue:=λk v h=>by rcases xD h with⟨i,t,rfl,rfl⟩|⟨x,t,rfl,rfl⟩<;>rfl
 pyHash:=λhv h=>by
  rcases xD hv with⟨i,t,rfl,rfl⟩|⟨x,t,rfl,rfl⟩
  .exact wpAny_pyHash_int h
  .exact wpAny_pyHash_str h
 eqBool:=λhu hv h=>by
  rcases xD hu with⟨i,t,rfl,rfl⟩|⟨x,t,rfl,rfl⟩
  .rcases xD hv with⟨j,u,rfl,rfl⟩|⟨y,u,rfl,rfl⟩
   .rw[J5]at h;exact wpAny_eqBool_int h
   .rw[J7]at h;exact SeqAt.EqAt.int_str i t y u _ _ _ _ h
  .rcases xD hv with⟨j,u,rfl,rfl⟩|⟨y,u,rfl,rfl⟩
   .rw[J8]at h;exact SeqAt.EqAt.str_int x t j u _ _ _ _ h
   .rw[J6]at h;exact wpAny_eqBool_str h
 «strs»:=λk x t v h=>by
  rcases xD h with⟨i,u,rfl,e⟩|⟨y,u,rfl,e⟩
  .exact nomatch e
  .injection e with e1 _
   subst e1;cases v<;>rfl
def JR(prog)(w)(i)(t):(jT prog w).is (.inl i) (.int i t)=true:=Ia i t
def vO(prog)(w)(x)(t):(jT prog w).is (.inr x) (.str x t)=true:=Ib x t
inductive V where
 |non|bl (b:Bool)|int (i:Int)|str (x:Str)|byt (b:Array UInt8)|flt (b:UInt64)|ref (a:Addr)|ty (n:String)
 deriving DecidableEq
def RelV:V->Ļ->Prop
 |.non,u=>u=Value.none
 |.bl b,u=>u=Value.bool b
 |.int i,u=> ∃t,u=Value.int i t
 |.str x,u=> ∃t,u=Value.str x t
 |.byt b,u=> ∃t,u=Value.bytes b t
 |.flt b,u=> ∃t,u=Value.float b t
 |.ref a,u=>u=Value.ref a
 |.ty n,u=>u=Value.type n
abbrev Vals:List V->List Value->Prop:=Paired RelV
def Vals.length(r:Vals xs us):xs.length=us.length:=Paired.length r
theorem Vals.get: ∀{xs}{us}{i:Nat}{x},Vals xs us->xs[i]? =some x-> ∃u,us[i]? =some u/\RelV x u
 |_,_,_,_,.nil,e=>by simp at e
 |_,_,0,_,.cons r _,e=>by simp at e;subst e;exact⟨_,rfl,r⟩
 |_,_,i+1,x,.cons _ t,e=>by obtain⟨u,b,a⟩:=Vals.get t (by simpa using e);exact⟨u,by simpa using b,a⟩
theorem Vals.set(r:RelV x u): ∀{xs}{us} i ,Vals xs us->Vals (xs.set i x) (us.set i u)
 |_,_,_,.nil=>.nil
 |_,_,0,.cons _ t=>.cons r t
 |_,_,i+1,.cons q t=>.cons q (Vals.set r i t)
theorem Vals.append: ∀{xs a}{us ws},Vals xs us->Vals a ws->Vals (xs++a) (us++ws)
 |_,_,_,_,.nil,s=>s
 |_,_,_,_,.cons r t,s=>.cons r (Vals.append t s)
theorem Vals.take: ∀{xs}{us} n ,Vals xs us->Vals (xs.take n) (us.take n)
 |_,_,0,_=>.nil
 |_,_,_+1,.nil=>.nil
 |_,_,n+1,.cons r t=>.cons r (Vals.take n t)
theorem Vals.drop: ∀{xs}{us} n ,Vals xs us->Vals (xs.drop n) (us.drop n)
 |_,_,0,r=>r
 |_,_,_+1,.nil=>.nil
 |_,_,n+1,.cons _ t=>Vals.drop n t
theorem Vals.none_of: ∀{xs}{us}{i:Nat},Vals xs us->xs[i]? =none->us[i]? =none:=λ{xs us i} r e=>by have b:=r.length;have a:=ĭ.mp e;exact ĭ.mpr #[0]
def RelO:Option V->Option Ļ->Prop
 |some v,some u=>RelV v u
 |none,none=>True
 |_,_=>False
def KV{a:Type}:List (a×V)->List (a×Ļ)->Prop:=Paired λ(p:a×V) (q:a×Ļ)=>p.1=q.1/\RelV p.2 q.2
noncomputable def kV:Key->V
 |.inl i=>.int i
 |.inr x=>.str x
inductive HO where
 |lst (xs:List V)
 |tup (xs:List V)
 |dK (kvs:List (Key×V))|dT (kvs:List (List Key×V))
 |set (S:Int->Bool) (n:Nat)
 |ins (C dx:Addr) (fs:List (Str×V))
 |own (x:Addr)
 |xd (fs:List (Str×V))
 |met (f x:Addr)
 |rng (lo hi:Int)
 |frz (o:Obj) (u:HO)
 |tbl (ps:B0)
 |ext (φ:Heap->Prop)
abbrev Hp:=Addr->Option HO
noncomputable def jS(H:Hp)(a:Addr)(o:HO):Hp:=λb=>if b=a then some o else H b
def yE:jS H a o a=some o:=by unfold jS;rw[iP rfl]
def zU(h:b≠a):jS H a o b=H b:=by unfold jS;rw[iN h]
def yM{H:Hp}(h:H a=some o)(h':H b=none):a≠b:=by intro e;subst e;rw[h]at h';cases h'
section
variable(P:ļ)(w:World)
def ObjOk(H:Hp)(h:Heap)(a:Addr):HO->Prop
 |.lst xs=>xs.length<=sizeLine/\ ∃(b:A0)(n:Nat),Vals xs b/\h.get? a=some {cls:=.type "list",data:=.seq b.toArray n}
 |.tup xs=>xs.length<=sizeLine/\ ∃b:List Ļ,Vals xs b/\IsTup h a b.toArray
 |.dK kvs=>kvs.length<=sizeLine/\(a==sysModules)=false/\ ∃e,KV kvs e/\h.DictOf (jT P w) a e
 |.dT kvs=>kvs.length<=sizeLine/\(a==sysModules)=false/\ ∃xs:List (List Key×Addr×Ļ),
   Paired (λ(p:List Key×V) (q:List Key×Addr×Ļ)=>p.1=q.1/\H q.2.1=some (.tup (p.1.map kV))/\RelV p.2 q.2.2) kvs xs/\
   ∃o es j,h.get? a=some o/\o.ExactDict/\o.data=.dict es j/\es.toList=xs.map (entryOfKey (tupleKind (jT P w)))/\(xs.map (·.1)).Nodup
 |.set S n=>h.SetOf (intKind P w) a S n
 |.ins C dx fs=>H dx=some (.own a)/\fs.length<=1000/\dx≠a/\h.get? a=some (PySem.W.instObj C dx)/\
   ∃c,h.Ns1 dx c/\(∀f,RelO (fs.lookup f) (c f))/\PySem.Within c (fs.map (·.1))
 |.own _=> ∃o,h.get? a=some o
 |.xd fs=> ∃c,h.Ns1 a c/\ ∀f,RelO (fs.lookup f) (c f)
 |.rng lo hi=> ∃t u v,h.get? a=some {cls:=.type "range",data:=.fields #[.int lo t,.int hi u,.int 1 v]}
 |.frz o u=>h.get? a=some o/\ObjOk H h a u
 |.tbl ps=>h.get? a=some {cls:=.none,data:=.fields ps}
 |.met f x=>h.get? a=some (PySem.W.methodObj (.ref f) (.ref x))
 |.ext φ=>φ h/\(∃o,h.get? a=some o)/\ ∀i d:Heap,φ i->(∀o,i.get? a=some o->d.get? a=some o)->φ d
def HOk(H:Hp)(h:Heap):Prop:= ∀a o,H a=some o->ObjOk P w H h a o
end
section
variable{a:Addr}{o:HO}
def ObjOk.lt(x:ObjOk P w H h a o):a<h.objs.size:=by
 cases o with
 |lst xs=>obtain⟨_,_,_,_,e⟩:=x;exact ä e
 |tup xs=>obtain⟨_,_,_,p⟩:=x;exact p.lt
 |dK kvs=>obtain⟨_,_,_,_,o,_,_,e,_⟩:=x;exact ä e
 |dT kvs=>obtain⟨_,_,_,_,o,_,_,e,_⟩:=x;exact ä e
 |set S n=>obtain⟨o,_,_,_,e,_⟩:=x;exact ä e
 |ins C dx fs=>obtain⟨_,_,_,e,_⟩:=x;exact ä e
 |own y=>obtain⟨_,e⟩:=x;exact ä e
 |xd fs=>obtain⟨_,⟨_,_,_,e,_⟩,_⟩:=x;exact ä e
 |rng lo hi=>obtain⟨_,_,_,e⟩:=x;exact ä e
 |frz ob u=>obtain⟨e,_⟩:=x;exact ä e
 |tbl ps=>exact ä x
 |met f y=>exact ä x
 |ext φ=>obtain⟨_,⟨_,e⟩,_⟩:=x;exact ä e
theorem Paired.mapP: ∀{l₁}{c:List β},Paired F l₁ c->(∀a b,F a b->G a b)->Paired G l₁ c
 |_,_,.nil,_=>.nil
 |_,_,.cons r t,f=>.cons (f _ _ r) (Paired.mapP t f)
def ObjOk.stay(x:ObjOk P w H h a o)(k: ∀b u,(b=a\/H b=some (.own a))->h.get? b=some u->h'.get? b=some u)
  (ho: ∀b,H b=some (.own a)->H' b=some (.own a)) (ht: ∀b xs,H b=some (.tup xs)->H' b=some (.tup xs)):ObjOk P w H' h' a o:=by
 induction o with
 |lst xs=>obtain⟨z,m,n,r,e⟩:=x;exact⟨z,m,n,r,k _ _ (.inl rfl) e⟩
 |tup xs=>obtain⟨z,m,r,i,e,c⟩:=x;exact⟨z,m,r,i,k _ _ (.inl rfl) e,c⟩
 |dK kvs=>obtain⟨z,y,B,r,i,es,j,e,c⟩:=x;exact⟨z,y,B,r,i,es,j,k _ _ (.inl rfl) e,c⟩
 |dT kvs=>
  obtain⟨z,y,xs,r,i,es,j,e,c⟩:=x;exact⟨z,y,xs,Paired.mapP r λp q z=>⟨z.1,ht _ _ z.2.1,z.2.2⟩,i,es,j,k _ _ (.inl rfl) e,c⟩
 |set S n=>obtain⟨i,es,j,t,e,c⟩:=x;exact⟨i,es,j,t,k _ _ (.inl rfl) e,c⟩
 |ins C dx fs=>
  obtain⟨d,z,ne,e,s,⟨A,es,j,D,c⟩,r⟩:=x;exact⟨ho _ d,z,ne,k _ _ (.inl rfl) e,s,⟨A,es,j,k _ _ (.inr d) D,c⟩,r⟩
 |own y=>obtain⟨i,e⟩:=x;exact⟨i,k _ _ (.inl rfl) e⟩
 |xd fs=>obtain⟨s,⟨A,es,j,e,c⟩,r⟩:=x;exact⟨s,⟨A,es,j,k _ _ (.inl rfl) e,c⟩,r⟩
 |rng lo hi=>obtain⟨t,u,v,e⟩:=x;exact⟨t,u,v,k _ _ (.inl rfl) e⟩
 |frz i u ih=>obtain⟨e,q⟩:=x;exact⟨k _ _ (.inl rfl) e,ih q⟩
 |tbl ps=>
  have e:=x;exact k a _ (.inl rfl) e
 |met f y=>
  have e:h.get? a=some _:=x;show h'.get? a=some _;exact k a _ (.inl rfl) e
 |ext φ=>obtain⟨p,⟨o,e⟩,st⟩:=x;exact⟨st _ _ p λo q=>k _ _ (.inl rfl) q,⟨o,k _ _ (.inl rfl) e⟩,st⟩
def HOk.lt(x:HOk P w H h)(e:H a=some o):a<h.objs.size:=(x a o e).lt
def HOk.fresh(x:HOk P w H h)(e:h.objs.size<=a):H a=none:=by
 cases q:H a with
 |none=>rfl
 |some u=>exact absurd (æ (x.lt q) e) (ģ _)
def HOk.kept(x:HOk P w H h)(k: ∀b u,h.get? b=some u->h'.get? b=some u):HOk P w H h':=λa o e=>
 (x a o e).stay (λb u _ q=>k b u q) (λ_ q=>q) λ_ _ q=>q
def HOk.laid(x:HOk P w H h)(k: ∀b u,h.get? b=some u->h'.get? b=some u)(i:h.objs.size<=a)(new:ObjOk P w (jS H a o) h' a o):HOk P w (jS H a o) h':=λb u e=>by
 have d:=x.fresh i;by_cases f:b=a
 .subst f;rw[yE]at e;cases e;exact new
 .rw[zU f]at e;exact(x b u e).stay (λc v _ q=>k c v q) (λc q=>by rw[zU (yM q d)];exact q) λc xs q=>by rw[zU (yM q d)];exact q
end
def Rd(H:Hp)(a:Addr)(u:HO):Prop:=H a=some u\/ ∃o,H a=some (.frz o u)
def Rd.ok(r:Rd H a u)(x:HOk P w H h):ObjOk P w H h a u:=by
 rcases r with r|⟨o,r⟩
 .exact x a u r
 .obtain⟨_,q⟩:=x a _ r;exact q
def zAZ:Option HO->Prop
 |some (.lst _)=>True
 |some (.dK _)=>True
 |some (.dT _)=>True
 |some (.set _ _)=>True
 |some (.ins _ _ _)=>True
 |some (.ext _)=>True
 |_=>False
section
theorem HOk.write(ok:HOk P w H h)(j:zAZ (H x))(o:e=x\/H e=some (.own x))(k: ∀b u,b≠e->h.get? b=some u->h'.get? b=some u)(n: ∃u,h'.get? e=some u)
  (new:ObjOk P w (jS H x o') h' x o'):HOk P w (jS H x o') h':=λb u q=>by
 have d: ∀c y,H c=some (.own y)->c≠x:=λc y r z=>by subst z;rw[r]at j;exact j
 have f: ∀c xs,H c=some (.tup xs)->c≠x:=λc xs r z=>by subst z;rw[r]at j;exact j
 by_cases m:b=x
 .subst m;rw[yE]at q;cases q;exact new
 .rw[zU m]at q;by_cases a:b=e
  .have p:H b=some (.own x):=by
    rcases o with z|z
    .exact absurd (a.trans z) m
    .rw[a];exact z
   rw[q]at p;cases p;obtain⟨v,s⟩:=n;exact⟨v,by rw[a];exact s⟩
  .refine(ok b u q).stay (λc v i r=>k c v ?_ r) (λc r=>by rw[zU (d c b r)];exact r) λc xs r=>by rw[zU (f c xs r)];exact r
   rcases i with rfl|i
   .exact a
   .rintro rfl;rcases o with z|z
    .exact d c b i z
    .rw[i]at z;cases z;exact m rfl
end
structure Un(fs ex:B9)(H H':Hp)(h h':Heap):Prop where
 keep: ∀b o,h.get? b=some o->H b=none->b∉fs->b∉ex->h'.get? b=some o
 slot: ∀b o,h.get? b=some o->H b=none->b∈fs->b∉ex-> ∃sl,h'.get? b=some {o with slots:=sl}
 free: ∀b o,h.get? b=some o->H b=none->b∉ex->H' b=none
 there: ∀b o,h.get? b=some o->b∉ex-> ∃o',h'.get? b=some o'
 tups: ∀b xs,H b=some (.tup xs)->H' b=some (.tup xs)
 frzs: ∀b o u,H b=some (.frz o u)->H' b=some (.frz o u)
 tbls: ∀b ps,H b=some (.tbl ps)-> ∃more,H' b=some (.tbl (ps++more))
section
variable{h:Heap}{a:Addr}
def Un.any(u:Un fs ex H H1 h h1)(q:h.get? b=some ob)(n:H b=none)(c:b∉ex): ∃sl,h1.get? b=some {ob with slots:=sl}:=by
 by_cases a:b∈fs
 .exact u.slot b ob q n a c
 .exact⟨_,u.keep b ob q n a c⟩
def Un.kept(k: ∀b u,h.get? b=some u->h'.get? b=some u):Un fs ex H H h h':=
 ⟨λb a q _ _ _=>k b a q,λb a q _ _ _=>⟨_,k b a q⟩,λ_ _ _ n _=>n,λb a q _=>⟨a,k b a q⟩,λ_ _ q=>q,λ_ _ _ q=>q,λ_ ps q=>⟨#[],by rw[q];simp⟩⟩
def Un.refl:Un fs ex H H h h:=Un.kept λ_ _ q=>q
def Un.laid(k: ∀b u,h.get? b=some u->h'.get? b=some u)(hp:h.objs.size<=a)(hn:H a=none):Un fs ex H (jS H a o) h h' where
 keep:=λb u q _ _ _=>k b u q
 slot:=λb u q _ _ _=>⟨_,k b u q⟩
 free:=λb u q n _=>by rw[zU (ê (æ (ä q) hp))];exact n
 there:=λb u q _=>⟨u,k b u q⟩
 tups:=λb xs q=>by rw[zU (yM q hn)];exact q
 frzs:=λb u xs q=>by rw[zU (yM q hn)];exact q
 tbls:=λb ps q=>⟨#[],by rw[zU (yM q hn),q];simp⟩
def Un.write(c:zAZ (H x))(p:e=x\/H e=some (.own x))(k: ∀b u,b≠e->h.get? b=some u->h'.get? b=some u)(f: ∃u,h'.get? e=some u):Un fs ex H (jS H x o) h h':=by
 have i: ∀b,H b=none->b≠x:=λb n z=>by subst z;rw[n]at c;exact c
 have j: ∀b,H b=none->b≠e:=λb n z=>by
  subst z;rcases p with r|r
  .exact i b n r
  .rw[n]at r;cases r
 have d: ∀b u,H b=some u-> ¬zAZ (some u)->b≠x:=λb u q m z=>by subst z;rw[q]at c;exact m c
 refine⟨λb u q n _ _=>k b u (j b n) q,λb u q n _ _=>⟨_,k b u (j b n) q⟩,λb u q n _=>by rw[zU (i b n)];exact n,λb u q _=>?_,
  λb xs q=>by rw[zU (d b _ q λz=>z)];exact q,λb u xs q=>by rw[zU (d b _ q λz=>z)];exact q,λb ps q=>⟨#[],by rw[zU (d b _ q λz=>z),q];simp⟩⟩
 by_cases a:b=e
 .subst a;exact f
 .exact⟨u,k b u a q⟩
end
noncomputable def trk(h:Heap)(H:Hp):List Addr:=(List.range h.objs.size).filter λa=>(H a).isSome
def Ic(h:Heap)(H:Hp):Heap:=PySem.W.hideAll h (trk h H)
def Id(h)(H):(Ic h H).objs.size=h.objs.size:=PySem.W.hideAll_size _ _
def Lj(e:h.get? b=some o)(n:H b=none):(Ic h H).get? b=some o:=
 PySem.W.hideAll_get _ e λa=>by have q:=(ñ.mp a).2;rw[n]at q;simp at q
def Tu(e:(Ic h H).get? b=some o):h.get? b=some o/\H b=none:=by
 have a:=PySem.W.of_hideAll _ e;refine⟨a,?_⟩
 cases q:H b with
 |none=>rfl
 |some x=>
  have c:b∈trk h H:=ñ.mpr ⟨Ą.mpr (ä a),by simp[q]⟩;have z:(Ic h H).get? b=none:=PySem.W.hideAll_none _ c;rw[z]at e;cases e
noncomputable def Tv(g h:Heap)(L:Addr):List (Addr×Obj):=(List.range h.objs.size).filterMap λa=>if a=L\/(g.get? a).isSome=true then none else(h.get? a).map λo=>(a,o)
def rest(g h:Heap)(L d:Addr):List (Addr×Obj):=(Tv g h L).filter λp=>decide (p.1≠d)
structure Mod(K:R0)(mg:L0)(base:Heap):Prop where
 kin:K.In base
 glob:base.Ns mainGlobals mg
 blt: ∃mb,base.Ns builtinsNs mb/\ ∀x:Str,x≠"__name__"->mb x=bootBuiltins x
 nolimit:base.NoLimit
structure Cx where
 prog:ļ
 w:World
 K:PySem.W.Frag
 mg:Str->Option Ļ
 base:Heap
 A:Around
 N:List Str
 s₀:ĺ
 H₀:Hp
 env:Env
 outer:List Env
 stack:List Env
 ex:List Addr
 fn:Str->Bool
 calm:Bool
 pn:List (Addr×Obj)
 xe:VP
noncomputable def Ie(l:List Env):List Addr:=l.filterMap (·.frame)
abbrev Cx.fs(X:Cx):List Addr:=Ie X.outer
def zBJ(a:Scope)(x:Str):Prop:=a.names.lookup x=some .local\/a.names.lookup x=some .cell\/a.names.lookup x=some .free
def Loc(a:Scope)(x:Str):Prop:=a.names.lookup x=some .local\/a.names.lookup x=some .cell
def Look(a:Env)(h:Heap)(m:L0)(x:Str)(u:Ļ):Prop:=
 (a.kindOf x=some .local/\m x=some u)\/((a.kindOf x=some .cell\/a.kindOf x=some .free)/\ ∃c,a.cells.lookup x=some c/\h.IsCell c (some u))
structure Cx.Ok(X:Cx):Prop where
 mod:Mod X.K X.mg X.base
 kind:X.env.scope.kind=.function
 glob:X.env.globals=mainGlobals
 blt:X.env.builtins=builtinsNs
 above:X.s₀.heap.objs.size<=X.env.locals
 inj: ∀x y c,X.env.cells.lookup x=some c->X.env.cells.lookup y=some c->x=y
 has: ∀x,(X.env.kindOf x=some .cell\/X.env.kindOf x=some .free)-> ∃c,X.env.cells.lookup x=some c
 cab: ∀x c,X.fn x=true->X.env.cells.lookup x=some c->X.s₀.heap.objs.size<=c
 hd:X.calm=true->X.A.handled=none
 frames:X.A.frames=some X.stack
 stk:X.stack=X.outer\/(X.stack=X.env::X.outer/\X.env.frame=some X.env.locals)
 exf: ∀b∈X.ex,b≠X.env.locals/\ ∀x c,X.env.cells.lookup x=some c->c≠b
 bs: ∀b o,X.base.get? b=some o->X.s₀.heap.get? b=some o/\X.H₀ b=none
 bsz:X.base.objs.size<=X.s₀.heap.objs.size
 noex: ∀b o,X.base.get? b=some o->b∉X.ex
 exfs: ∀b∈X.ex,b∉X.fs
 funs:X.s₀.heap.FunFrames X.base X.outer
 frf: ∀b∈X.fs,X.H₀ b=none
structure Inv(X:Cx)(pins:M0)(σ:List (Option V))(H:Hp)(s:ĺ):Prop where
 ok:X.Ok
 os:s.os=X.s₀.os
 bare:AllBare s.gens
 base:Un X.fs X.ex X.H₀ H X.s₀.heap s.heap
 loc: ∃m,s.heap.Ns X.env.locals m/\ ∀(i:Nat)(x:Str)(v:V),X.N[i]? =some x->σ[i]? =some (some v)->zBJ X.env.scope x-> ∃u,RelV v u/\Look X.env s.heap m x u
 cell: ∀x c,X.env.cells.lookup x=some c-> ∃v,s.heap.IsCell c v
 free:H X.env.locals=none
 freeC: ∀x c,X.env.cells.lookup x=some c->H c=none
 pin: ∀p∈X.pn++pins,s.heap.get? p.1=some p.2/\H p.1=none/\p.1≠X.env.locals/\p.1∉X.fs/\ ∀v,p.2.data≠.cell v
 hok:HOk X.prog X.w H s.heap
 len:σ.length=X.N.length
section
variable{X:Cx}{h':Heap}
def Cx.Ok.nofr(ok:X.Ok)(e:X.base.get? b=some o):b∉X.fs:=λa=>by have:=(ok.funs.mem a).1;rw[e]at this;cases this
def Inv.bs(I:↑2): ∀b o,X.base.get? b=some o->s.heap.get? b=some o/\H b=none:=λb o e=>
 ⟨I.base.keep b o (I.ok.bs b o e).1 (I.ok.bs b o e).2 (I.ok.nofr e) (I.ok.noex b o e),I.base.free b o (I.ok.bs b o e).1 (I.ok.bs b o e).2 (I.ok.noex b o e)⟩
def Inv.bk(I:↑2): ∀b o,X.base.get? b=some o->s.heap.get? b=some o:=λb o e=>(I.bs b o e).1
def Inv.mod(I:↑2):Mod X.K X.mg X.base:=I.ok.mod
def Inv.kIn(I:↑2):X.K.In s.heap:=I.ok.mod.kin.keeps I.bk
def Inv.lt(I:↑2):X.env.locals<s.heap.objs.size:=let ⟨_,a,_⟩:=I.loc;a.lt
def Inv.sz(I:↑2):X.s₀.heap.objs.size<=s.heap.objs.size:=ì I.ok.above (le_of_lt I.lt)
def Inv.nofs(I:↑2){a:Addr}(h:↑1<=a):a∉X.fs:=λc=>by obtain⟨_,o,b,_⟩:=I.ok.funs.mem c;exact absurd (æ (ä b) (ì I.sz h)) (ģ _)
def Inv.cne(I:↑2): ∀x c,X.env.cells.lookup x=some c->c≠X.env.locals:=λx c e z=>by obtain⟨v,o,d,f⟩:=I.cell x c e;obtain⟨m,⟨h,es,i,a,b,_⟩,_⟩:=I.loc;rw[z,a]at d;cases d;rw[b]at f;cases f
def Inv.funs(I:↑2):s.heap.FunFrames X.base X.outer:=by
 have all: ∀(l:List Env),(∀b∈Ie l,b∈X.fs)->X.s₀.heap.FunFrames X.base l->s.heap.FunFrames X.base l:=by
  intro l
  induction l with
  |nil=>intro _ _;trivial
  |cons env r ih=>
   intro f n;obtain⟨i,⟨L,o,a,m,j,k⟩,h⟩:=n;have c:=f L (by unfold Ie;rw[ą,a];exact mF0);obtain⟨sl,e⟩:=I.base.slot L o j (I.ok.frf L c) c λz=>I.ok.exfs L z c;exact⟨i,⟨L,_,a,m,e,k⟩,ih (λb d=>f b (by unfold Ie;rw[ą,a];exact mO _ d)) h⟩
 exact all X.outer (λ_ d=>d) I.ok.funs
def Inv.stack(I:↑2):s.heap.FunFrames X.base X.stack:=by
 rcases I.ok.stk with e|⟨e,hf⟩
 .rw[e];exact I.funs
 .rw[e];obtain⟨m,a,_⟩:=I.loc;refine .cons (by rw[I.ok.kind];decide) hf a ?_ I.funs;exact Heap.get?_none_of_le (ì I.ok.bsz I.ok.above)
def Inv.stkSub(I:↑2): ∀b∈Ie X.stack,b∈X.env.locals::X.fs:=λb a=>by
 rcases I.ok.stk with e|⟨e,hf⟩
 .rw[e]at a;exact mO _ a
 .rw[e]at a;unfold Ie at a;rw[ą,hf]at a;exact a
def Inv.stkFree(I:↑2): ∀b∈Ie X.stack,H b=none:=λb a=>by
 rcases mC.mp (I.stkSub b a)with e|a
 .rw[e];exact I.free
 .obtain⟨_,o,c,_⟩:=I.ok.funs.mem a;exact I.base.free b o c (I.ok.frf b a) λz=>I.ok.exfs b z a
def Inv.step{ch:B9}(I:↑2)
  (hch: ∀b∈ch,(b∈X.ex\/X.s₀.heap.objs.size<=b)/\b≠X.env.locals/\(∀x c,X.env.cells.lookup x=some c->c≠b)/\ ∀p∈X.pn++pins,p.1≠b)
  (keep: ∀b o,b≠X.env.locals->b∉X.fs->b∉ch->s.heap.get? b=some o->H b=none->h'.get? b=some o)
  (slot: ∀b o,b≠X.env.locals->b∈X.fs->b∉ch->s.heap.get? b=some o->H b=none-> ∃sl,h'.get? b=some {o with slots:=sl}) (free: ∀b o,b∉ch->s.heap.get? b=some o->H b=none->H' b=none)
  (there: ∀b o,b∉ch->s.heap.get? b=some o-> ∃C,h'.get? b=some C)
  (tups: ∀b xs,H b=some (.tup xs)->H' b=some (.tup xs)) (frzs: ∀b o u,H b=some (.frz o u)->H' b=some (.frz o u)) (tbls: ∀b ps,H b=some (.tbl ps)-> ∃D,H' b=some (.tbl (ps++D)))
  (ns: ∀m,s.heap.Ns X.env.locals m->h'.Ns X.env.locals m) (hok:HOk X.prog X.w H' h') (hg:AllBare g'):
  Inv X pins σ H' {s with heap:=h',gens:=g',drawn:=d',toks:=t'}:=by
 have B: ∀b o,X.s₀.heap.get? b=some o->b≠X.env.locals:=λb o e=>ê (æ (ä e) I.ok.above)
 have j: ∀b o,X.s₀.heap.get? b=some o->b∉X.ex->b∉ch:=λb o e a y=>by
  rcases (hch b y).1 with z|z
  .exact a z
  .exact absurd (æ (ä e) z) (ģ _)
 have h: ∀x c,X.env.cells.lookup x=some c-> ∀v,s.heap.IsCell c v->h'.IsCell c v:=λx c e v ⟨o,A,G⟩=>by
  have f:=λz=>(hch c z).2.2.1 x c e rfl;by_cases J:c∈X.fs
  .obtain⟨sl,q⟩:=slot c o (I.cne x c e) J f A (I.freeC x c e);exact⟨_,q,G⟩
  .exact⟨o,keep c o (I.cne x c e) J f A (I.freeC x c e),G⟩
 refine⟨I.ok,I.os,hg,⟨λb o e n y a=>?_,λb o e n y a=>?_,λb o e n a=>?_,λb o e a=>?_,λb xs e=>tups b xs (I.base.tups b xs e),λb o xs e=>frzs b o xs (I.base.frzs b o xs e),λb ps e=>?_⟩,?_,λx c e=>?_,?_,λx c e=>?_,λp K=>?_,hok,I.len⟩
 .exact keep b o (B b o e) y (j b o e a) (I.base.keep b o e n y a) (I.base.free b o e n a)
 .obtain⟨sl,t⟩:=I.base.slot b o e n y a;obtain⟨F,E⟩:=slot b _ (B b o e) y (j b o e a) t (I.base.free b o e n a);exact⟨F,E⟩
 .obtain⟨C,t⟩:=I.base.there b o e a;exact free b C (j b o e a) t (I.base.free b o e n a)
 .obtain⟨C,t⟩:=I.base.there b o e a;exact there b C (j b o e a) t
 .obtain⟨O,t⟩:=I.base.tbls b ps e;obtain⟨P,E⟩:=tbls b _ t;exact⟨_,by rw[E,Array.append_assoc]⟩
 .obtain⟨m,N,L⟩:=I.loc;refine⟨m,ns m N,λi x v t E M=>?_⟩;obtain⟨u,r,l⟩:=L i x v t E M;refine⟨u,r,?_⟩;rcases l with l|⟨k,c,e,z⟩
  .exact .inl l
  .exact .inr ⟨k,c,e,h x c e _ z⟩
 .obtain⟨v,z⟩:=I.cell x c e;exact⟨v,h x c e v z⟩
 .obtain⟨m,⟨o,_,_,A,_⟩,_⟩:=I.loc;exact free _ o (λz=>(hch _ z).2.1 rfl) A I.free
 .obtain⟨v,o,A,G⟩:=I.cell x c e;exact free c o (λz=>(hch c z).2.2.1 x c e rfl) A (I.freeC x c e)
 .obtain⟨e,n,ne,nf,d⟩:=I.pin p K;have f:=λz=>(hch p.1 z).2.2.2 p K rfl;exact⟨keep p.1 p.2 ne nf f e n,free p.1 p.2 f e n,ne,nf,d⟩
def Inv.un(I:Inv X pins σ H s)(u:Un X.fs [] H H' s.heap h')(d:HOk X.prog X.w H' h'):Inv X pins σ H' {s with heap:=h',toks:=t'}:=by obtain⟨m,⟨o,es,v,i,r⟩,_⟩:=id I.loc;obtain⟨sl,k⟩:=u.any i I.free (by simp);exact I.step (ch:=[]) (λ_ z=>nomatch z) (λb o _ h _ e n=>u.keep b o e n h (by simp)) (λb o _ h _ e n=>u.slot b o e n h (by simp)) (λb o _ e n=>u.free b o e n (by simp)) (λb o _ e=>u.there b o e (by simp)) u.tups u.frzs u.tbls (λt p=>by obtain⟨q,c,f,a,j⟩:=p;rw[i]at a;cases a;exact⟨_,c,f,k,j⟩) d I.bare
def Inv.call(I:↑2)(u:Un (Ie X.stack) ch H H' s.heap h')(h:HOk X.prog X.w H' h')(t:AllBare g')
  (hch: ∀b∈ch,(b∈X.ex\/X.s₀.heap.objs.size<=b)/\b≠X.env.locals/\(∀x c,X.env.cells.lookup x=some c->c≠b)/\ ∀p∈X.pn++pins,p.1≠b):
  Inv X pins σ H' {s with heap:=h',gens:=g',drawn:=d',toks:=t'}:=by
 obtain⟨m,⟨o,es,C,k,r⟩,_⟩:=id I.loc;obtain⟨sl,j⟩:=u.any k I.free λz=>(hch _ z).2.1 rfl;exact I.step hch (λb o j v a e n=>u.keep b o e n (λz=>(mC.mp (I.stkSub b z)).elim j v) a) (λb o _ _ a e n=>u.any e n a) (λb o a e n=>u.free b o e n a) (λb o a e=>u.there b o e a) u.tups u.frzs u.tbls (λB y=>by obtain⟨A,f,i,d,q⟩:=y;rw[k]at d;cases d;exact⟨_,f,i,j,q⟩) h t
def Inv.turned(I:↑2)(k: ∀b o,b≠it->s.heap.get? b=some o->h'.get? b=some o)(i:H it=none)(f:it≠X.env.locals)
  (h1:it∈X.ex\/X.s₀.heap.objs.size<=it) (h2: ∀x c,X.env.cells.lookup x=some c->c≠it) (h3: ∀p∈X.pn++pins,p.1≠it):Inv X pins σ H {s with heap:=h',toks:=t'}:=by
 have d: ∀b u,H b=some u->b≠it:=λb u e z=>by rw[z,i]at e;cases e
 refine I.step (ch:=[it]) (λb j=>?_) (λb o _ _ a e _=>k b o (λz=>a (by simp[z])) e) (λb o _ _ a e _=>⟨_,k b o (λz=>a (by simp[z])) e⟩) (λ_ _ _ _ n=>n)
  (λb o a e=>⟨o,k b o (λz=>a (by simp[z])) e⟩) (λ_ _ e=>e) (λ_ _ _ e=>e) (λb ps e=>⟨#[],by rw[e];simp⟩) (λm t=>?_) (λb u e=>?_) I.bare
 .have e:=by simpa using j
  subst e;exact⟨h1,f,h2,h3⟩
 .obtain⟨o,es,w,h,r⟩:=t;exact⟨o,es,w,k _ o (Ne.symm f) h,r⟩
 .refine(I.hok b u e).stay (λc v a q=>k c v ?_ q) (λ_ q=>q) λ_ _ q=>q;rcases a with z|z
  .rw[z];exact d b u e
  .exact d c _ z
def Inv.tok(I:↑2)(t):Inv X pins σ H {s with toks:=t}:=I.un Un.refl I.hok
def Inv.kept(I:↑2)(k: ∀b u,s.heap.get? b=some u->h'.get? b=some u):Inv X pins σ H {s with heap:=h',toks:=t'}:=I.un (Un.kept k) (I.hok.kept k)
def Inv.laid{a:Addr}(I:↑2)(k: ∀b u,s.heap.get? b=some u->h'.get? b=some u)(c:↑1<=a)(new:ObjOk X.prog X.w (jS H a o) h' a o):
  Inv X pins σ (jS H a o) {s with heap:=h',toks:=t'}:=I.un (Un.laid k c (I.hok.fresh c)) (I.hok.laid k c new)
def Inv.write(I:↑2)(c:zAZ (H x))(d:e=x\/H e=some (.own x))(k: ∀b u,b≠e->s.heap.get? b=some u->h'.get? b=some u)(a: ∃u,h'.get? e=some u)
  (new:ObjOk X.prog X.w (jS H x o) h' x o):Inv X pins σ (jS H x o) {s with heap:=h',toks:=t'}:=I.un (Un.write c d k a) (I.hok.write c d k a new)
def Inv.pins_of(I:↑2)(h: ∀p∈pins',s.heap.get? p.1=some p.2/\H p.1=none/\p.1≠X.env.locals/\p.1∉X.fs/\ ∀v,p.2.data≠.cell v):Inv X pins' σ H s:=
 ⟨I.ok,I.os,I.bare,I.base,I.loc,I.cell,I.free,I.freeC,λp a=>(å.mp a).elim (λz=>I.pin p (Ę _ z)) (h p),I.hok,I.len⟩
def XQ{N:K0}(c:N.Nodup){i:Nat}(a:N[i]? =some x)(b:N[j]? =some x):i=j:=by obtain⟨h,e⟩:=gS.mp a;obtain⟨f,d⟩:=gS.mp b;exact(getElem_inj c).mp (e.trans d.symm)
abbrev z3(X:Cx)(x:Str):Prop:=X.fn x=true\/X.env.scope.names.lookup x=some .local
def RA(I:↑2)(hN:X.N.Nodup)(hi:X.N[i]? =some x)(D:Loc X.env.scope x)(r:RelV v u)
  (h: ∀s',Inv X pins (σ.set i (some v)) H s'->(∃a,Heap.SameBut a s.heap s'.heap/\(a=X.env.locals\/X.env.cells.lookup x=some a))->Q () s') (hf:z3 X x:=by first |exact .inl rfl|exact .inr rfl|assumption):wpAny M A (storeName X.env x u) Q E s:=by
 obtain⟨m,hn,hl⟩:=id I.loc;have U:(X.env.scope.kind==.class || (X.env.scope.kind==.module&&X.env.locals !=X.env.globals))=false:=by rw[I.ok.kind];rfl
 have J:i<σ.length:=by rw[I.len];exact(gS.mp hi).1
 have cne:=I.cne
 have B: ∀{a:Addr}{h':Heap},(∃o,s.heap.get? a=some o/\H a=none)->Heap.SameBut a s.heap h'->HOk X.prog X.w H h':=λ{a h'} ha f b ob e=>by
  obtain⟨_,_,F⟩:=ha;refine(I.hok b ob e).stay (λc Y C q=>(f.2 c ?_).trans q) (λ_ q=>q) λ_ _ q=>q;rintro rfl;rcases C with rfl|C
  .rw[F]at e;cases e
  .rw[F]at C;cases C
 rcases D with hk|hk
 .refine wpAny_storeName_local hk hn (λh' ab f=>?_) U;obtain⟨oL,_,_,aa,_⟩:=id hn;refine h _ ⟨I.ok,I.os,I.bare,⟨λb o e n K D=>?_,λb o e n K D=>?_,I.base.free,λb o e D=>?_,I.base.tups,I.base.frzs,I.base.tbls⟩,⟨_,ab,λj y v' t G e3=>?_⟩,λy c e=>?_,I.free,I.freeC,λp hp=>?_,B ⟨oL,aa,I.free⟩ f,by simpa using I.len⟩ ⟨_,f,.inl rfl⟩
  .exact(f.2 b (ê (æ (ä e) I.ok.above))).trans (I.base.keep b o e n K D)
  .obtain⟨sl,t⟩:=I.base.slot b o e n K D;exact⟨sl,(f.2 b (ê (æ (ä e) I.ok.above))).trans t⟩
  .obtain⟨o',t⟩:=I.base.there b o e D;exact⟨o',(f.2 b (ê (æ (ä e) I.ok.above))).trans t⟩
  .by_cases O:j=i
   .subst O;rw[hi]at t;cases t;rw[ī J]at G;cases G;exact⟨u,r,.inl ⟨hk,by simp⟩⟩
   .rw[ĥ (Ne.symm O)]at G;obtain⟨u',r',q⟩:=hl j y v' t G e3;refine⟨u',r',?_⟩;rcases q with⟨k,e⟩|⟨k,c,e,z⟩
    .refine .inl ⟨k,?_⟩;have:y≠x:=λe=>O (XQ hN t (e▸hi));simp[this,e]
    .exact .inr ⟨k,c,e,z.sameBut f (cne y c e)⟩
  .obtain⟨Y,z⟩:=I.cell y c e;exact⟨Y,z.sameBut f (cne y c e)⟩
  .obtain⟨e,n,ne,nf,d⟩:=I.pin p hp;exact⟨(f.2 p.1 ne).trans e,n,ne,nf,d⟩
 .have L:X.fn x=true:=by
   rcases hf with z|z
   .exact z
   .rw[z]at hk;cases hk
  obtain⟨c,C⟩:=I.ok.has x (.inl hk);obtain⟨Y,z⟩:=I.cell x c C;refine wpAny_storeName_cell I.ok.kind hk C z (λh' S f=>?_);obtain⟨oc,P,T⟩:=id z;refine h {s with heap:=h'} ⟨I.ok,I.os,I.bare,⟨λb o e n K D=>?_,λb o e n K D=>?_,I.base.free,λb o e D=>?_,I.base.tups,I.base.frzs,I.base.tbls⟩,⟨m,hn.sameBut f (Ne.symm (cne x c C)),λj y v' t G e3=>?_⟩,λy Z e=>?_,I.free,I.freeC,λp hp=>?_,B ⟨oc,P,I.freeC x c C⟩ f,by simpa using I.len⟩ ⟨c,f,.inr C⟩
  .exact(f.2 b (ê (æ (ä e) (I.ok.cab x c L C)))).trans (I.base.keep b o e n K D)
  .obtain⟨sl,t⟩:=I.base.slot b o e n K D;exact⟨sl,(f.2 b (ê (æ (ä e) (I.ok.cab x c L C)))).trans t⟩
  .obtain⟨o',t⟩:=I.base.there b o e D;exact⟨o',(f.2 b (ê (æ (ä e) (I.ok.cab x c L C)))).trans t⟩
  .by_cases O:j=i
   .subst O;rw[hi]at t;cases t;rw[ī J]at G;cases G;exact⟨u,r,.inr ⟨.inl hk,c,C,S⟩⟩
   .rw[ĥ (Ne.symm O)]at G;obtain⟨u',r',q⟩:=hl j y v' t G e3;refine⟨u',r',?_⟩;rcases q with q|⟨k,Z,e,z'⟩
    .exact .inl q
    .refine .inr ⟨k,Z,e,z'.sameBut f ?_⟩;rintro rfl;exact O (XQ hN t (I.ok.inj _ _ _ e C▸hi))
  .by_cases W:Z=c
   .subst W;exact⟨_,S⟩
   .obtain⟨w2,z2⟩:=I.cell y Z e;exact⟨w2,z2.sameBut f W⟩
  .obtain⟨e,n,ne,nf,d⟩:=I.pin p hp;refine⟨(f.2 p.1 ?_).trans e,n,ne,nf,d⟩;intro q;rw[q,P]at e;have q':oc=p.2:=â e;exact d Y (by rw[<-q'];exact T)
def XR(I:↑2)(d:X.N.Nodup)(hi:X.N[i]? =some x)(b:Loc X.env.scope x)(r:RelV v u)
  (h: ∀a,Inv X pins (σ.set i (some v)) H a->Q () a) (hf:z3 X x:=by first |exact .inl rfl|exact .inr rfl|assumption):wpAny M A (storeName X.env x u) Q E s:=
 RA I d hi b r (λa c _=>h a c) hf
def Inv.call'(I:↑2)(ho:s'.os=s.os)(u:Un (Ie X.stack) ch H H' s.heap s'.heap)(a:HOk X.prog X.w H' s'.heap)(d:AllBare s'.gens)
  (hch: ∀b∈ch,(b∈X.ex\/X.s₀.heap.objs.size<=b)/\b≠X.env.locals/\(∀x c,X.env.cells.lookup x=some c->c≠b)/\ ∀p∈X.pn++pins,p.1≠b):Inv X pins σ H' s':=by
 obtain⟨h',j,h,f,i⟩:=s';have e:=ho;subst e;exact I.call u a d hch
end
abbrev XK:=Value->Option Addr->Hp->Prop
abbrev St:=List (Option V)
abbrev VK:=V->Hp->Prop
abbrev TE:=St->Hp->VK->Prop
abbrev TT:=St->Hp->(Bool->Hp->Prop)->Prop
abbrev TA:=St->Hp->(List V->Hp->Prop)->Prop
structure Ends where
 nx:St->Hp->Prop
 rt:VK
 bk:St->Hp->Prop:=λ_ _=>False
 ct:St->Hp->Prop:=λ_ _=>False
abbrev TS:=Ends->St->Hp->Prop
def EP(X:Cx)(pins:M0)(σ:St)(Q:VK)(u:Ļ)(a:ĺ):Prop:= ∃v H',Inv X pins σ H' a/\RelV v u/\Q v H'
def TP(X:Cx)(pins:M0)(σ:St)(Q:Bool->Hp->Prop)(b:Bool)(a:ĺ):Prop:= ∃H',Inv X pins σ H' a/\Q b H'
def AP(X:Cx)(pins:M0)(σ:St)(Q:List V->Hp->Prop)(us:A0)(b:ĺ):Prop:= ∃a H',Inv X pins σ H' b/\Vals a us/\Q a H'
def SP(X:Cx)(pins:M0)(D:Ends)(f:Flow)(b:ĺ):Prop:=
 match f with
 |.next=> ∃a H',Inv X pins a H' b/\D.nx a H'
 |.brk=> ∃a H',Inv X pins a H' b/\D.bk a H'
 |.cont=> ∃a H',Inv X pins a H' b/\D.ct a H'
 |.ret u=> ∃v a H',Inv X pins a H' b/\RelV v u/\D.rt v H'
def PE(X:Cx)(e:Expr)(t:TE):Prop:=
 ∀(pins:M0)(s:ĺ)(σ:St)(H:Hp)(Q:VK),Inv X pins σ H s->t σ H Q->wpAny ↑4 X.A (eval e X.env) (EP X pins σ Q) X.xe s
def PT(X:Cx)(e:Expr)(t:TT):Prop:=
 ∀(pins:M0)(s:ĺ)(σ:St)(H:Hp)(Q:Bool->Hp->Prop),Inv X pins σ H s->t σ H Q->wpAny ↑4 X.A (isTrue e X.env (eval e X.env)) (TP X pins σ Q) X.xe s
def PW(X:Cx)(e:Expr)(t:TT):Prop:=
 ∀(a:Sem Ļ)(pins:M0)(s:ĺ)(σ:St)(H:Hp)(Q:Bool->Hp->Prop),Inv X pins σ H s->t σ H Q->wpAny ↑4 X.A (isTrue e X.env a) (TP X pins σ Q) X.xe s
def PW.pt(h:PW X e t):PT X e t:=h _
def PA(X:Cx)(es:Q0)(t:TA):Prop:=
 ∀(pos:Pos)(pins:M0)(s:ĺ)(σ:St)(H:Hp)(Q:List V->Hp->Prop),Inv X pins σ H s->t σ H Q->wpAny ↑4 X.A (spliced (backTo pos (starEach es X.env))) (AP X pins σ Q) X.xe s
def PS(X:Cx)(st:Stmt)(t:TS):Prop:=
 ∀(pins:M0)(s:ĺ)(σ:St)(H:Hp)(D:Ends),Inv X pins σ H s->t D σ H->wpAny ↑4 X.A (exec st X.env) (SP X pins D) X.xe s
def PSs(X:Cx)(st:List Stmt)(t:TS):Prop:=
 ∀(pins:M0)(s:ĺ)(σ:St)(H:Hp)(D:Ends),Inv X pins σ H s->t D σ H->wpAny ↑4 X.A (execs st X.env) (SP X pins D) X.xe s
def gH(h:wpAny M A t Q E s)(b: ∀a s,Q a s->Q' a s):wpAny M A t Q' E s:=ü h b λ_ _ x=>x
section
variable{X:Cx}
def zBK(i:Nat):TE:=λσ H Q=> ∃v,σ[i]? =some (some v)/\Q v H
def tC(v:V):TE:=λ_ H Q=>Q v H
def J9{pos:Pos}(f:X.N[i]? =some x)(k:zBJ X.env.scope x)(b:(x==("__debug__"))=false:=by decide)(d:(x==("__classdict__"))=false:=by decide):PE X (.Name x pos) (zBK i):=by
 intro pins s σ H Q I h;obtain⟨v,e,h⟩:=h;obtain⟨m,j,n⟩:=I.loc;obtain⟨u,r,l⟩:=n i x v f e k;have a:EP X pins σ Q u s:=⟨v,H,I,r,h⟩
 rcases l with⟨hk,hm⟩|⟨hk,c,hc,hcell⟩
 .exact wpAny_Name (wpAny_loadName_local I.ok.kind hk j hm a) b
 .rcases hk with hk|hk
  .exact wpAny_Name (wpAny_loadName_cell I.ok.kind hk hc hcell a) b
  .exact wpAny_Name (wpAny_loadName_free I.ok.kind hk hc hcell a d) b
def Lk:PE X (.Constant (.int i) j pos) (tC (.int i)):=λ_ _ _ H _ I h=>wpAny_Constant_int ⟨.int i,H,I.tok _,⟨_,rfl⟩,h⟩
def zBL:PE X (.Constant (.bool b) j pos) (tC (.bl b)):=λ_ _ _ H _ I h=>Constant_bool ⟨.bl b,H,I,rfl,h⟩
def K1:PE X (.Constant .none j pos) (tC .non):=λ_ _ _ H _ I h=>Constant_none ⟨.non,H,I,rfl,h⟩
def K2:PE X (.Constant (.str x) j pos) (tC (.str x)):=λ_ _ _ H _ I h=>Calls.Constant_str ⟨.str x,H,I.tok _,⟨_,rfl⟩,h⟩
def Gl(X:Cx)(x:Str):Prop:=X.env.kindOf x=some .globalImplicit
def Dy(I:↑2)(b:Gl X x)(a:X.mg x=some u)(h:Q u s)
  (hd:(x==("__debug__"))=false:=by decide):wpAny ↑4 X.A (eval (.Name x pos) X.env) Q E s:=
 Calls.Name_function_global I.ok.kind b (Calls.loadGlobal_global (by rw[I.ok.glob];exact I.mod.glob.keeps I.bk) a h) hd
def qY{E:VP}{pos:Pos}(I:↑2)(c:Gl X x)(b:X.mg x=none)(d:bootBuiltins x=some u)(h:Q u s)
  (hn:x≠"__name__":=by decide) (hd:(x==("__debug__"))=false:=by decide):wpAny ↑4 X.A (eval (.Name x pos) X.env) Q E s:=by
 obtain⟨f,e,a⟩:=I.mod.blt;exact Calls.Name_function_global I.ok.kind c (Calls.loadGlobal_builtin (by rw[I.ok.glob];exact I.mod.glob.keeps I.bk) b (by rw[I.ok.blt];exact e.keeps I.bk) ((a x hn).trans d) h) hd
def Tw{pos:Pos}(c:Gl X x)(b:X.mg x=none)(e:bootBuiltins x=some u)(r:RelV v u)(d:x≠"__name__":=by decide)(a:(x==("__debug__"))=false:=by decide):PE X (.Name x pos) (tC v):=
 λ_ _ _ H _ I h=>qY I c b e ⟨v,H,I,r,h⟩ d a
variable{rest:Q0}
def tAnd(t u:TT):TT:=λσ H Q=>t σ H λc a=>if c=true then u σ a Q else Q false a
def tOr(t u:TT):TT:=λσ H Q=>t σ H λc a=>if c=true then Q true a else u σ a Q
def tNot(t:TT):TT:=λσ H Q=>t σ H λc a=>Q (!c) a
def Tx(b:PT X a tA):PW X (.BoolOp .And [a] pos) tA:=by
 intro d pins s σ H Q I h;refine isTrue_and (gH (b pins s σ H Q I h) λc f e=>?_)
 cases c with
 |true=>exact isTrue_and_nil e
 |false=>exact e
def K4(b:PT X a tA):PW X (.BoolOp .Or [a] pos) tA:=by
 intro d pins s σ H Q I h;refine isTrue_or (gH (b pins s σ H Q I h) λc f e=>?_)
 cases c with
 |false=>exact isTrue_or_nil e
 |true=>exact e
def K5(k:PT X a tA)(j:PW X (.BoolOp .And (b::rest) pos) tB'):PW X (.BoolOp .And (a::b::rest) pos) (tAnd tA tB'):=by
 intro f pins s σ H Q I h;refine isTrue_and (gH (k pins s σ H _ I h) λc i ⟨d,I1,e⟩=>?_)
 cases c with
 |true=>exact j f pins i σ d Q I1 e
 |false=>exact⟨d,I1,e⟩
def zBM(k:PT X a tA)(j:PW X (.BoolOp .Or (b::rest) pos) tB'):PW X (.BoolOp .Or (a::b::rest) pos) (tOr tA tB'):=by
 intro f pins s σ H Q I h;refine isTrue_or (gH (k pins s σ H _ I h) λc i ⟨d,I1,e⟩=>?_)
 cases c with
 |true=>exact⟨d,I1,e⟩
 |false=>exact j f pins i σ d Q I1 e
def K6(d:PT X a tA):PT X (.UnaryOp .Not a pos) (tNot tA):=by intro pins s σ H Q I h;exact isTrue_not (d pins s σ H (λc b=>Q (!c) b) I h)
def zBN(b d:TE):TE:=λσ H Q=>b σ H λx a=> ∃c,x=.bl c/\if c=true then d σ a Q else Q (.bl false) a
def zBO(b:TE):TE:=λσ H Q=>b σ H λx a=> ∃c,x=.bl c/\Q (.bl (!c)) a
def K7(h:PE X a t):PE X (.BoolOp op [a] pos) t:=λpins s σ H Q I hw=>BoolOp_one (h pins s σ H Q I hw)
def K8(k:PE X a ta)(j:PE X (.BoolOp .And (b::rest) pos) tb):PE X (.BoolOp .And (a::b::rest) pos) (zBN ta tb):=by
 intro pins s σ H Q I h;refine BoolOp_and (gH (k pins s σ H _ I h) λv i ⟨x,e,I1,f,d⟩=>?_);obtain⟨c,rfl,d⟩:=d;cases f;refine Ă ?_
 cases c with
 |true=>exact j pins i σ e Q I1 d
 |false=>exact⟨.bl false,e,I1,rfl,d⟩
def K9(f:PE X a ta):PE X (.UnaryOp .Not a pos) (zBO ta):=by intro pins s σ H Q I h;refine UnaryOp_ (gH (f pins s σ H _ I h) λv i ⟨x,d,I1,e,b⟩=>?_);obtain⟨c,rfl,b⟩:=b;cases e;exact not_of (Ă ⟨.bl (!c),d,I1,rfl,b⟩)
def tIf(t:TT)(b d:TE):TE:=λσ H Q=>t σ H λc a=>if c=true then b σ a Q else d σ a Q
def Ll(k:PT X c tA)(m:PE X a ta)(j:PE X b tb):PE X (.IfExp c a b pos) (tIf tA ta tb):=by
 intro pins s σ H Q I h;refine wpAny_IfExp (gH (k pins s σ H _ I h) λd i ⟨e,I1,f⟩=>?_)
 cases d with
 |true=>exact m pins i σ e Q I1 f
 |false=>exact j pins i σ e Q I1 f
end
def SqL(K:R0)(H:Hp)(a:Addr)(xs:List V):Prop:=
 Rd H a (.lst xs)\/
  ∃(o:Obj)(b:B0)(n:Nat),K.lookup a=some o/\o.cls=.type "list"/\o.dict=none/\o.data=.seq b n/\b.size<=sizeLine/\Vals xs b.toList
def SqT(K:R0)(H:Hp)(a:Addr)(xs:List V):Prop:=
 Rd H a (.tup xs)\/
  ∃(o:Obj)(b:B0)(n:Nat),K.lookup a=some o/\o.cls=.type "tuple"/\o.data=.seq b n/\b.size<=sizeLine/\Vals xs b.toList
noncomputable def absV:Ļ->Option V
 |.none=>some .non
 |.bool b=>some (.bl b)
 |.int i _=>some (.int i)
 |.str x _=>some (.str x)
 |.bytes b _=>some (.byt b)
 |.float b _=>some (.flt b)
 |.ref a=>some (.ref a)
 |.type n=>some (.ty n)
 |_=>none
theorem RelV.abs(r:RelV x u):absV u=some x:=by
 cases x with
 |non=>cases r;rfl
 |bl _=>cases r;rfl
 |int _=>obtain⟨t,rfl⟩:=r;rfl
 |str _=>obtain⟨t,rfl⟩:=r;rfl
 |byt _=>obtain⟨t,rfl⟩:=r;rfl
 |flt _=>obtain⟨t,rfl⟩:=r;rfl
 |ref _=>cases r;rfl
 |ty _=>cases r;rfl
def RelV.inj(r:RelV x u)(q:RelV y u):x=y:=â (r.abs.symm.trans q.abs)
theorem Vals.inj: ∀{xs a}{us},Vals xs us->Vals a us->xs=a
 |_,_,_,.nil,.nil=>rfl
 |_,_,_,.cons r t,.cons r' t'=>by rw[r.inj r',Vals.inj t t']
section
def SqL.of{K:R0}(h:H a=some (.lst xs)):SqL K H a xs:=.inl (.inl h)
def SqT.of{K:R0}(h:H a=some (.tup xs)):SqT K H a xs:=.inl (.inl h)
theorem Inv.list(I:↑2)(h:SqL X.K H a xs): ∃b:List Ļ,Vals xs b/\PlainL s.heap a b.toArray/\xs.length<=sizeLine:=by
 rcases h with h|⟨o,b,n,hk,hc,hd,hs,hz,r⟩
 .obtain⟨z,b,n,r,e⟩:=h.ok I.hok;exact⟨b,r,⟨_,n,e,rfl,rfl,rfl⟩,z⟩
 .refine⟨_,r,⟨o,n,I.kIn a o hk,hc,hd,by simpa using hs⟩,?_⟩;have e:=r.length;simp only[ā]at e
  lia
theorem Inv.tuple(I:↑2)(h:SqT X.K H a xs): ∃b:List Ļ,Vals xs b/\IsTup s.heap a b.toArray/\xs.length<=sizeLine:=by
 rcases h with h|⟨o,b,n,hk,hc,hs,hz,r⟩
 .obtain⟨z,b,r,p⟩:=h.ok I.hok;exact⟨b,r,p,z⟩
 .refine⟨_,r,⟨o,I.kIn a o hk,hc,n,by simpa using hs⟩,?_⟩;have e:=r.length;simp only[ā]at e
  lia
def Inv.list_inj(I:↑2)(h:SqL X.K H a xs)(h':SqL X.K H a ys):xs=ys:=by
 obtain⟨i,r,⟨o,n,e,_,_,d⟩,_⟩:=I.list h;obtain⟨b,j,⟨m,k,f,_,_,c⟩,_⟩:=I.list h';rw[e]at f;cases f;rw[d]at c;injection c with d1 _
 have:=by simpa using congrArg Array.toList d1
 subst this;exact r.inj j
def Inv.tuple_inj(I:↑2)(h:SqT X.K H a xs)(h':SqT X.K H a ys):xs=ys:=by
 obtain⟨i,r,⟨o,e,_,n,d⟩,_⟩:=I.tuple h;obtain⟨b,j,⟨m,f,_,k,c⟩,_⟩:=I.tuple h';rw[e]at f;cases f;rw[d]at c;injection c with d1 _
 have:=by simpa using congrArg Array.toList d1
 subst this;exact r.inj j
end
abbrev Cx.wish(X:Cx)(E:VP):Cx:={X with xe:=E}
abbrev Cx.nox(X:Cx):Cx:=X.wish λ_ _=>False
def Cx.Ok.wish{X:Cx}(ok:X.Ok)(E):(X.wish E).Ok:=
 ⟨ok.mod,ok.kind,ok.glob,ok.blt,ok.above,ok.inj,ok.has,ok.cab,ok.hd,ok.frames,ok.stk,ok.exf,ok.bs,ok.bsz,ok.noex,ok.exfs,ok.funs,ok.frf⟩
def Cx.Ok.unwish{X:Cx}(ok:(X.wish E).Ok):X.Ok:=
 ⟨ok.mod,ok.kind,ok.glob,ok.blt,ok.above,ok.inj,ok.has,ok.cab,ok.hd,ok.frames,ok.stk,ok.exf,ok.bs,ok.bsz,ok.noex,ok.exfs,ok.funs,ok.frf⟩
section
variable{pins:M0}{σ:St}{H:Hp}{s:ĺ}
def Inv.wish(I:↑2)(E):Inv (X.wish E) pins σ H s:=⟨I.ok.wish E,I.os,I.bare,I.base,I.loc,I.cell,I.free,I.freeC,I.pin,I.hok,I.len⟩
def Inv.unwish(I:Inv (X.wish E) pins σ H s):Inv X pins σ H s:=⟨I.ok.unwish,I.os,I.bare,I.base,I.loc,I.cell,I.free,I.freeC,I.pin,I.hok,I.len⟩
def SP.unwish(h:SP (X.wish E) pins D f s'):SP X pins D f s':=by
 cases f with
 |next=>obtain⟨a,H',I,q⟩:=h;exact⟨a,H',I.unwish,q⟩
 |brk=>obtain⟨a,H',I,q⟩:=h;exact⟨a,H',I.unwish,q⟩
 |cont=>obtain⟨a,H',I,q⟩:=h;exact⟨a,H',I.unwish,q⟩
 |ret u=>obtain⟨v,a,H',I,r,q⟩:=h;exact⟨v,a,H',I.unwish,r,q⟩
def PSs.nox{st:List Stmt}(h:PSs X.nox st t):PSs X st t:=λpins s σ H D I hw=>
 ü (h pins s σ H D (I.wish _) hw) (λ_ _ q=>q.unwish) λ_ _ z=>False.elim z
end
section
variable{st:Stmt}{rest:List Stmt}
def zBP:TS:=λD σ H=>D.nx σ H
def tSeq(t u:TS):TS:=λD σ H=>t {D with nx:=u D} σ H
def Ua:PSs X [] zBP:=λ_ _ σ H _ I h=>wpAny_execs_nil ⟨σ,H,I,h⟩
def Lm(b:PS X st t)(c:PSs X rest u):PSs X (st::rest) (tSeq t u):=by
 intro pins s σ H D I h;refine wpAny_execs_cons (gH (b pins s σ H {D with nx:=u D} I h) λf e q=>?_)
 cases f with
 |next=>
  obtain⟨a,H',d,q⟩:=q;exact c pins e a H' D d q
 |ret v=>exact q
 |brk=>exact q
 |cont=>exact q
def Ub(a:PS X st t):PSs X [st] t:=by
 intro pins s σ H D I h;refine wpAny_execs_cons (gH (a pins s σ H D I h) λf b q=>?_)
 cases f with
 |next=>exact wpAny_execs_nil q
 |ret v=>exact q
 |brk=>exact q
 |cont=>exact q
def Inv.quiet(I:↑2):interactive X.env=false:=by simp[interactive,I.ok.kind]
def zBQ(b:TE):TS:=λD σ H=>b σ H λ_ a=>D.nx σ a
def Uc(c:PE X e te)(hs:swapsWith e none pos.line X.env=pure false:=by rfl):PS X (.Expr e pos) (zBQ te):=by intro pins s σ H D I h;exact wpAny_Expr_any (gH (c pins s σ H _ I h) λv f ⟨x,a,I1,d,b⟩=>⟨σ,a,I1,b⟩) I.quiet hs
def tRet(a:TE):TS:=λD σ H=>a σ H D.rt
def L3(d:PE X e te):PS X (.Return (some e) pos) (tRet te):=by intro pins s σ H D I h;exact wpAny_Return_some (gH (d pins s σ H _ I h) λv f ⟨x,a,I1,c,b⟩=>⟨x,σ,a,I1,c,b⟩)
def tIfS(c:TT)(t u:TS):TS:=λD σ H=>c σ H λb a=>if b=true then t D σ a else u D σ a
def zBR(k:PT X c tc)(m:PSs X a t)(j:PSs X b u):PS X (.If c a b pos) (tIfS tc t u):=by
 intro pins s σ H D I h;refine wpAny_If (gH (k pins s σ H _ I h) λd i ⟨e,I1,f⟩=>?_)
 cases d with
 |true=>exact m pins i σ e D I1 f
 |false=>exact j pins i σ e D I1 f
def L4:TS:=λ_ _ _=>False
def Ln:PS X st L4:=λ_ _ _ _ _ _ h=>h.elim
end
abbrev TG:=V->St->Hp->(St->Hp->Prop)->Prop
abbrev L5:=List V->St->Hp->(St->Hp->Prop)->Prop
def PG(X:Cx)(a:Expr)(t:TG):Prop:=
 ∀(pins:M0)(s:ĺ)(σ:St)(H:Hp)(v:V)(u:Ļ)(Q:St->Hp->Prop),Inv X pins σ H s->RelV v u->t v σ H Q->
  wpAny ↑4 X.A (assign a X.env u) (λ_ c=> ∃b H',Inv X pins b H' c/\Q b H') X.xe s
def zBA(X:Cx)(ts:Q0)(t:L5):Prop:=
 ∀(pins:M0)(s:ĺ)(σ:St)(H:Hp)(vs:List V)(us:A0)(Q:St->Hp->Prop),Inv X pins σ H s->Vals vs us->t vs σ H Q->
  wpAny ↑4 X.A (assignInOrder ((assignEach ts X.env).map (·.2)) us) (λ_ b=> ∃a H',Inv X pins a H' b/\Q a H') X.xe s
abbrev TSet:=V->V->V->Hp->(Hp->Prop)->Prop
def Ud(X:Cx)(t:TSet):Prop:=
 ∀(pins:M0)(s:ĺ)(σ:St)(H:Hp)(o i v:V)(a b u:Ļ)(Q:Hp->Prop),Inv X pins σ H s->RelV o a->RelV i b->RelV v u->t o i v H Q->
  wpAny ↑4 X.A (setItem a b u) (λ_ c=> ∃H',Inv X pins σ H' c/\Q H') X.xe s
section
variable{pos:Pos}
def Lo(i:Nat):TG:=λv σ H Q=>Q (σ.set i (some v)) H
def Dz(d:X.N.Nodup)(hi:X.N[i]? =some x)(a:Loc X.env.scope x)(b:z3 X x:=by first |exact .inl rfl|exact .inr rfl|assumption):PG X (.Name x pos) (Lo i):=by intro pins s σ H v u Q I r h;exact wpAny_assign_Name (XR I d hi a r (λe c=>⟨_,H,c,h⟩) b)
def gNil:L5:=λa σ H Q=>a=[]/\Q σ H
def zBS(t:TG)(u:L5):L5:=λb σ H Q=> ∃v r,b=v::r/\t v σ H λa H'=>u r a H' Q
def Ea:zBA X [] gNil:=by intro pins s σ H a b Q I r h;obtain⟨e,h⟩:=h;subst e;exact assignInOrder_nil ⟨σ,H,I,h⟩
def XS(j:PG X e t)(f:zBA X es u)
  (hs:(assignEach (e::es) X.env).map (·.2)=assign e X.env::(assignEach es X.env).map (·.2):=by rfl):zBA X (e::es) (zBS t u):=by
 intro pins s σ H m k Q I r h;obtain⟨v,n,c,h⟩:=h;subst c
 cases r with
 |cons r rr=>
  rw[hs];refine assignInOrder_cons (gH (j pins s σ H _ _ _ I r h) λ_ i ⟨a,d,I1,b⟩=>?_);exact f pins i a d _ _ Q I1 rr b
def gTup(K:R0)(n:Nat)(t:L5):TG:=λv σ H Q=> ∃a xs,v=.ref a/\SqT K H a xs/\xs.length=n/\t xs σ H Q
def Lp{k:Nat}(f:X.calm=true)(h:zBA X es t)
  (hn:(assignEach es X.env).length=n:=by rfl) (hst:(assignEach es X.env).findIdx? (·.1)=none:=by rfl):PG X (.Tuple es k pos) (gTup X.K n t):=by
 intro pins s σ H v u Q I r hw;obtain⟨a,xs,i,q,p,hw⟩:=hw;subst i;cases r;obtain⟨d,c,m,w⟩:=I.tuple q;refine assign_Tuple_tuple (I.ok.hd f) m (by simp[hn, <-p,c.length]) hst λh' j=>?_;have I1:Inv X pins σ H {s with heap:=h'}:=I.kept λb o e=>j b o (ê (ä e)) e;exact h pins _ σ H xs _ Q I1 (by simpa using c) hw
def gSub(to d:TE)(t:TSet):TG:=λv σ H Q=>to σ H λo a=>d σ a λi b=>t o i v b λc=>Q σ c
def Bd(ho:PE X o to)(hi:PE X i ti)(hs:Ud X t)
  (ha: ∀v,assign (.Subscript o i pos) X.env v=(do
   let a <-holding [v] (eval o X.env);let b <-holding [v,a] (eval i X.env)
   standAt pos
   holding [v,a,b] (setItem a b v)
   release [v,a,b] []):=by intro _;rfl):PG X (.Subscript o i pos) (gSub to ti t):=by
 intro pins s σ H v u Q I r h;refine wB (ú (gH (ho pins s σ H _ I h) λa z ⟨x,k,I1,n,c⟩=>?_));refine wB (ú (gH (hi pins z σ k _ I1 c) λb q ⟨y,f,d,w,p⟩=>?_));refine wB (wpAny_standAt (wB (ú (gH (hs pins q σ f x y v a b u _ d n w r p) λ_ A ⟨j,e,m⟩=>?_))));exact wpAny_release ⟨σ,j,e,m⟩
def L7(b:TE)(g:TG):TS:=λD σ H=>b σ H λx a=>g x σ a D.nx
def L8(b:PE X e te)(f:PG X tg g)(hs:swapsWithSole [tg] e pos.line X.env=pure false:=by rfl)(hw:swappedStores [tg] e X.env=pure none:=by rfl)
  (h1:(assignEach [tg] X.env).map (·.2)=[assign tg X.env]:=by rfl):PS X (.Assign [tg] e pos) (L7 te g):=by
 intro pins s σ H D I h;refine wpAny_Assign_stores (gH (b pins s σ H _ I h) λv i ⟨x,c,I1,d,a⟩=>?_) hs hw;rw[h1];exact gH (f pins i σ c x v _ I1 d a) λ_ j q=>q
def L9(f:X.N.Nodup)(hi:X.N[i]? =some x)(m:Loc X.env.scope x)(d:PE X e te)(hs:swapsWith e (some (.Name x pos')) pos.line X.env=pure false:=by rfl)(c:z3 X x:=by first |exact .inl rfl|exact .inr rfl|assumption):
  PS X (.Assign [.Name x pos'] e pos) (L7 te (Lo i)):=by
 intro pins s σ H D I h;refine wpAny_Assign_Name (gH (d pins s σ H _ I h) λv o ⟨y,j,I1,k,a⟩=>?_) hs;exact XR I1 f hi m k (λn b=>⟨_,j,b,a⟩) c
end
section
def M1(c:TT)(f:TS):TS:=λD σ H=> ∃W:Nat->St->Hp->Prop,(∃m,W m σ H)/\ ∀m σ H,W m σ H->
 c σ H λb d=>if b=true then∃N:St->Hp->Prop,(∀a H',N a H'-> ∃e,e<m/\W e a H')/\f {D with nx:=N,ct:=N,bk:=D.nx} σ d else D.nx σ d
def Lq(C:PassesOwn ↑4 X.A X.env X.xe)(F:PT X c tc)(K:PSs X body tb):PS X (.While c body [] pos) (M1 tc tb):=by
 intro pins s σ H D I h;obtain⟨W,⟨G,E⟩,e⟩:=h;refine wpAny_While (codeAny_whileLoop (λn L=> ∃i H',Inv X pins i H' L/\W n i H') ?_ G ⟨σ,H,I,E⟩);rintro n J ⟨d,z,I1,M⟩;refine Ħ C (gH (F pins J d z _ I1 (e n d z M)) λb O ⟨B,u,m⟩=>?_)
 cases b with
 |true=>
  obtain⟨N,y,m⟩:=m;refine Ħ C (gH (K pins O d B _ u m) λf P k=>?_)
  cases f with
  |next=>
   obtain⟨a,j,t,o⟩:=k;obtain⟨q,r,p⟩:=y a j o;exact⟨q,r,a,j,t,p⟩
  |cont=>
   obtain⟨a,j,t,o⟩:=k;obtain⟨q,r,p⟩:=y a j o;exact⟨q,r,a,j,t,p⟩
  |brk=>exact k
  |ret v=>exact k
 |false=>
  exact wpAny_execs_nil ⟨d,B,u,m⟩
end
structure It where
 go:Nat->Hp->Prop
 yld:Nat->Hp->V->Hp->Prop
 stop:Nat->Hp->Prop
def DT(X:Cx)(pins:M0)(H:Hp)(b:Addr):Prop:=
 H b=none/\b≠X.env.locals/\b∉X.fs/\(b∈X.ex\/X.s₀.heap.objs.size<=b)/\(∀x c,X.env.cells.lookup x=some c->c≠b)/\ ∀p∈X.pn++pins,p.1≠b
def Inv.fpOk{b:Addr}(I:↑2)(a:↑1<=b)(d:H' b=none):DT X pins H' b:=by
 refine⟨d,ă (æ I.lt a),I.nofs a,.inr (ì I.sz a),λx c e z=>?_,λp f z=>?_⟩
 .obtain⟨v,q⟩:=I.cell x c e;exact absurd (æ q.lt (by rw[z];exact a)) (ģ _)
 .exact absurd (æ (ä (I.pin p f).1) (by rw[z];exact a)) (ģ _)
abbrev M2(X:Cx):Prop:=X.calm=true
structure TurnC(C:Cx->Prop)(P:ļ)(w:World)(K:R0)(tg:Expr)(J:It)(fp:B9)(it:Addr)(tn:Nat->Heap->Prop):Prop where
 mem:it∈fp
 obj: ∀i h,tn i h-> ∀b∈fp, ∃o,h.get? b=some o/\ ∀v,o.data≠.cell v
 keep: ∀i h h',tn i h->(∀b∈fp, ∀o,h.get? b=some o->h'.get? b=some o)->tn i h'
 item: ∀(X:Cx),X.prog=P->X.w=w->X.K=K->C X-> ∀(i:Nat)(pins:M0)(s:ĺ)(σ:St)(H:Hp)(E:VP),Inv X pins σ H s->(∀b∈fp,DT X pins H b)->tn i s.heap->J.go i H->
  wpAny (model P w) X.A (pyNext (.ref it)) (λr s1=> ∃u,r=some u/\
   wpAny (model P w) X.A (letOwnedTupleGo tg (.ref it) u) (λ_ s2=> ∃x H',Inv X pins σ H' s2/\RelV x u/\J.yld i H x H'/\tn (i+1) s2.heap/\ ∀b∈fp,H' b=none) E s1) E s
 done: ∀(X:Cx),X.prog=P->X.w=w->X.K=K->C X-> ∀(i:Nat)(pins:M0)(s:ĺ)(σ:St)(H:Hp)(E:VP),Inv X pins σ H s->(∀b∈fp,DT X pins H b)->tn i s.heap->J.stop i H->
  wpAny (model P w) X.A (pyNext (.ref it)) (λr s1=>r=none/\Inv X pins σ H s1) E s
 self: ∀(A:Around)(i:Nat)(s:ĺ)(Q:VP)(E:VP),tn i s.heap->Q (.ref it) s->wpAny (model P w) A (pyIter (.ref it)) Q E s
abbrev Turn:=TurnC M2
abbrev TI:=St->Hp->(It->Hp->Prop)->Prop
def zBT(C:Cx->Prop)(X:Cx)(pins:M0)(σ:St)(tg:Expr)(R:It->Hp->Prop)(a:Ļ)(e:ĺ):Prop:=
 ∃(c:Addr)(fp:B9)(d:Nat->Heap->Prop)(J:It)(H':Hp),a=.ref c/\Inv X pins σ H' e/\TurnC C X.prog X.w X.K tg J fp c d/\d 0 e.heap/\(∀b∈fp,DT X pins H' b)/\R J H'
abbrev PIE:=zBT M2
def zBU(C:Cx->Prop)(X:Cx)(tg iter:Expr)(a:TI):Prop:=
 ∀(pins:M0)(s:ĺ)(σ:St)(H:Hp)(R:It->Hp->Prop),Inv X pins σ H s->a σ H R->
  wpAny ↑4 X.A (eval iter X.env) (λv b=>wpAny ↑4 X.A (pyIter v) (zBT C X pins σ tg R) X.xe b) X.xe s
abbrev PI:=zBU M2
def XT(ho:s.heap.get? it=some o)(b:o.cls=.type n)(a:o.data=.fields vs)
  (hn:["enumerate","zip","dict_itemiterator","dict_reverseitemiterator","odict_iterator","itertools.zip_longest","itertools.pairwise"].contains n=false) (hQ:Q () s):wpAny M A (letOwnedTupleGo tg (.ref it) u) Q E s:=by
 cases tg<;>first
  |exact wP hQ
  |(cases u<;>first
    |exact wP hQ
    |(refine wB (wpAny_load ho ?_)
      rw[b,a];show wpAny M A (if _=true then _ else _) Q E s;rw[iN (by intro h;rw[hn]at h;cases h)];exact wP hQ))
noncomputable def Itl(K:R0)(a:Addr):It:=
 ⟨λi H=> ∃xs x,SqL K H a xs/\xs[i]? =some x,λi H x H'=>H'=H/\ ∀xs,SqL K H a xs->xs[i]? =some x,λi H=> ∃xs,SqL K H a xs/\xs.length<=i⟩
noncomputable def Itt(K:R0)(a:Addr):It:=
 ⟨λi H=> ∃xs x,SqT K H a xs/\xs[i]? =some x,λi H x H'=>H'=H/\ ∀xs,SqT K H a xs->xs[i]? =some x,λi H=> ∃xs,SqT K H a xs/\xs.length<=i⟩
noncomputable def zEP(lo:Int)(n:Nat):It:=⟨λi _=>i<n,λi H x H'=>H'=H/\x=.int (lo+i),λi _=>n<=i⟩
theorem Ig{K:R0}(a it):Turn P w K tg (Itl K a) [it] it (λi h=>h.IsListIter it a i) where
 mem:=by simp
 obj:=λi h st b hb=>by
  have e:=by simpa using hb
  subst e;obtain⟨o,e,c,d⟩:=st;exact⟨o,e,λv z=>by rw[d]at z;cases z⟩
 keep:=λi h h' st k=>st.at λo e=>k it (by simp) o e
 item:=by intro X hP hw hK hc i pins s σ H E I hf st hg;subst hP hw hK;obtain⟨xs,x,hq,hx⟩:=hg;obtain⟨its,rv,p,hz⟩:=I.list hq;obtain⟨u,hu,ru⟩:=rv.get hx;obtain⟨f0,f1,f2,f3,f4,f5⟩:=hf it (by simp);refine wpAny_pyNext_list_item st p.isList (by simpa using hu) λh' st' sb=>?_;have I1:Inv X pins σ H {s with heap:=h'}:=I.turned (λb o hb e=>(sb.2 b hb).trans e) f0 f1 f3 f4 f5;obtain⟨o,e,c,d⟩:=id st';exact⟨u,rfl,XT e c d ↑3 ⟨x,H,I1,ru,⟨rfl,λys hy=>by rw[I.list_inj hy hq];exact hx⟩,st',λb hb=>(hf b hb).1⟩⟩
 done:=by intro X hP hw hK hc i pins s σ H E I hf st hg;subst hP hw hK;obtain⟨xs,hq,hx⟩:=hg;obtain⟨its,rv,p,hz⟩:=I.list hq;obtain⟨f0,f1,f2,f3,f4,f5⟩:=hf it (by simp);have hl:=rv.length;exact wpAny_pyNext_list_end (I.ok.hd hc) st p.isList (by simp;lia) λh' eb=>⟨rfl,I.turned (λb o hb e=>eb b o hb e) f0 f1 f3 f4 f5⟩
 self:=λ_ _ _ _ _ st h=>wpAny_pyIter_listiter st h
theorem Be{K:R0}(a it):Turn P w K tg (Itt K a) [it] it (λi h=>h.IsTupleIter it a i) where
 mem:=by simp
 obj:=λi h st b hb=>by
  have e:=by simpa using hb
  subst e;obtain⟨o,e,c,d⟩:=st;exact⟨o,e,λv z=>by rw[d]at z;cases z⟩
 keep:=λi h h' st k=>st.at λo e=>k it (by simp) o e
 item:=by intro X hP hw hK hc i pins s σ H E I hf st hg;subst hP hw hK;obtain⟨xs,x,hq,hx⟩:=hg;obtain⟨its,rv,p,hz⟩:=I.tuple hq;obtain⟨u,hu,ru⟩:=rv.get hx;obtain⟨f0,f1,f2,f3,f4,f5⟩:=hf it (by simp);refine wpAny_pyNext_tuple_item st p (by simpa using hu) λh' st' sb=>?_;have I1:Inv X pins σ H {s with heap:=h'}:=I.turned (λb o hb e=>(sb.2 b hb).trans e) f0 f1 f3 f4 f5;obtain⟨o,e,c,d⟩:=id st';exact⟨u,rfl,XT e c d ↑3 ⟨x,H,I1,ru,⟨rfl,λys hy=>by rw[I.tuple_inj hy hq];exact hx⟩,st',λb hb=>(hf b hb).1⟩⟩
 done:=by intro X hP hw hK hc i pins s σ H E I hf st hg;subst hP hw hK;obtain⟨xs,hq,hx⟩:=hg;obtain⟨its,rv,p,hz⟩:=I.tuple hq;obtain⟨f0,f1,f2,f3,f4,f5⟩:=hf it (by simp);have hl:=rv.length;exact wpAny_pyNext_tuple_end (I.ok.hd hc) st p (by simp;lia) λh' eb=>⟨rfl,I.turned (λb o hb e=>eb b o hb e) f0 f1 f3 f4 f5⟩
 self:=λ_ _ _ _ _ st h=>wpAny_pyIter_tupleiter st h
theorem Bf{K:R0}(it)(lo)(n):Turn P w K tg (zEP lo n) [it] it (λi h=>IsRangeIter h it (lo+ i  * 1) ( n  -  i ) 1) where
 mem:=by simp
 obj:=λi h st b hb=>by
  have e:=by simpa using hb
  subst e;exact⟨_,st,λv z=>by have z':=z;cases z'⟩
 keep:=λi h h' st k=>k it (by simp) _ st
 item:=by intro X hP hw hK hc i pins s σ H E I hf st hg;subst hP hw hK;obtain⟨f0,f1,f2,f3,f4,f5⟩:=hf it (by simp);have W:=Walks.range (prog:=X.prog) (w:=X.w) (I.ok.hd hc) it lo 1 n;refine W.item i s _ _ hg st λv h' tk hv st' kk=>?_;obtain⟨t,rfl⟩:=hv;have I1:Inv X pins σ H {s with heap:=h',toks:=tk}:=I.turned (λb o hb e=>kk b o (by simpa using hb) e) f0 f1 f3 f4 f5;refine⟨_,rfl,XT st' rfl rfl ↑3 ⟨.int _,H,I1,⟨t,?_⟩,⟨rfl,rfl⟩,st',λb hb=>(hf b hb).1⟩⟩;rw[Int.mul_one]
 done:=by intro X hP hw hK hc i pins s σ H E I hf st hg;obtain⟨f0,f1,f2,f3,f4,f5⟩:=hf it (by simp);exact wpAny_pyNext_range_end (I.ok.hd hc) st (by have:n<=i:=hg;lia) λh' eb=>⟨rfl,I.turned (λb o hb e=>eb b o hb e) f0 f1 f3 f4 f5⟩
 self:=λ_ _ _ _ _ st h=>wpAny_pyIter_rangeiter st h
section
def zBV(K:R0)(c:TE):TI:=λσ H R=>c σ H λx b=> ∃a,x=.ref a/\(∃xs,SqL K b a xs)/\R (Itl K a) b
def iTup(K:R0)(c:TE):TI:=λσ H R=>c σ H λx b=> ∃a,x=.ref a/\(∃xs,SqT K b a xs)/\R (Itt K a) b
def Ue(m:PE X l tl):PI X tg l (zBV X.K tl):=by
 intro pins s σ H R I h;refine gH (m pins s σ H _ I h) λv t ⟨x,f,I1,i,c⟩=>?_;obtain⟨a,e,⟨xs,k⟩,q⟩:=c;subst e;cases i;obtain⟨d,n,p,r⟩:=I1.list k;refine wpAny_pyIter_list p.isList ?_;refine⟨_,_,_,_,f,rfl,I1.kept λb o e=>hP0 _ e,Ig a _,⟨_,è _ rfl,rfl,rfl⟩,λb j=>?_,q⟩;have e:=by simpa using j
 subst e;exact I1.fpOk (à _) (I1.hok.fresh (à _))
def M3(m:PE X l tl):PI X tg l (iTup X.K tl):=by
 intro pins s σ H R I h;refine gH (m pins s σ H _ I h) λv t ⟨x,f,I1,i,c⟩=>?_;obtain⟨a,e,⟨xs,k⟩,q⟩:=c;subst e;cases i;obtain⟨d,n,p,r⟩:=I1.tuple k;refine wpAny_pyIter_tuple p ?_;refine⟨_,_,_,_,f,rfl,I1.kept λb o e=>hP0 _ e,Be a _,⟨_,è _ rfl,rfl,rfl⟩,λb j=>?_,q⟩;have e:=by simpa using j
 subst e;exact I1.fpOk (à _) (I1.hok.fresh (à _))
theorem Lr{lo:Int}(I:↑2)(j: -(2 ^ 62)<=lo)(a:lo<2 ^ 62)(f: -(2 ^ 62)<=hi)(c:hi<2 ^ 62)
  (q:R (zEP lo (hi - lo).toNat) H):wpAny ↑4 X.A (pyIter (.ref ↑1)) (PIE X pins σ tg R) E {s with heap:=s.heap.push {cls:=.type "range",data:=.fields #[.int lo t,.int hi u,.int 1 v]},toks:=tk}:=by
 refine wpAny_pyIter_range (IsRange.new ..) (small_one j a f c) ?_;have I1:Inv X pins σ H {s with heap:=s.heap.push {cls:=.type "range",data:=.fields #[.int lo t,.int hi u,.int 1 v]},toks:=tk}:=I.kept λb o e=>hP0 _ e
 refine⟨_,_,_,_,H,rfl,
  I1.kept λb o e=>hP0 _ e,Bf _ lo (hi - lo).toNat,?_,λb h=>?_,q⟩
 .have i:lo+((0:Nat):Int) * 1=lo:=by simp
  have d:(((hi - lo).toNat:Nat):Int) - ((0:Nat):Int)=Builtin.Range.rangeSize lo hi 1:=by rw[rangeSize_one];split<;>lia
  show IsRangeIter _ _ _ _ 1;rw[i,d];exact è _ rfl
 .have e:b=(s.heap.push {cls:=.type "range",data:=.fields #[.int lo t,.int hi u,.int 1 v]}).objs.size:=by simpa using h
  subst e;exact I1.fpOk (à _) (I1.hok.fresh (à _))
def zBW(c:TA):TI:=λσ H R=>c σ H λb a=> ∃j:Int,b=[.int j]/\ -(2 ^ 62)<=j/\j<2 ^ 62/\R (zEP 0 j.toNat) a
theorem Ih(k:Gl X "range")(c:X.mg "range"=none)(d:PA X [a] ta)(hs:starEach [a] X.env=[(false,eval a X.env)]:=by rfl):PI X tg (.Call (.Name "range" p) [a] [] pos) (zBW ta):=by
 intro pins s σ H R I h;refine Call_ (qY I k c boot_range (ý (gH (d pos pins s σ H _ I h) λm u ⟨o,n,I1,f,b⟩=>?_) hs rfl));obtain⟨j,e,b,i,q⟩:=b;subst e
 cases f with
 |cons r rr=>
  cases rr;obtain⟨t,rfl⟩:=r;exact call_range_1 (Lr I1 #[0] #[0] b i (by simpa using q))
def tFor(e:TI)(g:TG)(f:TS):TS:=λD σ H=>e σ H λJ d=> ∃W:Nat->Nat->St->Hp->Prop,(∃m,W 0 m σ d)/\ ∀i m σ H,W i m σ H->
 (J.stop i H/\D.nx σ H)\/(J.go i H/\ ∃N:St->Hp->Prop,(∀a H',N a H'-> ∃c,c<m/\W (i+1) c a H')/\ ∀x H',J.yld i H x H'->g x σ H' λb h=>f {D with nx:=N,ct:=N,bk:=D.nx} b h)
noncomputable def MF(fp:B9)(h:Heap):List (Addr×Obj):=fp.filterMap λb=>(h.get? b).map λo=>(b,o)
def EY(a:b∈fp)(e:h.get? b=some o):(b,o)∈MF fp h:=Đ.mpr ⟨b,a,by rw[e];rfl⟩
def Ii(a:p∈MF fp h):p.1∈fp/\h.get? p.1=some p.2:=by
 obtain⟨b,c,e⟩:=Đ.mp a
 cases q:h.get? b with
 |none=>rw[q]at e;cases e
 |some o=>
  rw[q]at e;have d:_=p:=â e;subst d;exact⟨c,q⟩
def Inv.pinned(I:↑2)(i: ∀b∈fp,DT X pins H b)(ho: ∀b∈fp, ∃o,s.heap.get? b=some o/\ ∀v,o.data≠.cell v):Inv X (pins++MF fp s.heap) σ H s:=
 I.pins_of λp f=>(å.mp f).elim (λz=>I.pin p (ø _ z)) λz=>by obtain⟨c,e⟩:=Ii z;obtain⟨h,j,k,_⟩:=i p.1 c;obtain⟨o,a,d⟩:=ho p.1 c;rw[e]at a;cases a;exact⟨e,h,j,k,d⟩
def Inv.unpinned(I:Inv X (pins++pl) σ H s):Inv X pins σ H s:=I.pins_of λp a=>I.pin p (ø _ (Ę _ a))
def M4(G:PassesOwn ↑4 X.A X.env X.xe)(hc:X.calm=true)(hi:PI X tg iter wi)(hg:PG X tg g)(p:PSs X body tb)
  (hs: ∀x,foldedSetIterable iter X.env x=pure x:=by intro _;rfl):PS X (.For tg iter body [] pos) (tFor wi g tb):=by
 intro pins s σ H D I h;refine wpAny_For (gH (hi pins s σ H _ I h) λv s1 h1=>gH h1 λaa s2 h2=>?_) hs;obtain⟨it,fp,U,J,H2,e,I2,T,O,f2,W,⟨m0,w0⟩,B⟩:=h2;subst e;have q: ∀{H':Hp},(∀b∈fp,H' b=none)-> ∀b∈fp,DT X pins H' b:=λhn b p=>⟨hn b p,(f2 b p).2⟩
 refine codeAny_forLoop_any (λn Y=> ∃i j H',Inv X pins j H' Y/\U i Y.heap/\(∀b∈fp,H' b=none)/\W i n j H') ?_ m0 ⟨0,σ,H2,I2,O,λb p=>(f2 b p).1,w0⟩;rintro n s3 ⟨i,k,K,Z,C,F,w3⟩;rcases B i n k K w3 with⟨stop,qn⟩|⟨go,N,hN,step⟩
 .refine Ħ G (gH (T.done X rfl rfl rfl hc i pins s3 k K X.xe Z (q F) C stop) λr s4 ⟨L,I4⟩=>?_);subst L;exact wpAny_execs_nil ⟨k,K,I4,qn⟩
 .refine Ħ G (gH (T.item X rfl rfl rfl hc i pins s3 k K X.xe Z (q F) C go) λr s4 ⟨u,L,h4⟩=>?_);subst L;refine Ħ G (gH h4 λ_ s5 ⟨x,H5,I5,r5,y5,z,Q⟩=>?_);have P:=I5.pinned (q Q) (T.obj _ _ z);refine Ħ G (gH (hg _ s5 k H5 x u _ P r5 (step x H5 y5)) λ_ s6 ⟨S,H6,I6,q6⟩=>?_);refine Ħ G (gH (p _ s6 S H6 _ I6 q6) λf M y=>?_);have c: ∀{a:St}{H7:Hp},Inv X _ a H7 M->N a H7-> ∃m,m<n/\ ∃i j H',Inv X pins j H' M/\U i M.heap/\(∀b∈fp,H' b=none)/\W i m j H':=λ{a H7} t E=>by obtain⟨m',hm,w7⟩:=hN a H7 E;refine⟨m',hm,_,a,H7,t.unpinned,T.keep _ _ _ z λb p o e=>(t.pin (b,o) (ø _ (ø _ (EY p e)))).1,λb p=>?_,w7⟩;obtain⟨o,e,d⟩:=T.obj _ _ z b p;exact(t.pin (b,o) (ø _ (ø _ (EY p e)))).2.1
  cases f with
  |next=>obtain⟨a,H7,t,E⟩:=y;exact c t E
  |cont=>obtain⟨a,H7,t,E⟩:=y;exact c t E
  |brk=>obtain⟨a,H7,t,y⟩:=y;exact⟨a,H7,t.unpinned,y⟩
  |ret v=>obtain⟨x7,a,H7,t,r7,y⟩:=y;exact⟨x7,a,H7,t.unpinned,r7,y⟩
end
abbrev R2:=V->V->Hp->VK->Prop
def OpR(X:Cx)(f:Ļ->Ļ->Sem Ļ)(r:R2):Prop:=
 ∀(pins:M0)(s:ĺ)(σ:St)(H:Hp)(x y:V)(v u:Ļ)(Q:VK),Inv X pins σ H s->RelV x v->RelV y u->r x y H Q->
  wpAny ↑4 X.A (f v u) (EP X pins σ Q) X.xe s
def UnR(X:Cx)(f:Ļ->Sem Ļ)(r:V->Hp->VK->Prop):Prop:=
 ∀(pins:M0)(s:ĺ)(σ:St)(H:Hp)(x:V)(v:Ļ)(Q:VK),Inv X pins σ H s->RelV x v->r x H Q->
  wpAny ↑4 X.A (f v) (EP X pins σ Q) X.xe s
def CallR(X:Cx)(f:Ļ)(r:List V->Hp->VK->Prop):Prop:=
 ∀(pins:M0)(s:ĺ)(σ:St)(H:Hp)(xs:List V)(us:A0)(Q:VK),Inv X pins σ H s->Vals xs us->r xs H Q->
  wpAny ↑4 X.A (call f us) (EP X pins σ Q) X.xe s
def TruR(X:Cx)(r:V->Hp->(Bool->Hp->Prop)->Prop):Prop:=
 ∀(pins:M0)(s:ĺ)(σ:St)(H:Hp)(x:V)(v:Ļ)(Q:Bool->Hp->Prop),Inv X pins σ H s->RelV x v->r x H Q->
  wpAny ↑4 X.A (truthy v) (TP X pins σ Q) X.xe s
def zEQ(r:R2)(d b:TE):TE:=λσ H Q=>d σ H λx a=>b σ a λy c=>r x y c Q
def tUn(r:V->Hp->VK->Prop)(b:TE):TE:=λσ H Q=>b σ H λx a=>r x a Q
def rI(C:Int->Int->Prop)(g:Int->Int->V):R2:=λx y H Q=> ∃i j,x=.int i/\y=.int j/\C i j/\Q (g i j) H
def zER(g:Int->Int->V):R2:=λx y H Q=> ∃i j,x=.int i/\y=.int j/\Q (g i j) H
def rU(g:Int->V):V->Hp->VK->Prop:=λx H Q=> ∃i,x=.int i/\Q (g i) H
section
def M5(n:PE X a ta)(t:PE X b tb){R:V->V->Hp->Prop}(I:↑2)
  (h:ta σ H λx j=>tb σ j λy c=>R x y c)  {f:Ļ->Ļ->Sem Ļ}
  (hf: ∀v u i x y c,Inv X pins σ c i->RelV x v->RelV y u->R x y c->wpAny ↑4 X.A (f v u) Q X.xe i):
  wpAny ↑4 X.A (eval a X.env) (λv d=>wpAny ↑4 X.A (eval b X.env) (λu e=>wpAny ↑4 X.A (f v u) Q X.xe e) X.xe d) X.xe s:=by
 refine gH (n pins s σ H _ I h) λv r ⟨x,j,I1,o,k⟩=>?_;refine gH (t pins r σ j _ I1 k) λu i ⟨y,c,m,q,p⟩=>?_;exact hf v u i x y c m o q p
def zBX(ho:OpR X (binaryOp op) r)(f:PE X a ta)(k:PE X b tb):PE X (.BinOp a op b pos) (zEQ r ta tb):=by intro pins s σ H Q I h;exact wpAny_BinOp (M5 f k I h λv u j x y e d c i q=>ho pins j σ e x y v u Q d c i q)
def zBY(ho:UnR X (unaryOp op) r)(f:PE X a ta):PE X (.UnaryOp op a pos) (tUn r ta):=by intro pins s σ H Q I h;exact UnaryOp_ (gH (f pins s σ H _ I h) λv e ⟨x,b,I1,d,c⟩=>ho pins e σ b x v Q I1 d c)
def zES{g:Int->Int->Int}
  (rule: ∀ i j  t u  s  Q  E ,C i j->Q (.int (g i j) s.toks) {s with toks:=s.toks+1}->wpAny ↑4 X.A (f (.int i t) (.int j u)) Q E s):
  OpR X f (rI C λi j=>.int (g i j)):=by
 intro pins s σ H x y v u Q I a d h;obtain⟨i,j,rfl,rfl,c,q⟩:=h;obtain⟨t,rfl⟩:=a;obtain⟨b,rfl⟩:=d;exact rule i j t b s _ _ c ⟨.int _,H,I.tok _,⟨_,rfl⟩,q⟩
def zBZ{g:Int->Int->Int}
  (rule: ∀ i j  t u  s  Q  E ,Q (.int (g i j) s.toks) {s with toks:=s.toks+1}->wpAny ↑4 X.A (f (.int i t) (.int j u)) Q E s):
  OpR X f (zER λi j=>.int (g i j)):=by
 intro pins s σ H x y v u Q I a c h;obtain⟨i,j,rfl,rfl,q⟩:=h;obtain⟨t,rfl⟩:=a;obtain⟨b,rfl⟩:=c;exact rule i j t b s _ _ ⟨.int _,H,I.tok _,⟨_,rfl⟩,q⟩
def CMul(i j:Int):Prop:=(-(2 ^ 64)<i/\i<2 ^ 64)\/(-(2 ^ 64)<j/\j<2 ^ 64)
def CMul.ok(h:CMul i j):IntMulOk i j:=by
 rcases h with⟨h1,h2⟩|⟨h1,h2⟩
 .exact .of_left (intBits_le_64 h1 h2)
 .exact .of_right (intBits_le_64 h1 h2)
def M6:OpR X (binaryOp .Add) (zER λi j=>.int (i+j)):=zBZ λ_ _ _ _ _ _ _ q=>add_int q
def M7:OpR X (binaryOp .Sub) (zER λi j=>.int (i - j)):=zBZ λ_ _ _ _ _ _ _ q=>sub_int q
theorem M8:OpR X (binaryOp .Mod) (rI (λ_ j=>0<j) λi j=>.int (i % j)):=zES λi j _ _ _ _ _ a q=>by have b:_<j:=a;exact mod_int' #[0] (by rw[Int.fmod_eq_emod_of_nonneg i #[0]];exact q)
def unI{g:Int->Int}
  (rule: ∀ i  t  s  Q  E ,Q (.int (g i) s.toks) {s with toks:=s.toks+1}->wpAny ↑4 X.A (f (.int i t)) Q E s):
  UnR X f (rU λi=>.int (g i)):=by
 intro pins s σ H x v Q I a h;obtain⟨i,rfl,q⟩:=h;obtain⟨t,rfl⟩:=a;exact rule i t s _ _ ⟨.int (g i),H,I.tok _,⟨_,rfl⟩,q⟩
def M9:UnR X (unaryOp .USub) (rU λi=>.int (-i)):=unI λ_ _ _ _ _ q=>neg_int q
end
section
variable{b:Expr}
def TQ(I:↑2)(q:Q (.bl k) H)(e:k=k'):EP X pins σ Q (.bool k') s:=by subst e;exact⟨.bl k,H,I,rfl,q⟩
def Ij:OpR X (compareOp .In) (λx y H Q=> ∃i j,x=.str i/\y=.str j/\Q (.bl (!(Builtin.Str.occurrences j i 0 j.length 1).isEmpty)) H):=by intro pins s σ H x y v u Q I a b h;obtain⟨i,j,rfl,rfl,q⟩:=h;obtain⟨t,rfl⟩:=a;obtain⟨c,rfl⟩:=b;exact in_str (TQ I q rfl)
def N1:OpR X (compareOp .Is) (λx y H Q=>y=.non/\Q (.bl (decide (x=.non))) H):=by
 intro pins s σ H x y v u Q I a b h;obtain⟨rfl,q⟩:=h;cases b;refine is_none_gen (TQ I q ?_)
 cases x<;>first
  |(cases a;rfl)
  |(obtain⟨t,rfl⟩:=a;rfl)
def Ug:OpR X (compareOp .IsNot) (λx y H Q=>y=.non/\Q (.bl (!decide (x=.non))) H):=by
 intro pins s σ H x y v u Q I a b h;obtain⟨rfl,q⟩:=h;cases b;refine isnot_none_gen (TQ I q ?_)
 cases x<;>first
  |(cases a;rfl)
  |(obtain⟨t,rfl⟩:=a;rfl)
def TR:OpR X (compareOp .NotIn) (λx y H Q=> ∃i j,x=.str i/\y=.str j/\Q (.bl (!(!(Builtin.Str.occurrences j i 0 j.length 1).isEmpty))) H):=by intro pins s σ H x y v u Q I a b h;obtain⟨i,j,rfl,rfl,q⟩:=h;obtain⟨t,rfl⟩:=a;obtain⟨c,rfl⟩:=b;exact notIn_str (TQ I q rfl)
def OpR.or(h:OpR X f r)(h':OpR X f r'):OpR X f (λx y H Q=>r x y H Q\/r' x y H Q):=by
 intro pins s σ H x y v u Q I b a q;rcases q with q|q
 .exact h pins s σ H x y v u Q I b a q
 .exact h' pins s σ H x y v u Q I b a q
def Ls(b)(h:op≠.In:=by decide)(a:op≠.NotIn:=by decide):behindInMarks op b=false:=by
 have d:(op==CmpOp.In)=false:=by cases op<;>first |rfl|exact absurd rfl h
 have c:(op==CmpOp.NotIn)=false:=by cases op<;>first |rfl|exact absurd rfl a
 cases b<;>simp[behindInMarks,d,c]
def Uh(ho:OpR X (compareOp op) r)(i:PE X a ta)(m:PE X b tb)(e:behindInMarks op b=false):PE X (.Compare a [op] [b] pos) (zEQ r ta tb):=by intro pins s σ H Q I h;exact wpAny_Compare1 (M5 i m I h λv u k x y f d c j q=>ho pins k σ f x y v u Q d c j q) e
def zCA(t:TE):TT:=λσ H Q=>t σ H λx H'=> ∃k,x=.bl k/\Q k H'
def Ui(ho:OpR X (compareOp op) r)(o:PE X a ta)(E:PE X b tb)(i:behindInMarks op b=false):PT X (.Compare a [op] [b] pos) (zCA (zEQ r ta tb)):=by
 intro pins s σ H Q I h
 refine wpAny_isTrue_Compare1 (gH (o pins s σ H _ I h) λv D ⟨x,p,I1,A,d⟩=>gH (E pins D σ p _ I1 d) λu t ⟨y,m,f,C,B⟩=>
  gH (ho pins t σ m x y v u _ f A C B) λc F ⟨z,n,j,q,k,e,w⟩=>?_) i
 subst e;cases q;exact Ă ⟨n,j,w⟩
def N2(K:R0)(x:V)(H:Hp)(k:Bool):Prop:=
 match x with
 |.non=>k=false
 |.bl b=>k=b
 |.int i=>k=(i !=0)
 |.str y=>y.length<=sizeLine/\k=((y.length:Int) !=0)
 |.byt y=>y.size<=sizeLine/\k=((y.size:Int) !=0)
 |.ref p=>(∃xs,SqL K H p xs/\k= !xs.isEmpty)\/(∃xs,SqT K H p xs/\k= !xs.isEmpty)\/ ∃a,H p=some (.dK a)/\k= !a.isEmpty
 |_=>False
theorem Bg{vs:List (κ×Ļ)}(r:KV kvs vs):(!vs.isEmpty)= !kvs.isEmpty:=by cases r<;>rfl
def MG(r:Vals xs its):(!its.toArray.isEmpty)= !xs.isEmpty:=by cases r<;>simp
def EZ: sizeLine <2 ^ 63:=by rw[đ];decide
theorem N3:TruR X (λx H Q=> ∃k,N2 X.K x H k/\Q k H):=by
 intro pins s σ H x v Q I f h;obtain⟨k,e,q⟩:=h;have B:=EZ;have A:=đ
 cases x with
 |non=>
  cases f;have a:=e;subst a;exact truthy_none ⟨H,I,q⟩
 |bl b=>
  cases f;have a:=e;subst a;exact Ă ⟨H,I,q⟩
 |int i=>
  obtain⟨t,rfl⟩:=f;have a:k=_:=e;subst a;exact PySem.P.truthy_int ⟨H,I,q⟩
 |str y=>
  obtain⟨t,rfl⟩:=f;obtain⟨w,a⟩:y.length<=sizeLine/\k=_:=e;subst a;exact PySem.P.truthy_str #[0] ⟨H,I.tok _,q⟩
 |byt y=>
  obtain⟨t,rfl⟩:=f;obtain⟨w,a⟩:y.size<=sizeLine/\k=_:=e;subst a;exact PySem.W.truthy_bytes #[0] ⟨H,I.tok _,q⟩
 |ref p=>
  cases f;have a:_\/_\/ ∃c,H p=some (.dK c)/\k= !c.isEmpty:=e;rcases a with⟨xs,hx,a⟩|⟨xs,hx,a⟩|⟨c,hx,a⟩
  .subst a;obtain⟨n,r,o,u⟩:=I.list hx;have d:=r.length;exact wpAny_truthy_list o.isList (by simp only[sA];lia) ⟨H,I.tok _,by rw[MG r];exact q⟩
  .subst a;obtain⟨n,r,o,u⟩:=I.tuple hx;have d:=r.length;exact truthy_tuple o (by simp only[sA];lia) ⟨H,I.tok _,by rw[MG r];exact q⟩
  .subst a;obtain⟨u,z,j,r,m⟩:c.length<=sizeLine/\_=false/\ ∃j,KV c j/\s.heap.DictOf _ p j:=I.hok p _ hx;have d:c.length=j.length:=Paired.length r;exact wpAny_truthy_dict z m #[0] ⟨H,I.tok _,by rw[Bg r];exact q⟩
 |_=>exact e.elim
def Lu(d:PE X a ta)(e: ∀b,isTrue a X.env b=(do let v <-b;standAt a.pos;holding [v] (truthy v))):
  PT X a (λσ H Q=>ta σ H λx H'=> ∃k,N2 X.K x H' k/\Q k H'):=by
 intro pins s σ H Q I h;exact isTrue_plain (gH (d pins s σ H _ I h) λv j ⟨x,f,I1,i,c⟩=>N3 pins j σ f x v Q I1 i c) (e _)
def Bh:OpR X (binaryOp .Add) (λx y H Q=> ∃i j,x=.str i/\y=.str j/\i.length+j.length<=sizeLine/\Q (.str (i++j)) H):=by intro pins s σ H x y v u Q I a c h;obtain⟨i,j,rfl,rfl,d,q⟩:=h;obtain⟨t,rfl⟩:=a;obtain⟨b,rfl⟩:=c;exact add_str (λb e=>⟨.str _,H,I.tok _,⟨_,rfl⟩,q⟩) d
def vals1(r:Vals [x] us): ∃u,us=[u]/\RelV x u:=by
 cases r with
 |cons r1 r2=>cases r2;exact⟨_,rfl,r1⟩
def vals2(r:Vals [x,y] us): ∃u a,us=[u,a]/\RelV x u/\RelV y a:=by
 cases r with
 |cons r1 r2=>
  cases r2 with
  |cons r3 r4=>cases r4;exact⟨_,_,rfl,r1,r3⟩
def Ik(b:X.calm=true):CallR X (.builtin "min") (λxs H Q=> ∃i j,xs=[.int i,.int j]/\Q (.int (if j<i then j else i)) H):=by
 intro pins s σ H xs e Q I r h;obtain⟨i,j,rfl,q⟩:=h;obtain⟨u,f,rfl,⟨t,rfl⟩,⟨c,rfl⟩⟩:=vals2 r;refine min_two_ints (I.ok.hd b) λh' d k=>⟨_,H,I.kept k,?_,q⟩
 by_cases a:j<i
 .rw[iP a,iP a];exact⟨_,rfl⟩
 .rw[iN a,iN a];exact⟨_,rfl⟩
end
structure ObjM(h:Heap)(x dx C:Addr)(mA:L0):Prop where
 obj:h.get? x=some (PySem.W.instObj C dx)
 ns:h.Ns1 dx mA
 ne:dx≠x
def Il{h:Heap}(n:h.Ns1 dx mA): ∃d,h.get? dx=some d/\ ∀b,PySem.W.lookIn b d=some (mA b):=by
 obtain⟨o,es,r,k,m,j,_,p⟩:=n;refine⟨o,k,λb=>?_⟩;have e:=p b;unfold nsFind findBy at e;rw[<-Array.find?_toList]at e;unfold PySem.W.lookIn;rw[m];dsimp only;split
 .rename_i y q;rw[q]at e;exact congrArg some e
 .rename_i q;rw[q]at e;have a:es.toList.any (·.refKey)=false:=by rw[List.any_eq_false];intro y f;obtain⟨z,t,c⟩:=j y (Array.mem_toList_iff.mp f);simp[DictEntry.refKey,c]
  have i: ¬es.toList.any (·.refKey)=true:=by rw[a];exact xF0
  rw[iN i];exact congrArg some e
def ObjM.look(I:ObjM h x dx C mA): ∃b,PySem.W.InstAt h x (PySem.W.instObj C dx) C (some b)/\ ∀a,PySem.W.lookIn a b=some (mA a):=
 let ⟨b,c,d⟩:=Il I.ns
 ⟨b,⟨I.obj,rfl,rfl,c⟩,d⟩
section
variable{s:ĺ}{K:R0}
def Uj(X:K.In s.heap)(I:ObjM s.heap x dx C mA)(b:PySem.W.plainGet K C name=true)(c:PySem.W.hasDictIn K C=true)
  (ha:PySem.W.findIn K (.ref C) name=some none) (hv:mA name=some v) (hv':PySem.W.handedIn v=true) (h:Q v {s with toks:=s.toks+1}):
  wpAny (model prog w) A (getAttr (.ref x) name expr) Q E s:=by
 obtain⟨d,J,a⟩:=I.look;exact PySem.W.get_value X J (PySem.W.plainGet_of b).1 (PySem.W.findObj_own c ha rfl (by rw[a,hv])) hv' h
def Lv(X:K.In s.heap)(I:ObjM s.heap x dx C mA)(a:PySem.W.plainGet K C name=true)
  (hf:PySem.W.findIn K (.ref C) name=some (some (.ref f))) (ht:PySem.W.isFn K (.ref f)=true) (hv:mA name=none) (h:Q (.ref f,[.ref x]) s):
  wpAny (model prog w) A (getMethod (.ref x) name pl) Q E s:=by
 obtain⟨c,J,b⟩:=I.look;exact PySem.W.method_fn X J (PySem.W.plainGet_of a).1 (PySem.W.plainGet_of a).2 hf (beq_iff_eq.mp ht) (by show(PySem.W.lookIn name c).map _=some false;rw[b,hv];rfl) h
theorem Uk(X:K.In s.heap)(I:ObjM s.heap x dx C mA)
  (hs:PySem.W.findIn K (.ref C) "__setattr__"=some (some (.builtin "object.__setattr__"))) (hp:PySem.W.plainOver K C=true) (ht:PySem.W.takerIn K C name=some none) (hh:PySem.W.hasDictIn K C=true)
  (hw:PySem.Within mA ns) (hsz:ns.length<=sizeLine)
  (h: ∀h',ObjM h' x dx C (λy=>if y=name then some v else mA y)->Heap.SameBut dx s.heap h'->Q () {s with heap:=h',toks:=s.toks+2}):
  wpAny (model prog w) A (setAttr (.ref x) name v) Q E s:=by
 obtain⟨q,J,p⟩:=I.look;refine PySem.W.set_plain X J hs (PySem.W.osa_open X J hp ht λb=>?_);obtain⟨o,j,d⟩:=PySem.W.any_some hh;have n:=I.obj;refine wB (wP (wB (wB (wpAny_loadPart n (wB (PySem.W.Looks.here (PySem.W.looks_clsIn X j) ?_))))));rw[d];refine wP (wB (wP (wB ?_)));refine wpAny_nsSet1 I.ns λh' c a=>?_;obtain⟨r,k,m,e,i,f⟩:=c.count (PySem.Within.cons name v hw);refine wB (wpAny_lookBehind e (by rw[i];exact pastItsLine_dict (ì f (by rw[lC];lia))) ?_);exact wP (h _ ⟨(a.2 _ (Ne.symm I.ne)).trans I.obj,c,I.ne⟩ a)
def Lw(X:K.In s.heap)(b:PySem.W.makesIn K C=true)
  (hi:PySem.W.findIn K (.ref C) "__init__"=some (some (.ref f))) (hf:PySem.W.typeIn K (.ref f)=some (.type "function"))
  (h:codeAny (model prog w) (A.under (.builtin "type.__call__" ⟨.ref C::vs,kw⟩)) (.call (.ref f) ⟨.ref (↑1+1)::vs,kw⟩) (PySem.W.InitBack (↑1+1) R)
   {s with heap:=(s.heap.push PySem.W.emptyDict).push (PySem.W.instObj C ↑1)}):
  codeAny (model prog w) A (.call (.ref C) ⟨vs,kw⟩) R s:=by
 exact PySem.W.make_core (PySem.W.makes_of X b) (PySem.W.looks_findIn X hi) (λa=>PySem.W.bind_fn X a hf) (.inl rfl) h
end
noncomputable def vG(f:Str)(v:V):List (Str×V)->List (Str×V)
 |[]=>[(f,v)]
 |(g,x)::r=>if g=f then(g,v)::r else(g,x)::vG f v r
theorem JS(f g)(v): ∀fs:List (Str×V),(vG f v fs).lookup g=if g=f then some v else fs.lookup g
 |[]=>by
  show List.lookup g [_]=_;by_cases h:g=f
  .have a:_=true:=beq_iff_eq.mpr h;simp only[List.lookup,a,iP h]
  .have a:_=false:=Ċ.mpr h;simp only[List.lookup,a,iN h]
 |(k,x)::r=>by
  have c:=JS f g v r;rw[show vG f v _=(if k=f then _::r else _::vG f v r)from rfl];by_cases b:k=f
  .rw[iP b];by_cases h:g=k
   .have a:_=true:=beq_iff_eq.mpr h;simp only[List.lookup,a,iP (h.trans b)]
   .have a:_=false:=Ċ.mpr h;simp only[List.lookup,a,iN (λe:g=f=>h (e.trans b.symm))]
  .rw[iN b];by_cases h:g=k
   .have a:_=true:=beq_iff_eq.mpr h;simp only[List.lookup,a,iN (λe:g=f=>b (h.symm.trans e))]
   .have a:_=false:=Ċ.mpr h;simp only[List.lookup,a];exact c
theorem IB(f)(v): ∀fs:List (Str×V),f∈(vG f v fs).map (·.1)/\ ∀g,g∈fs.map (·.1)->g∈(vG f v fs).map (·.1)
 |[]=>⟨by simp[vG],λg h=>by simp at h⟩
 |(k,x)::r=>by
  obtain⟨c,b⟩:=IB f v r;rw[show vG f v _=(if k=f then _::r else _::vG f v r)from rfl];by_cases a:k=f
  .rw[iP a];subst a;exact⟨by simp,λg h=>by simpa using h⟩
  .rw[iN a];refine⟨?_,λg h=>?_⟩
   .rw[ã];exact mO _ c
   .rw[ã]at h ⊢;rcases mC.mp h with e|e
    .exact mC.mpr (.inl e)
    .exact mO _ (b g e)
theorem JT(f)(v): ∀fs:List (Str×V),(vG f v fs).length<=fs.length+1
 |[]=>by simp[vG]
 |(k,x)::r=>by
  have b:=JT f v r;rw[show vG f v _=(if k=f then _::r else _::vG f v r)from rfl];by_cases a:k=f
  .rw[iP a,lC,lC];lia
  .rw[iN a,lC,lC];lia
def RelO.some_of(r:RelO (some v) o): ∃u,o=some u/\RelV v u:=by
 cases o with
 |none=>exact r.elim
 |some u=>exact⟨u,rfl,r⟩
def RelO.none_of(r:RelO none o):o=none:=by
 cases o with
 |none=>rfl
 |some u=>exact r.elim
theorem Im(r:RelV v u):PySem.W.handedIn u=true:=by
 cases v with
 |non=>cases r;rfl
 |bl b=>cases r;rfl
 |int i=>obtain⟨t,e⟩:=r;cases e;rfl
 |str x=>obtain⟨t,e⟩:=r;cases e;rfl
 |byt b=>obtain⟨t,e⟩:=r;cases e;rfl
 |flt b=>obtain⟨t,e⟩:=r;cases e;rfl
 |ref a=>cases r;rfl
 |ty n=>cases r;rfl
section
def TU(c:HOk P w H h)(e:H a=some (.ins C dx fs)): ∃b,ObjM h a dx C b/\(∀f,RelO (fs.lookup f) (b f))/\PySem.Within b (fs.map (·.1))/\fs.length<=1000/\H dx=some (.own a):=by
 obtain⟨d,z,ne,i,b,n,r,q⟩:=(c a _ e)
 exact⟨b,⟨i,n,ne⟩,r,q,z,d⟩
end
structure Cls(K:R0)(C:Addr):Prop where
 pg:PySem.W.plainGet K C Str.empty=true
 hd:PySem.W.hasDictIn K C=true
 po:PySem.W.plainOver K C=true
 sa:PySem.W.findIn K (.ref C) "__setattr__"=some (some (.builtin "object.__setattr__"))
def Cls.get{K:R0}(c:Cls K C)(f):PySem.W.plainGet K C f=true:=c.pg
def NoAttr(K:R0)(C:Addr)(f:Str):Prop:=PySem.W.findIn K (.ref C) f=some none
theorem NoAttr.taker{K:R0}(n:NoAttr K C f):PySem.W.takerIn K C f=some none:=by unfold PySem.W.takerIn;rw[show PySem.W.findIn K _ f=some none from n];rfl
structure Meth(K:R0)(C:Addr)(m:Str)(f:Addr):Prop where
 at_:PySem.W.findIn K (.ref C) m=some (some (.ref f))
 fn:PySem.W.isFn K (.ref f)=true
 kp:PySem.W.keepIn K (.ref f)=true
section
def Bi(I:↑2)(e:H a=some (.ins C dx fs))(c:Cls X.K C)(n:NoAttr X.K C f)(l:fs.lookup f=some v)
  (h: ∀u d,Inv X pins σ H d->RelV v u->Q u d):wpAny ↑4 A (getAttr (.ref a) f b) Q E s:=by
 obtain⟨k,O,r,_,_,_⟩:=TU I.hok e;obtain⟨u,j,i⟩:=RelO.some_of (v:=v) (o:=k f) (by rw[<-l];exact r f);exact Uj I.kIn O (c.get f) c.hd n j (Im i) (h u _ (I.tok _) i)
def Bj(I:↑2)(e:H a=some (.ins C dx fs))(c:Cls X.K C)(k:Meth X.K C m g)(l:fs.lookup m=none)
  (h:Q (.ref g,[.ref a]) s):wpAny ↑4 A (getMethod (.ref a) m pl) Q E s:=by
 obtain⟨d,O,r,_,_,_⟩:=TU I.hok e;have b:d m=none:=RelO.none_of (by rw[<-l];exact r m);exact Lv I.kIn O (c.get m) k.at_ k.fn b h
theorem Bk(I:↑2)(e:H a=some (.ins C dx fs))(c:Cls X.K C)(n:NoAttr X.K C f)(J:fs.length<1000)(t:RelV y u)
  (h: ∀i,Inv X pins σ (jS H a (.ins C dx (vG f y fs))) i->Q () i):wpAny ↑4 A (setAttr (.ref a) f u) Q E s:=by
 obtain⟨p,O,r,k,_,j⟩:=TU I.hok e;have B:(fs.map (·.1)).length<=sizeLine:=by rw[lM,đ];lia
 refine Uk I.kIn O c.sa c.po n.taker c.hd k B λh' d m=>h _ ?_;have v: ∃o,h'.get? dx=some o:=let ⟨o,_,_,G,_⟩:=d.ns;⟨o,G⟩;refine I.write (by rw[e];exact True.intro) (.inr j) (λb q F z=>(m.2 b F).trans z) v ?_;refine⟨by rw[zU O.ne];exact j,?_,O.ne,d.obj,_,d.ns,λg=>?_,λg D=>?_⟩
 .have:=JT f y fs;lia
 .show RelO _ _;rw[JS];by_cases q:g=f
  .rw[iP q,iP q];exact t
  .rw[iN q,iN q];exact r g
 .by_cases q:g=f
  .rw[q];exact(IB f y fs).1
  .refine(IB f y fs).2 g (k g λz=>D ?_);show(if g=f then some u else p g)=none;rw[iN q];exact z
def Inv.made(I:↑2):Inv X pins σ (jS (jS H ↑1 (.own (↑1+1))) (↑1+1) (.ins C ↑1 []))
  {s with heap:=(s.heap.push PySem.W.emptyDict).push (PySem.W.instObj C ↑1)}:=by
 have a:(s.heap.push PySem.W.emptyDict).get? ↑1=some PySem.W.emptyDict:=è s.heap rfl;have d:=by have:=è (s.heap.push PySem.W.emptyDict) (o:=PySem.W.instObj C ↑1) rfl;rwa [Ė]at this
 have h:(s.heap.push PySem.W.emptyDict).Ns ↑1 (λ_=>none):=⟨_,#[],_,a,rfl,(λe f=>absurd f (by simp)),λ_=>rfl⟩
 have I1:=I.laid (o:=.own (↑1+1)) (t':=s.toks) (λb u q=>hP0 _ q) (à _) ⟨_,a⟩;refine I1.laid (λb u q=>hP0 _ q) (Nat.le_of_eq (Ė _ _)) ?_;have ne:↑1≠↑1+1:=ê (Nat.lt_succ_self _);refine⟨by rw[zU ne,yE],zero_le _,ne,d,λ_=>none,(Heap.Ns1.of_empty h).at λo q=>hP0 _ q,λ_=>True.intro,λy c=>absurd rfl c⟩
def Ul(b:attributeBase e f env (eval e env)=eval e env)
  (h:wpAny (model prog w) A (eval e env) (λo a=>wpAny (model prog w) A (getAttr o f true) Q E a) E s):wpAny (model prog w) A (eval (.Attribute e f pos) env) Q E s:=
 Attribute_any_ h (by rw[arm_eval_Attribute,b])
end
def tFld(K:R0)(d:TE)(f:Str):TE:=λσ H Q=>d σ H λx b=> ∃a C c fs v,x=.ref a/\b a=some (.ins C c fs)/\Cls K C/\NoAttr K C f/\fs.lookup f=some v/\Q v b
def sFld(K:R0)(h e:TE)(f:Str):TS:=λD σ H=>e σ H λy d=>h σ d λx c=> ∃a C b fs,x=.ref a/\c a=some (.ins C b fs)/\Cls K C/\NoAttr K C f/\fs.length<1000/\
 D.nx σ (jS c a (.ins C b (vG f y fs)))
section
def N4(k:PE X e ta)(o:attributeBase e f X.env (eval e X.env)=eval e X.env):PE X (.Attribute e f pos) (tFld X.K ta f):=by intro pins s σ H Q I h;refine Ul o (gH (k pins s σ H _ I h) λu w ⟨x,m,I1,b,a,C,p,fs,v,ex,d,c,n,l,q⟩=>?_);subst ex;obtain rfl:u=Value.ref a:=b;exact Bi I1 d c n l λr t i j=>⟨v,m,i,j,q⟩
def N5(e:PE X o ta)(m:PE X value tv)(hs:swapsWith value (some (.Attribute o f pos')) pos.line X.env=pure false):PS X (.Assign [.Attribute o f pos'] value pos) (sFld X.K ta tv f):=by intro pins s σ H D I h;refine plainObj_wpAny_Assign_Attribute (gH (m pins s σ H _ I h) λu p ⟨y,i,I1,j,q⟩=>gH (e pins p σ i _ I1 q) λb B ⟨x,A,d,r,a,C,z,fs,ex,t,c,n,l,k⟩=>?_) hs;subst ex;obtain rfl:b=Value.ref a:=r;exact Bk d t c n l j λw v=>⟨σ,_,v,k⟩
end
section
variable{H:Hp}
inductive FF(K:R0)(H:Hp):V->Ļ->Prop where
 |non:FF K H .non (.type "NoneType")
 |bl (x:Bool):FF K H (.bl x) (.type "bool")
 |int (i:Int):FF K H (.int i) (.type "int")
 |str (x:Str):FF K H (.str x) (.type "str")
 |flt (x:UInt64):FF K H (.flt x) (.type "float")
 |lst {a:Addr} {xs:List V} (e:H a=some (.lst xs)):FF K H (.ref a) (.type "list")
 |frz {a:Addr} {o:Obj} {xs:List V} (e:H a=some (.frz o (.lst xs))):FF K H (.ref a) (.type "list")
 |tup {a:Addr} {xs:List V} (e:H a=some (.tup xs)):FF K H (.ref a) (.type "tuple")
 |dK {a:Addr} {kvs:List (Key×V)} (e:H a=some (.dK kvs)):FF K H (.ref a) (.type "dict")
 |dT {a:Addr} {kvs:List (List Key×V)} (e:H a=some (.dT kvs)):FF K H (.ref a) (.type "dict")
 |ins {a C dx:Addr} {fs:List (Str×V)} (e:H a=some (.ins C dx fs)) (cl:Cls K C) (ha:PySem.W.findIn K (.ref C) "__class__"=some (some (.builtin "object.__class__")))
   (hn:PySem.W.specialIn K (.builtin "object.__class__") "__get__"=some (some (.builtin "getset_descriptor.__get__"))) (htk:PySem.W.takesIn K (.builtin "object.__class__")=some true)
   (hm:PySem.W.mroIn K C (.type "object")=some true):FF K H (.ref a) (.ref C)
end
structure Room(k:Nat)(A:Around):Prop where
 hd:A.handled=none
 dp:A.depth+3 * k+5<recursionLimit
 un:A.units+16 * k+200<cLine
theorem Room.mono(r:Room k A)(h:j<=k):Room j A:=⟨r.hd,by have:=r.dp;lia,by have:=r.un;lia⟩
theorem Room.deeper(r:Room (k+1) A)(env):Room k (A.deeper env):=
 ⟨r.hd,by have:=r.dp;show A.depth+1+3 * k+5<_;lia,by have:=r.un;show A.units+3+16 * k+200<_;lia⟩
theorem Room.in1(r:Room (k+1) A):Room k A.in1:=
 ⟨r.hd,by have:=r.dp;show A.depth+3 * k+5<_;lia,by have:=r.un;show A.units+1+16 * k+200<_;lia⟩
def Bl{A:Around}:(A.under (.builtin "type.__call__" ⟨.ref C::us,kw⟩)).depth=A.depth+1:=by
 first |rfl|simp[Code.weight]
def Bm{A:Around}:(A.under (.builtin "type.__call__" ⟨.ref C::us,kw⟩)).units=A.units+1:=by
 first |rfl|simp[Code.cUnits]
theorem Room.make(r:Room (k+1) A)(C)(us)(kw):Room k (A.under (.builtin "type.__call__" ⟨.ref C::us,kw⟩)):=
 ⟨r.hd,by have:=r.dp;rw[Bl];lia,by have:=r.un;rw[Bm];lia⟩
def Room.depth(r:Room k A):A.depth<recursionLimit:=by have:=r.dp;omega
def Room.units(r:Room k A):A.units+64<cLine:=by have:=r.un;omega
def tNil:TA:=λ_ H Q=>Q [] H
def zCB(c:TE)(tr:TA):TA:=λσ H Q=>c σ H λx a=>tr σ a λxs b=>Q (x::xs) b
section
variable{e:Expr}{pos:Pos}
def Lx:PA X [] tNil:=λ_ _ _ _ H Q I h=>Calls.spliced_nil ⟨[],H,I,.nil,h⟩
abbrev q8(X:Cx)(e:Expr)(es:List Expr):Prop:=starEach (e::es) X.env=(false,eval e X.env)::starEach es X.env
def Eb(f:PE X e te)(c:PA X es t)(hs:q8 X e es:=by rfl):PA X (e::es) (zCB te t):=by intro pos pins s σ H Q I h;rw[hs];show wpAny _ _ _ _ _ s;refine Calls.spliced_cons (gH (f pins s σ H _ I h) λu n ⟨x,i,I1,j,a⟩=>?_);exact gH (c pos pins n σ i _ I1 a) λo p ⟨xs,d,b,m,k⟩=>⟨_,d,b,.cons j m,k⟩
def tTup(t:TA):TE:=λσ H Q=>t σ H λxs a=>xs.length<=sizeLine/\ ∀p,a p=none->Q (.ref p) (jS a p (.tup xs))
def tLst(t:TA):TE:=λσ H Q=>t σ H λxs a=>xs.length<=sizeLine/\ ∀p,a p=none->Q (.ref p) (jS a p (.lst xs))
def N6(h:PA X es t):PE X (.Tuple es x1 pos) (tTup t):=by intro pins s σ H Q I f;refine wpAny_Tuple_spliced (gH (h pos pins s σ H _ I f) λc d ⟨xs,i,I1,r,z,q⟩=>⟨by rw[<-r.length];exact z,?_⟩);have a:=I1.hok.fresh (à _);refine⟨.ref d.heap.objs.size,_,I1.laid (λb u e=>hP0 _ e) (à _) ?_,rfl,q _ a⟩;exact⟨z,c,r,⟨_,è _ rfl,rfl,_,rfl⟩⟩
def N7(h:PA X es t):PE X (.List es pos) (tLst t):=by intro pins s σ H Q I f;refine wpAny_List_spliced (gH (h pos pins s σ H _ I f) λc d ⟨xs,i,I1,r,z,q⟩=>⟨by rw[<-r.length];exact z,?_⟩);have a:=I1.hok.fresh (à _);refine⟨.ref d.heap.objs.size,_,I1.laid (λb u e=>hP0 _ e) (à _) ?_,rfl,q _ a⟩;exact⟨z,c,0,r,è _ rfl⟩
end
abbrev Sp:=List V->Hp->VK->XK->Prop
abbrev Io:=List Env->Hp->Shared->XK->VP
structure Env0(P:ļ)(w:World)(K:R0)(mg:L0)(base:Heap)(A:Around)(outer:List Env)(s:ĺ)(H:Hp):Prop where
 frames:A.frames=some outer
 mod:Mod K mg base
 bs: ∀b o,base.get? b=some o->s.heap.get? b=some o/\H b=none
 bsz:base.objs.size<=↑1
 funs:s.heap.FunFrames base outer
 frf: ∀b∈Ie outer,H b=none
 hok:HOk P w H s.heap
 bare:AllBare s.gens
def CE(a:List Env)(P:ļ)(w:World)(H:Hp)(s:ĺ)(Q:VK)(u:Ļ)(b:ĺ):Prop:=
 ∃v H',b.os=s.os/\AllBare b.gens/\Un (Ie a) [] H H' s.heap b.heap/\HOk P w H' b.heap/\RelV v u/\Q v H'
def CR(CX:Io)(a:List Env)(P:ļ)(w:World)(H:Hp)(s:ĺ)(Q:VK)(E:XK)(r:Result)(b:ĺ):Prop:=
 match r with
 |.ok (.ret u)=>CE a P w H s Q u b
 |.ok _=>False
 |.error e=>CX a H s E e b
structure FnOk(P:ļ)(w:World)(K:R0)(mg:L0)(base:Heap)(CX:Io)(k:Nat)(f:Addr)(fd:FuncData)(ps:K0)(sp:Sp):Prop where
 len: ∀vs H Q E,sp vs H Q E->vs.length=ps.length
 run: ∀(A:Around)(outer:List Env)(s:ĺ)(H:Hp)(args:Args)(us:A0)(vs:List V)(Q:VK)(E:XK),Room k A->Env0 P w K mg base A outer s H->BindsTo s fd args (ps.zip us)->Vals vs us->sp vs H Q E->
  codeAny (model P w) A (.call (.ref f) args) (CR CX outer P w H s Q E) s
def FnOk.imp{K:R0}(F:FnOk P w K mg base CX k f fd ps sp)
  (h: ∀b H Q E,sp' b H Q E->sp b H Q E):FnOk P w K mg base CX k f fd ps sp':=
 ⟨λb H Q E q=>F.len b H Q E (h _ _ _ _ q),λA a s H c n b Q E i m e d j=>F.run A a s H c n b Q E i m e d (h _ _ _ _ j)⟩
def Env0.make{K:R0}(e:Env0 P w K mg base A outer s H)(C)(us)(kw):
  Env0 P w K mg base (A.under (.builtin "type.__call__" ⟨.ref C::us,kw⟩)) outer s H:=⟨by first |exact e.frames|(simpa [Around.under,Code.envs,Code.isFrame,pushEnvs]using e.frames),e.mod,e.bs,e.bsz,e.funs,e.frf,e.hok,e.bare⟩
def Env0.in1{K:R0}(e:Env0 P w K mg base A outer s H):
  Env0 P w K mg base A.in1 outer s H:=⟨e.frames,e.mod,e.bs,e.bsz,e.funs,e.frf,e.hok,e.bare⟩
section
def Inv.env0(I:↑2):Env0 X.prog X.w X.K X.mg X.base X.A X.stack s H:=
 ⟨I.ok.frames,I.ok.mod,I.bs,ì I.ok.bsz I.sz,I.stack,I.stkFree,I.hok,I.bare⟩
def Inv.after(I:↑2)(h:CE X.stack X.prog X.w H s Q u s'):EP X pins σ Q u s':=by obtain⟨v,H',os,a,un,e,r,q⟩:=h;obtain⟨f,g,d,t,c⟩:=s';obtain rfl:c=s.os:=os;exact⟨v,H',I.call un e a (λb z=>absurd z (by simp)),r,q⟩
end
def zCC(sp:Sp)(a:List V)(E:XK)(t:TA):TE:=λσ H Q=>t σ H λc b=>sp (c++a) b Q E
def zCD(C:Addr)(m:Str)(sp:Sp)(b:List V)(E:XK)(h:TE)(t:TA):TE:=λσ H Q=>h σ H λx c=> ∃a e fs,x=.ref a/\c a=some (.ins C e fs)/\fs.lookup m=none/\
 t σ c λd f=>sp (x::(d++b)) f Q E
def zCE(C:Addr)(sp:Sp)(c:List V)(E:XK)(t:TA):TE:=λσ H Q=>t σ H λd b=> ∀x a,b x=none->b a=none->a≠x->
 sp (.ref x::(d++c)) (jS (jS b a (.own x)) x (.ins C a [])) (λv e=>v=.non/\Q (.ref x) e) E
def Binds(K:R0)(a:FuncData)(ps:K0)(ds:A0):Prop:=
 ∀(s:ĺ)(us:A0),K.In s.heap->(us++ds).length=ps.length->BindsTo s a ⟨us,[]⟩ (ps.zip (us++ds))
def Binds.all{K:R0}(h: ∀a:List Ļ,a.length=ps.length->bindArgs fd ⟨a,[]⟩=pure (ps.zip a)):Binds K fd ps []:=λs a _ b=>by rw[aN]at b ⊢;exact .of_eq (h a b)
def IC(CX:Io)(X:Cx)(E:XK):Prop:= ∀(pins:M0)(σ:St)(H:Hp)(s:ĺ)(e:Ļ)(a:ĺ),Inv X pins σ H s->CX X.stack H s E e a->X.xe e a
section
variable{f C:Addr}{x:Str}{p pos apos:Pos}{e:Expr}
def Ly(F:FnOk X.prog X.w X.K X.mg X.base CX k f fd ps sp)(n:Room k X.A)(j:Binds X.K fd ps ds)(c:Vals dvs ds)(d:IC CX X E)
  (I:↑2) (r:Vals vs us) (h:sp (vs++dvs) H Q E):wpAny ↑4 X.A (call (.ref f) us) (EP X pins σ Q) X.xe s:=by
 have b:Vals _ _:=r.append c;have m:(us++ds).length=ps.length:=by rw[<-b.length];exact F.len _ _ _ _ h
 refine wpAny_call (codeAny_mono (F.run X.A X.stack s H ⟨us,[]⟩ _ _ Q E n I.env0 (j s us I.kIn m) b h) λr i a=>?_)
 cases r with
 |error e=>exact d pins σ H s e i I a
 |ok fl=>
  cases fl with
  |ret u=>exact I.after a
  |next=>exact False.elim a
  |brk=>exact False.elim a
  |cont=>exact False.elim a
abbrev q9(X:Cx)(p:Pos)(es:List Expr):Prop:=(backTo p (starEach es X.env)).any (·.1)=false
def Um(F:FnOk X.prog X.w X.K X.mg X.base CX k f fd ps sp)(b:Room k X.A)(j:Gl X x)(a:X.mg x=some (.ref f))(c:PySem.W.keepIn X.K (.ref f)=true)(m:Binds X.K fd ps ds)(d:Vals dvs ds)(i:IC CX X E)
  (ha:PA X (e::es) t) (hdb:(x==("__debug__"))=false:=by decide) (he:q8 X e es:=by rfl) (hpl:q9 X pos es:=by rfl):
  PE X (.Call (.Name x p) (e::es) [] pos) (zCC sp dvs E t):=by
 intro pins s σ H Q I h;refine wpAny_Call_Name_kw (Dy I j a ?_ hdb);refine PySem.W.callWith_K I.ok.mod.kin c (gH (ha pos pins s σ H _ I h) λn v ⟨u,o,I1,r,q⟩=>⟨I1.kIn,?_⟩) he hpl;exact Ly F b m d i I1 r q
def Uo{pl:Sem Bool}(j:PE X o ta)(c:Cls X.K C)(i:Meth X.K C m f)(F:FnOk X.prog X.w X.K X.mg X.base CX k f fd ps sp)(G:Room k X.A)(z:Binds X.K fd ps ds)(J:Vals dvs ds)(L:IC CX X E)(n:PA X (e::es) t)
  (hst:q8 X e es:=by rfl) (hpl:q9 X pos es:=by rfl)
  (ht:eval (.Call (.Attribute o m apos) (e::es) [] pos) X.env=(do
   let b <-eval o X.env
   standAt apos.atName
   let (f,first) <-holding [b] (getMethod b m pl)
   callWith pos f first (backTo pos (starEach (e::es) X.env)) (backToKw pos (keywordEach [] X.env))):=by rfl):
  PE X (.Call (.Attribute o m apos) (e::es) [] pos) (zCD C m sp dvs E ta t):=by
 intro pins s σ H Q I h;refine PySem.W.methodCall_KW (pl:=pl) (gH (j pins s σ H _ I h) λu y ⟨x,p,I1,B,a,M,fs,ex,D,l,q⟩=>?_) ht;subst ex;obtain rfl:u=Value.ref a:=B;refine Bj I1 D c i l ?_;refine PySem.W.callWith_K (first:=[.ref a]) (h₀:=X.base) I.ok.mod.kin i.kp (gH (n pos pins y σ p _ I1 q) λus O ⟨vs,N,d,r,v⟩=>⟨d.kIn,?_⟩) hst hpl;exact Ly (us:=.ref a::us) (vs:=.ref a::vs) F G z J L d (.cons rfl r) v
structure Mk(K:R0)(C f:Addr):Prop where
 makes:PySem.W.makesIn K C=true
 init:PySem.W.findIn K (.ref C) "__init__"=some (some (.ref f))
 fn:PySem.W.isFn K (.ref f)=true
 kp:PySem.W.keepIn K (.ref C)=true
def Lz(M:Mk X.K C f)(F:FnOk X.prog X.w X.K X.mg X.base CX k f fd ps sp)(n:Room (k+1) X.A)(z:Binds X.K fd ps ds)(y:Vals dvs ds)
  (hx:IC CX X E) (I:↑2) (r:Vals vs us)
  (h: ∀x c,H x=none->H c=none->c≠x->sp (.ref x::(vs++dvs)) (jS (jS H c (.own x)) x (.ins C c [])) (λv o=>v=.non/\Q (.ref x) o) E):
  wpAny ↑4 X.A (call (.ref C) us) (EP X pins σ Q) X.xe s:=by
 have i:=h _ ↑1 (I.hok.fresh (le_succ _)) (I.hok.fresh (à _)) (ê (Nat.lt_succ_self _));have b:=Inv.made (C:=C) I;have d:Vals (V.ref (↑1+1)::_) _:=.cons rfl (r.append y);have B:=by have e:=d.length;rw[F.len _ _ _ _ i]at e;exact e.symm
 refine wpAny_call (Lw I.kIn M.makes M.init (beq_iff_eq.mp M.fn) (codeAny_mono (F.run _ X.stack _ _ ⟨_,[]⟩ _ _ _ E (n.make C us [])
  (b.env0.make C us []) (z _ _ b.kIn B) d i) λr j a=>?_))
 cases r with
 |error e=>exact hx pins σ _ _ e j b a
 |ok fl=>
  cases fl with
  |ret u=>
   obtain⟨v,H',m,t,p,q⟩:=b.after a;subst p;exact⟨t,⟨V.ref _,H',m,rfl,q⟩⟩
  |next=>exact False.elim a
  |brk=>exact False.elim a
  |cont=>exact False.elim a
def Uq(M:Mk X.K C f)(F:FnOk X.prog X.w X.K X.mg X.base CX k f fd ps sp)(b:Room (k+1) X.A)(i:Gl X x)(a:X.mg x=some (.ref C))(j:Binds X.K fd ps ds)(c:Vals dvs ds)(d:IC CX X E)
  (ha:PA X (e::es) t) (hdb:(x==("__debug__"))=false:=by decide) (he:q8 X e es:=by rfl) (hpl:q9 X pos es:=by rfl):
  PE X (.Call (.Name x p) (e::es) [] pos) (zCE C sp dvs E t):=by
 intro pins s σ H Q I h;refine wpAny_Call_Name_kw (Dy I i a ?_ hdb);refine PySem.W.callWith_K I.ok.mod.kin M.kp (gH (ha pos pins s σ H _ I h) λm u ⟨o,n,I1,r,q⟩=>⟨I1.kIn,?_⟩) he hpl;exact Lz M F b j c d I1 r q
end
structure FnScope(N P:K0)(sc:Scope):Prop where
 kind:sc.kind=.function
 co:sc.isCoroutine=false
 gen:sc.isGenerator=false
 nd:N.Nodup
 pre:N.take P.length=P
 par: ∀x∈P,sc.names.lookup x=some .local\/sc.names.lookup x=some .cell
 nofree: ∀y∈sc.names,y.2≠.free
def fsK{N:K0}{d:Scope}(h:N.Nodup/\N.take P.length=P/\(∀x∈P,d.names.lookup x=some .local\/d.names.lookup x=some .cell)/\∀y∈d.names,y.2≠.free)(a:d.kind=.function:=by rfl)(b:d.isCoroutine=false:=by rfl)(c:d.isGenerator=false:=by rfl):FnScope N P d:=⟨a,b,c,h.1,h.2.1,h.2.2.1,h.2.2.2⟩
theorem RB{a:Str->Option NameKind}: ∀{binds}{m},(∀v,(x,v)∉binds)->bindL a binds m x=m x
 |[],_,_=>rfl
 |(n,v)::r,m,h=>by
  unfold bindL;rw[RB λw hw=>h w (mO _ hw)];split
  .have:x≠n:=by rintro rfl;exact h v mF0
   simp[this]
  .rfl
theorem RD{a:Str->Option NameKind}: ∀{binds}{m},(∀v,(x,v)∉binds)->bindC a binds m x=m x
 |[],_,_=>rfl
 |(n,v)::r,m,h=>by
  unfold bindC;rw[RD λw hw=>h w (mO _ hw)];split
  .rfl
  .have:x≠n:=by rintro rfl;exact h v mF0
   simp[this]
theorem RE{a:Str->Option NameKind}: ∀{P:K0}{vs}{i:Nat}{m},P.Nodup->P[i]? =some x->vs[i]? =some v->a x=some .local->
  bindL a (P.zip vs) m x=some v
 |[],_,_,_,_,h,_,_=>by simp at h
 |_::_,[],_,_,_,_,h,_=>by simp at h
 |p::P,w::vs,0,m,nd,h1,h2,hk=>by simp at h1 h2;subst h1;subst h2;show bindL a (_::P.zip vs) m p=_;unfold bindL;rw[RB λv b=>(ę.mp nd).1 (of_mem_zip b).1,iP hk];simp
 |p::P,w::vs,i+1,m,nd,h1,h2,hk=>by show bindL a _ m x=_;unfold bindL;exact RE (ę.mp nd).2 (by simpa using h1) (by simpa using h2) hk
theorem RF{a:Str->Option NameKind}: ∀{P:K0}{vs}{i:Nat}{m},P.Nodup->P[i]? =some x->vs[i]? =some v->a x≠some .local->
  bindC a (P.zip vs) m x=some v
 |[],_,_,_,_,h,_,_=>by simp at h
 |_::_,[],_,_,_,_,h,_=>by simp at h
 |p::P,w::vs,0,m,nd,h1,h2,hk=>by simp at h1 h2;subst h1;subst h2;show bindC a (_::P.zip vs) m p=_;unfold bindC;rw[RD λv b=>(ę.mp nd).1 (of_mem_zip b).1,iN hk];simp
 |p::P,w::vs,i+1,m,nd,h1,h2,hk=>by show bindC a _ m x=_;unfold bindC;exact RF (ę.mp nd).2 (by simpa using h1) (by simpa using h2) hk
noncomputable def start(N:K0)(vs:List V):St:=vs.map some++List.replicate (N.length - vs.length) none
noncomputable def Bn(CX:Io)(P:ļ)(w:World)(K:R0)(mg:L0)(base:Heap)(N:K0)(qual:Str)(scope:Scope)(f:Addr)(cd:Ļ)(A:Around)(outer:List Env)(s:ĺ)(H:Hp)(E:XK):Cx where
 prog:=P
 w:=w
 K:=K
 mg:=mg
 base:=base
 A:=A.deeper (envOfC qual scope ↑1 f cd)
 N:=N
 s₀:=s
 H₀:=H
 env:=envOfC qual scope ↑1 f cd
 outer:=outer
 stack:=envOfC qual scope ↑1 f cd::outer
 ex:=[]
 calm:=true
 fn:=λ_=>true
 pn:=[]
 xe:=λe s'=>wpAny (model P w) (A.deeper (envOfC qual scope ↑1 f cd)) (leaving (envOfC qual scope ↑1 f cd) e) (λ_ s''=>CX outer H s E e s'') (λe' s''=>CX outer H s E e' s'') s'
def XU{a:Scope}(h:a.names.lookup x=some .cell): ∃c,(cellsFrom n a.names []).lookup x=some c:=by have q:=PySem.W.cellsFrom_some a.names n [] (.inl h);exact í.mp q
theorem Ip{K:R0}
  (S:FnScope N ps scope) (hd:A.handled=none) (e0:Env0 P w K mg base A outer s H) (hl:vs.length=ps.length) (r:Vals vs us)
  (x:InCallC s ↑1 (bindL (envOfC qual scope ↑1 f cd).kindOf (ps.zip us) λ_=>none) (cellsFrom (↑1+1) scope.names []) (bindC (envOfC qual scope ↑1 f cd).kindOf (ps.zip us) λ_=>none) s1):
  Inv (Bn CX P w K mg base N qual scope f cd A outer s H E) [] (start N vs) H s1:=by
 have G:=by have:=congrArg List.length S.pre;rw[lT]at this;omega
 obtain⟨t,I,rfl,C⟩:=x.done;have m: ∀b:Addr,b∉(Bn CX P w K mg base N qual scope f cd A outer s H E).ex:=λb z=>absurd (show b∈([]:B9)from z) (by simp)
 refine⟨⟨e0.mod,S.kind,rfl,rfl,à _,λy z c t d=>?_,λy j=>?_,λy c _ h=>?_,λ_=>hd,Around.frames_deeper e0.frames,.inr ⟨rfl,rfl⟩,λb z=>absurd z (m b),e0.bs,e0.bsz,λb _ _=>m b,λb z=>absurd z (m b),e0.funs,e0.frf⟩,
  rfl,e0.bare,Un.kept C,⟨_,x.toInCall.ns,λi y v t d J=>?_⟩,λy c h=>⟨_,x.cell y c h⟩,e0.hok.fresh (à _),λy c h=>?_,λp o=>absurd (show p∈([]:List _)from o) (by simp),e0.hok.kept C,?_⟩
 .exact name_of_addr x.apart (PySem.mem_of_lookup t) (PySem.mem_of_lookup d)
 .have j:=j;rcases j with j|j
  .exact XU j
  .exact absurd rfl (S.nofree _ (PySem.mem_of_lookup j))
 .exact le_of_lt (x.above y c (PySem.mem_of_lookup h))
 .have hi:i<vs.length:=by
   unfold start at d;by_cases hi:i<vs.length
   .exact hi
   .rw[é (by simpa using hi)]at d;rw[List.getElem?_replicate]at d;split at d<;>cases d
  have D:vs[i]? =some v:=by
   unfold start at d;rw[á (by simpa using hi),ï]at d
   cases e:vs[i]? with
   |none=>rw[e]at d;cases d
   |some a=>rw[e]at d;cases d;rfl
  obtain⟨u,B,F⟩:=r.get D;have o:ps[i]? =some y:=by rw[<-S.pre,Ē (by omega)];exact t
  have n:ps.Nodup:=by rw[<-S.pre];exact S.nd.sublist (List.take_sublist _ _)
  refine⟨u,F,?_⟩;rcases S.par y (î o)with k|k
  .exact .inl ⟨k,RE n o B k⟩
  .obtain⟨c,e⟩:=XU k;refine .inr ⟨.inl k,c,e,?_⟩;have q:=x.cell y c e;rw[RF n o B (by show scope.names.lookup y≠_;rw[k];decide)]at q;exact q
 .exact e0.hok.fresh (le_of_lt (x.above y c (PySem.mem_of_lookup h)))
 .unfold start;show _=N.length;rw[lA,lM,Ď]
  lia
def zCF{K:R0}{kV:Ļ}
     (lk:K.lookup f=some ⟨oc,od,.func (PySem.W.fnOf name qual params body scope dV kV doc pm an cdv ct),osl⟩) (hcd:PySem.W.codeIn K cdv qual=true) (S:FnScope N ps scope)
  (len: ∀h H Q E,sp h H Q E->h.length=ps.length)
  (hbody: ∀ A  a  s  H  h  Q  E ,Room k (A.deeper (envOfC qual scope ↑1 f cdv))->sp h H Q E->
   ∃t,PSs (Bn CX P w K mg base N qual scope f cdv A a s H E) body t/\t {nx:=λ_ H'=>Q .non H',rt:=Q} (start N h) H):
  FnOk P w K mg base CX (k+1) f (PySem.W.fnOf name qual params body scope dV kV doc pm an cdv ct) ps sp:=by
 refine⟨len,λA a s H G Y h Q E B m O r j=>?_⟩;have T:=len _ _ _ _ j;have KX:=m.mod.kin.keeps λb o e=>(m.bs b o e).1;have C:=m.mod.nolimit.keeps λb o e=>(m.bs b o e).1
 have d: ∀y∈ps.zip Y,scope.names.lookup y.1=some .local\/(scope.names.lookup y.1=some .cell/\((cellsFrom (↑1+1) scope.names []).lookup y.1).isSome=true):=λ⟨n,v⟩ X=>by
  rcases S.par n (of_mem_zip X).1 with q|q
  .exact .inl q
  .exact .inr ⟨q,PySem.W.cellsFrom_some _ _ _ (.inl q)⟩
 refine codeAny_call_function B.depth (KX _ _ lk) rfl S.co S.gen rfl (PySem.W.codeRec_of KX hcd) (O _ _ _ _ ?_);refine wpAny_newFunctionEnv_cells S.kind d λZ L F x=>?_;subst L;refine⟨C.keeps x.toInCall.keep,codeAny_func ?_⟩;obtain⟨t,U,hq⟩:=hbody A a s H h Q E (B.deeper _) j;have I:Inv (Bn CX P w K mg base N qual scope f cdv A a s H E) [] _ H F:=Ip S B.hd m T r x;refine ü (U [] F _ H _ I hq) (λM z i=>?_) λe z i=>i
 have p: ∀{c:St}{H':Hp}{v:V}{u:Ļ},Inv (Bn CX P w K mg base N qual scope f cdv A a s H E) [] c H' z->RelV v u->Q v H'->CE a P w H s Q u z:=
  λ{c H' v u} J D q=>⟨v,H',J.os,J.bare,J.base,J.hok,D,q⟩
 cases M with
 |ret u=>
  obtain⟨v,c,H',J,D,q⟩:=i;exact p J D q
 |next=>
  obtain⟨c,H',J,q⟩:=i;exact p (v:=V.non) J rfl q
 |brk=>
  obtain⟨_,_,_,q⟩:=i;exact False.elim q
 |cont=>
  obtain⟨_,_,_,q⟩:=i;exact False.elim q
section
variable{p pos:Pos}{id:String}
def tCB(r:List V->Hp->VK->Prop)(t:TA):TE:=λσ H Q=>t σ H λb a=>r b a Q
def Ma(d:CallR X (.builtin id) r)(n:Gl X x)(c:X.mg x=none)(q:bootBuiltins x=some (.builtin id))(f:PA X (e::es) t)(o:x≠"__name__":=by decide)(a:(x==("__debug__"))=false:=by decide)
  (he:q8 X e es:=by rfl) (hpl:q9 X pos es:=by rfl):PE X (.Call (.Name x p) (e::es) [] pos) (tCB r t):=by
 intro pins s σ H Q I h;refine wpAny_Call_Name_kw (qY I n c q ?_ o a);exact PyProof.Rows.callWith_builtin1 (gH (f pos pins s σ H _ I h) λi u ⟨m,j,I1,k,b⟩=>d pins u σ j m i Q I1 k b) he hpl
def RH(d:CallR X (.type T) r)(n:Gl X x)(c:X.mg x=none)(q:bootBuiltins x=some (.type T))(f:PA X (e::es) t)(o:x≠"__name__":=by decide)(a:(x==("__debug__"))=false:=by decide)
  (he:q8 X e es:=by rfl) (hpl:q9 X pos es:=by rfl):PE X (.Call (.Name x p) (e::es) [] pos) (tCB r t):=by
 intro pins s σ H Q I h;refine wpAny_Call_Name_kw (qY I n c q ?_ o a);exact ý (gH (f pos pins s σ H _ I h) λi u ⟨m,j,I1,k,b⟩=>d pins u σ j m i Q I1 k b) he hpl
end
end L2
namespace HT
open PySem PyProof.Rows
section
def cat_tup(u:IsTup s.heap t vs.toArray)(r:IsTup s.heap b ws.toArray)(m:vs≠[])
  (h1:ws=[]->Q (.ref t) s) (h2:ws≠[]->Q (.ref ↑1) {s with heap:=s.heap.push {cls:=.type "tuple",data:=.seq (vs++ws).toArray}})
  (hsz:vs.length+ws.length<=sizeLine):wpAny (model prog w) A (binaryOp .Add (.ref t) (.ref b)) Q E s:=by
 obtain⟨⟨cls,o,data,sl⟩,f,p,n,q⟩:=id u;obtain⟨⟨j,c,_,d⟩,a,i,k,h⟩:=id r;subst p q i h;have e:vs.toArray++ws.toArray=(vs++ws).toArray:=by simp
 by_cases hw:ws=[]
 .exact concat_meets ⟨_,f,rfl⟩ ⟨_,a,rfl⟩ noFill_tuple_add seq_tuple_add PySem.F.slot_tuple_add PySem.F.entry_tuple_add (PySem.F.args_tuple_add_2 _ _)
   (tuple_addW1 t b vs.toArray ws.toArray n k o c sl d (by simpa using m) (by simp[hw])) ⟨f,a,h1 hw⟩
 .refine concat_meets ⟨_,f,rfl⟩ ⟨_,a,rfl⟩ noFill_tuple_add seq_tuple_add PySem.F.slot_tuple_add PySem.F.entry_tuple_add (PySem.F.args_tuple_add_2 _ _)
   (tuple_addW2 t b vs.toArray ws.toArray n k o c sl d (by simpa using m) (by simpa using hw) (by rw[sA];exact hsz)) ⟨f,a,?_⟩
  rw[e];exact h2 hw
noncomputable def sIx(n d:Nat):Option Int->Nat
 |none=>d
 |some v=>if v<0 then(v+(n:Int)).toNat else min v.toNat n
theorem sIx_nat(n d k:Nat):sIx n d (some  k )=min k n:=by show(if(k:Int)<0 then((k:Int)+(n:Int)).toNat else min (k:Int).toNat n)=min k n;rw[iN #[0],Int.toNat_natCast]
theorem sIx_le(n d)(b:d<=n)(o):sIx n d o<=n:=by
 cases o with
 |none=>exact b
 |some v=>
  show(if v<0 then(v+_).toNat else min v.toNat n)<=n;by_cases a:v<0
  .rw[iP a];lia
  .rw[iN a];exact Nat.min_le_right _ _
theorem Ec(v)(n d:Nat):(if v<0 then max (v+(n:Int)) 0 else min v  n )=((sIx n d (some v):Nat)):=by
 show _=(((if v<0 then(v+_).toNat else min v.toNat n):Nat):Int)
 by_cases a:v<0
 .simp only[iP a];lia
 .simp only[iN a];lia
theorem Bo(lo hi)(n:Nat):Builtin.Slice.sliceAdjust lo hi 1  n =(((sIx n 0 lo):Int),((sIx n n hi):Int)):=by
 have a: ¬((1:Int)<0):=by lia
 unfold Builtin.Slice.sliceAdjust;refine Prod.ext ?_ ?_
 .cases lo with
  |none=>rfl
  |some v=>exact Ec v n 0
 .cases hi with
  |none=>rfl
  |some v=>exact Ec v n n
theorem Bp(i j:Nat):Builtin.Slice.slicePlaces  i   j  1=j - i:=by
 unfold Builtin.Slice.slicePlaces;have a:(1:Int)>0:=by lia
 split<;>lia
def MH(p:IsPart v o)(h:Q o s):wpAny (model prog w) A (Builtin.Slice.slicePartIndex v) Q E s:=by
 cases p with
 |none=>exact slicePart_none h
 |int i t=>exact slicePart_int h
def sliceApplied_gen{lo:O0}{Q:Int×Int×Nat->ĺ->Prop}(hs:s.heap.IsSliceOf sl vl vu .none)(pl:IsPart vl lo)(d:IsPart vu hi)
  (h:Q (((sIx n 0 lo:Nat)),1,sIx n n hi - sIx n 0 lo) s):wpAny (model prog w) A (Builtin.Slice.sliceApplied (.ref sl) (pure  n )) Q E s:=by
 obtain⟨os,a,c,b⟩:=id hs;refine wB (wB (ò a b rfl (wB (ò a b rfl (wB (ò a b rfl (wP ?_)))))));refine wB (slicePart_none ?_);show wpAny _ _ _ _ _ s;refine wB (MH pl (wB (MH d (wB (wP ?_)))));show wpAny _ _ (match Builtin.Slice.sliceAdjust lo hi 1 _ with |(lo,hi)=>pure (lo,_,Builtin.Slice.slicePlaces lo hi 1)) _ _ s;rw[Bo lo hi n];show wpAny _ _ (pure _) _ _ s;rw[Bp];exact wP h
theorem Mb(xs:B0)(i k:Nat):((List.range k).filterMap λ(m:Nat)=>xs[( i +(m:Int) * 1).toNat]?).toArray=((xs.toList.drop i).take k).toArray:=by
 have e:(λ(m:Nat)=>xs[((i:Int)+(m:Int) * 1).toNat]?)=λm=>xs[i+m]? :=by
  funext m;have:((i:Int)+(m:Int) * 1).toNat=i+m:=by lia
  rw[this]
 rw[e];have:=pick_run xs i k;rw[List.filterMap_map]at this;have a:((λx=>xs[x]?)∘λx=>i+x)=λm=>xs[i+m]? :=rfl;rw[a]at this;rw[this]
def getItem_tuple_cut{lo:O0}(b:IsTup s.heap t items)(hs:s.heap.IsSliceOf sl vl vu .none)(pl:IsPart vl lo)(i:IsPart vu hi)
  (hw: ¬(sIx items.size 0 lo=0/\sIx items.size items.size hi=items.size))
  (h:Q (.ref ↑1) {s with heap:=s.heap.push {cls:=.type "tuple",data:=.seq ((items.toList.drop (sIx items.size 0 lo)).take (sIx items.size items.size hi - sIx items.size 0 lo)).toArray}})
  (hsz:items.size<=sizeLine):wpAny (model prog w) A (getItem (.ref t) (.ref sl)) Q E s:=by
 have a:sizeOk (.seq ((items.toList.drop (sIx items.size 0 lo)).take (sIx items.size items.size hi - sIx items.size 0 lo)).toArray):=by show((items.toList.drop (sIx items.size 0 lo)).take _).toArray.size<=sizeLine;rw[sA,lT,Ć,ā];omega
 have n:sIx items.size items.size hi<=items.size:=sIx_le _ _ (à _) hi;obtain⟨os,f,c,j⟩:=id hs;have e:s.TypeIs (.ref sl) "slice":=⟨os,f,c⟩
 unfold getItem
 try with_reducible refine ú ?_
 first |refine wB (wP ?_)|skip
 refine wB (wpAny_sequenceKey b.typeIs ↑3 ?_)
 refine wB (ô b.typeIs ė
  (ð ė b.typeIs entry_tuple_getitem ?_ (args_tuple_getitem _ _)))
 show wpAny _ _ (Builtin.Tuple.tupleItemsOf (.ref t) >>= _) _ _ s;refine wB (tupleItemsOf_ b ?_);refine wB (į e ?_);rw[iP ↑3];refine wB (sliceApplied_gen hs pl i ?_);have d: ¬((((sIx items.size 0 lo:Nat):Int)==0&&(1:Int)==1&&(sIx items.size items.size hi - sIx items.size 0 lo)==items.size)=true):=by intro q;rw[aE,aE]at q;have k:((sIx items.size 0 lo:Nat):Int)=0:=eq_of_beq q.1.1;have m:sIx items.size items.size hi - sIx items.size 0 lo=items.size:=eq_of_beq q.2;exact hw ⟨by omega,by omega⟩
 show wpAny _ _ (if _=true then _ else _) _ _ s;rw[iN d,Mb]
 first
  |exact wB (wpAny_newObj_type (wP ⟨_,rfl,wP h⟩) a)
  |exact wB _
  |exact wB _
  |exact wB _
end
end HT
namespace L2
open PySem PySem.Spec PyProof.Rows
abbrev TO:=St->Hp->(Option Int->Hp->Prop)->Prop
def PO(X:Cx)(e:Option Expr)(t:TO):Prop:=
 ∀(pins:M0)(s:ĺ)(σ:St)(H:Hp)(Q:Option Int->Hp->Prop),Inv X pins σ H s->t σ H Q->
  wpAny ↑4 X.A (evalPart e X.env) (λu a=> ∃o H',Inv X pins σ H' a/\IsPart u o/\Q o H') X.xe s
def Ur:TO:=λ_ H Q=>Q none H
def zCG(t:TE):TO:=λσ H Q=>t σ H λx a=> ∃i,x=.int i/\Q (some i) a
section
variable{lo hi:Option Expr}{p2:Pos}
def Us:PO X none Ur:=by intro pins s σ H Q I h;exact wP ⟨none,H,I,.none,h⟩
def Ut(h:PE X e te):PO X (some e) (zCG te):=by intro pins s σ H Q I hw;refine gH (h pins s σ H _ I hw) λu d ⟨x,b,I1,c,a⟩=>?_;obtain⟨i,rfl,q⟩:=a;obtain⟨t,rfl⟩:=c;exact⟨_,b,I1,.int i t,q⟩
def SlR(X:Cx)(r:V->Option Int->Option Int->Hp->VK->Prop):Prop:=
 ∀(pins:M0)(s:ĺ)(σ:St)(H:Hp)(x:V)(v vl a:Ļ)(lo hi:O0)(sl:Addr)(Q:VK),Inv X pins σ H s->RelV x v->s.heap.IsSliceOf sl vl a .none->IsPart vl lo->IsPart a hi->r x lo hi H Q->
  ∃T id,typeLookup (.type T) "__getitem__"=pure (some (.builtin id))/\s.TypeIs v T/\wpAny ↑4 X.A (getItem v (.ref sl)) (EP X pins σ Q) X.xe s
def SlR.or(h:SlR X r)(h':SlR X r'):SlR X (λx lo hi H Q=>r x lo hi H Q\/r' x lo hi H Q):=by
 intro pins s σ H x v vl d lo hi sl Q I a b e c q;rcases q with q|q
 .exact h pins s σ H x v vl d lo hi sl Q I a b e c q
 .exact h' pins s σ H x v vl d lo hi sl Q I a b e c q
def tSl(r:V->Option Int->Option Int->Hp->VK->Prop)(f:TE)(c e:TO):TE:=λσ H Q=>f σ H λx a=>c σ a λl d=>e σ d λu b=>r x l u b Q
def Mc(F:SlR X r)(m:PE X e te)(B:PO X lo tl)(f:PO X hi th):PE X (.Subscript e (.Slice lo hi none p2) pos) (tSl r te tl th):=by intro pins s σ H Q I h;refine Subscript_ (gH (m pins s σ H _ I h) λv y ⟨x,n,I1,J,C⟩=>?_);refine wpAny_Slice (gH (B pins y σ n _ I1 C) λvl G ⟨l,E,i,t,p⟩=>gH (f pins G σ E _ i p) λc a ⟨u,d,D,j,o⟩=>?_);refine wP ?_;have k:Inv X pins σ d {a with heap:=a.heap.push {cls:=.type "slice",data:=.fields #[vl,c,.none]}}:=D.kept λb L q=>hP0 _ q;obtain⟨T,id,K,z,w⟩:=F pins {a with heap:=a.heap.push {cls:=.type "slice",data:=.fields #[vl,c,.none]}} σ d x v vl c l u a.heap.objs.size Q k J (Heap.IsSliceOf.new ..) t j o;show wpAny _ X.A _ _ X.xe {a with heap:=a.heap.push {cls:=.type "slice",data:=.fields #[vl,c,.none]}};exact tail_any z K w (by with_unfolding_all rfl)
def Iq(xs:List V)(lo hi:O0):List V:=(xs.drop (HT.sIx xs.length 0 lo)).take (HT.sIx xs.length xs.length hi - HT.sIx xs.length 0 lo)
theorem JU(xs)(lo hi):(Iq xs lo hi).length<=xs.length:=by
 unfold Iq;rw[lT,Ć]
 lia
def rSlT(K:R0):V->Option Int->Option Int->Hp->VK->Prop:=λx lo hi H Q=> ∃a xs,x=.ref a/\SqT K H a xs/\
 ¬(HT.sIx xs.length 0 lo=0/\HT.sIx xs.length xs.length hi=xs.length)/\ ∀p,H p=none->Q (.ref p) (jS H p (.tup (Iq xs lo hi)))
def N8:SlR X (rSlT X.K):=by
 intro pins s σ H x v vl o lo hi sl Q I i j n k h;obtain⟨a,xs,rfl,m,hw,q⟩:=h;cases i;obtain⟨d,r,f,e⟩:=I.tuple m;have c:d.toArray.size=xs.length:=by rw[sA];exact r.length.symm
 refine⟨_,_,PyProof.Rows.slot_tuple_getitem.lookup,f.typeIs,?_⟩;refine HT.getItem_tuple_cut f j n k (by rw[c];exact hw) ?_ (by rw[c];exact e);rw[c];refine⟨.ref ↑1,_,I.laid (λb p q=>hP0 _ q) (à _) ?_,rfl,q _ (I.hok.fresh (à _))⟩;exact⟨ì (JU xs lo hi) e,_,(r.drop _).take _,IsTup.new _ _⟩
def zCH(K:R0):R2:=λx y H Q=> ∃a b xs c,x=.ref a/\y=.ref b/\SqT K H a xs/\SqT K H b c/\xs≠[]/\xs.length+c.length<=sizeLine/\
 (c=[]->Q (.ref a) H)/\(c≠[]-> ∀p,H p=none->Q (.ref p) (jS H p (.tup (xs++c))))
def Vals.nil_iff(r:Vals xs us):us=[]↔xs=[]:=by
 cases r with
 |nil=>simp
 |cons _ _=>simp
def Uu:OpR X (binaryOp .Add) (zCH X.K):=by intro pins s σ H x y v u Q I o k h;obtain⟨a,b,xs,t,rfl,rfl,j,n,r,e,p,m⟩:=h;cases o;cases k;obtain⟨i,d,p1,_⟩:=I.tuple j;obtain⟨f,c,p2,_⟩:=I.tuple n;refine HT.cat_tup p1 p2 (λz=>r (d.nil_iff.mp z)) (λz=>⟨.ref a,H,I,rfl,p (c.nil_iff.mp z)⟩) (λz=>?_) (by rw[<-d.length, <-c.length];exact e);refine⟨.ref ↑1,_,I.laid (λb A q=>hP0 _ q) (à _) ?_,rfl,m (λw=>z (c.nil_iff.mpr w)) _ (I.hok.fresh (à _))⟩;exact⟨by rw[lA];exact e,_,d.append c,IsTup.new _ _⟩
end
noncomputable def XM(n:Nat)(i:Int):Option Nat:=if 0<=i then(if i<n then some i.toNat else none)else if -(n:Int)<=i then some (i+n).toNat else none
def uT{α:Type}(xs:List α)(i:Int):Option α:=(XM xs.length i).bind λj=>xs[j]?
theorem Ed(h:XM n i=some j):seqIndex? i n=some j/\j<n/\ - n <=i/\i<n:=by
 unfold XM at h;by_cases b:0<=i
 .rw[iP b]at h;by_cases a:i<n
  .rw[iP a]at h;have e:=â h;exact⟨by rw[seqIndex_of b a,e],by lia,by lia,a⟩
  .rw[iN a]at h;cases h
 .rw[iN b]at h;by_cases a: -(n:Int)<=i
  .rw[iP a]at h;have e:=â h;exact⟨by rw[seqIndex_neg #[0] a,e],by lia,a,by lia⟩
  .rw[iN a]at h;cases h
def TV(h:uT xs i=some v): ∃j,seqIndex? i xs.length=some j/\xs[j]? =some v/\j<xs.length/\ - xs.length <=i/\i<xs.length:=by
 unfold uT at h
 cases e:XM xs.length i with
 |none=>rw[e]at h;cases h
 |some j=>
  rw[e]at h;obtain⟨b,a,d,c⟩:=Ed e;exact⟨j,b,h,a,d,c⟩
theorem atI_nat{j:Nat}(h:xs[j]? =some v):uT xs  j =some v:=by
 have a:=(gS.mp h).1;have e:XM xs.length (j:Int)=some j:=by unfold XM;rw[iP #[0],iP #[0]];simp
 unfold uT;rw[e];exact h
def FX(b:Expr):Prop:= ∀o i,subscripted b false o i=operate [o,i] (getItem o i)
def IxR(X:Cx)(r:R2):Prop:=
 ∀(b a:Expr)(pins:M0)(s:ĺ)(σ:St)(H:Hp)(x y:V)(v u:Ļ)(Q:VK),Inv X pins σ H s->RelV x v->RelV y u->r x y H Q->
  subscripted a false v u=operate [v,u] (getItem v u)->wpAny ↑4 X.A (subscriptTail b a v u) (EP X pins σ Q) X.xe s
def Uv(X:Cx)(id:String)(r:V->List V->Hp->VK->Prop):Prop:=
 ∀(pins:M0)(s:ĺ)(σ:St)(H:Hp)(x:V)(xs:List V)(v:Ļ)(us:A0)(Q:VK),Inv X pins σ H s->RelV x v->Vals xs us->r x xs H Q->
  wpAny ↑4 X.A (call (.builtin id) (v::us)) (EP X pins σ Q) X.xe s
section
variable{a b:Expr}
def IxR.or(h:IxR X r)(h':IxR X r'):IxR X (λx y H Q=>r x y H Q\/r' x y H Q):=by
 intro a b pins s σ H x y v u Q I c e q d;rcases q with q|q
 .exact h a b pins s σ H x y v u Q I c e q d
 .exact h' a b pins s σ H x y v u Q I c e q d
def zCI(e:IxR X r)(i:PE X a ta)(m:PE X b tb)(hs:FX b):PE X (.Subscript a b pos) (zEQ r ta tb):=by intro pins s σ H Q I h;exact Subscript_ (M5 i m I h λv u k x y f d c j q=>e a b pins k σ f x y v u Q d c j q (hs _ _))
def zCJ(K:R0):R2:=λx y H Q=> ∃p xs i v,x=.ref p/\y=.int i/\SqL K H p xs/\uT xs i=some v/\Q v H
def zCK(K:R0):R2:=λx y H Q=> ∃p xs i v,x=.ref p/\y=.int i/\SqT K H p xs/\uT xs i=some v/\Q v H
def zCL:R2:=λx y H Q=> ∃z i c,x=.str z/\y=.int i/\z.length<=sizeLine/\uT z.cps.toList i=some c/\Q (.str ⟨#[c]⟩) H
theorem Uw:IxR X (zCJ X.K):=by
 intro f e pins s σ H x y v u Q I G C h o;obtain⟨p,xs,i,z,rfl,rfl,J,B,q⟩:=h;cases G;obtain⟨t,rfl⟩:=C;obtain⟨c,r,d,M⟩:=I.list J;obtain⟨j,b,D,N,E,L⟩:=TV B;obtain⟨w,n,m⟩:=r.get D;have F:=r.length;have O:=EZ;have a:EP X pins σ Q w s:=⟨z,H,I,m,q⟩
 by_cases A:0<=i
 .have k:=by rw[seqIndex_of A L]at b;exact â b
  exact item_listR d.isList A #[0] (by rw[k];simpa using n) a o
 .have k:(i+(c.toArray.size:Int)).toNat=j:=by rw[seqIndex_neg #[0] E]at b;rw[sA, <-F];exact â b
  exact subscriptTail_builtinR d.isList.typeIs slot_list_getitem.lookup
   (wpAny_getItem_list_neg d.isList #[0] (by rw[sA]<;>lia) #[0] (by rw[k];simpa using n) ⟨rfl,a⟩) o
theorem ix_tup:IxR X (zCK X.K):=by
 intro c a pins s σ H x y v u Q I C o h m;obtain⟨p,xs,i,z,rfl,rfl,E,n,q⟩:=h;cases C;obtain⟨t,rfl⟩:=o;obtain⟨k,r,e,G⟩:=I.tuple E;obtain⟨j,D,A,J,F,M⟩:=TV n;obtain⟨w,f,d⟩:=r.get A;have B:=r.length;have L:=EZ;have b:EP X pins σ Q w s:=⟨z,H,I,d,q⟩
 exact subscriptTail_builtinR e.typeIs slot_tuple_getitem.lookup
  (getItem_tuple e #[0] #[0] (by rw[sA, <-B];exact D) (by simpa using f) ⟨rfl,b⟩) m
theorem ix_str:IxR X zCL:=by
 intro b a pins s σ H x y v u Q I p k h e;obtain⟨z,i,c,rfl,rfl,C,f,q⟩:=h;obtain⟨t,rfl⟩:=p;obtain⟨B,rfl⟩:=k;obtain⟨j,d,m,D,n,A⟩:=TV f;have o:z.cps.toList.length=z.length:=by simp[Str.length]
 rw[o]at d n A;have E:=EZ;exact tail_any (typeIs_str s z t) slot_str_getitem.lookup (getItem_str (by have r:decide (i< -(2 ^ 63:Int))=false:=dF0 #[0];have w:decide (i>=2 ^ 63)=false:=dF0 #[0];rw[r,w,Bool.or_false]) (by rw[d];simpa using m) ⟨.str ⟨#[c]⟩,H,I.tok _,⟨_,rfl⟩,q⟩) e
def rIx(K:R0):R2:=λx y H Q=>zCJ K x y H Q\/zCK K x y H Q\/zCL x y H Q
def N9:IxR X (rIx X.K):=Uw.or (ix_tup.or ix_str)
def Bq(a:A0)(n j)(u):Obj.mapSeq (·.setIfInBounds j u) {cls:=.type "list",data:=.seq a.toArray n}={cls:=.type "list",data:=.seq (a.set j u).toArray n}:=by simp[Obj.mapSeq]
def Inv.lst(I:↑2)(h:H p=some (.lst xs)):
  ∃(a:A0)(n:Nat),Vals xs a/\s.heap.get? p=some {cls:=.type "list",data:=.seq a.toArray n}/\xs.length<=sizeLine:=by
 obtain⟨z,a,n,r,e⟩:=I.hok p _ h;exact⟨a,n,r,e,z⟩
def Inv.lstUpd{a:A0}(I:↑2)(h:H p=some (.lst xs))
  (ho:s.heap.get? p=some {cls:=.type "list",data:=.seq a.toArray n}) (hf:f {cls:=.type "list",data:=.seq a.toArray n}={cls:=.type "list",data:=.seq its'.toArray n'}) (r:Vals ys its') (hz:ys.length<=sizeLine) (t):
  Inv X pins σ (jS H p (.lst ys)) {s with heap:=s.heap.update p f,toks:=t}:=by
 have e:(s.heap.update p f).get? p=some {cls:=.type "list",data:=.seq its'.toArray n'}:=by rw[Heap.get?_update_self f ho (by rw[hf]<;>rfl),hf]
 refine I.write (by rw[h];trivial) (.inl rfl) (λb u c q=>(ē _ _ (Ne.symm c)).trans q) ⟨_,e⟩ ?_;exact⟨hz,its',n',r,e⟩
def zCM:V->V->V->Hp->(Hp->Prop)->Prop:=λo i v H Q=> ∃p xs k j,o=.ref p/\i=.int k/\H p=some (.lst xs)/\XM xs.length k=some j/\Q (jS H p (.lst (xs.set j v)))
theorem set_list:Ud X zCM:=by
 intro pins s σ H o i v F G u Q I C B D h;obtain⟨p,xs,k,j,rfl,rfl,y,E,q⟩:=h;cases C;obtain⟨t,rfl⟩:=B;obtain⟨a,n,r,d,A⟩:=I.lst y;obtain⟨b,J,m,f⟩:=Ed E;have e:=r.length;have K:=EZ
 have z:Inv X pins σ _ {s with heap:=s.heap.update p _}:=
  I.lstUpd y d (Bq a n j u) (r.set D j) (by rw[ÿ];exact A) s.toks
 by_cases w:0<=k
 .have c:=by rw[seqIndex_of w f]at b;exact â b
  exact PySem.W.ki_setAt d w #[0] (by rw[sA, <-e];exact f) (by rw[c];exact⟨_,z,q⟩)
 .have c:(k+(a.toArray.size:Int)).toNat=j:=by rw[seqIndex_neg #[0] m]at b;rw[sA, <-e];exact â b
  exact PySem.W.ki_setBack d #[0] (by rw[sA, <-e];exact m) #[0] (by rw[c];exact⟨_,z,q⟩)
theorem TX(lo hi)(n):(sliceBounds lo hi none n).1=((HT.sIx n 0 lo:Nat))/\(sliceBounds lo hi none n).2.1=((HT.sIx n n hi:Nat))/\(sliceBounds lo hi none n).2.2=1:=by
 refine⟨?_,?_,rfl⟩
 .cases lo with
  |none=>simp[sliceBounds,HT.sIx]
  |some i=>
   simp only[sliceBounds,HT.sIx,Option.getD_none,if_true];by_cases h:i<0
   .simp only[h,if_true]<;>lia
   .simp only[h,iF]<;>lia
 .cases hi with
  |none=>simp[sliceBounds,HT.sIx]
  |some i=>
   simp only[sliceBounds,HT.sIx,Option.getD_none,if_true];by_cases h:i<0
   .simp only[h,if_true]<;>lia
   .simp only[h,iF]<;>lia
theorem PY(a:A0)(lo hi):slicePick a.toArray lo hi none=((a.drop (HT.sIx a.length 0 lo)).take (HT.sIx a.length a.length hi - HT.sIx a.length 0 lo)).toArray:=by obtain⟨d,c,b⟩:=TX lo hi a.toArray.size;unfold slicePick;rw[d,c,b];simp only[sliceRange_one,pick_run]<;>rfl
def rSlL(K:R0):V->Option Int->Option Int->Hp->VK->Prop:=λx lo hi H Q=> ∃a xs,x=.ref a/\SqL K H a xs/\ ∀p,H p=none->Q (.ref p) (jS H p (.lst (Iq xs lo hi)))
theorem Ux:SlR X (rSlL X.K):=by intro pins s σ H x v vl o lo hi sl Q I e i m j h;obtain⟨a,xs,rfl,k,q⟩:=h;cases e;obtain⟨f,r,d,n⟩:=I.list k;have c:=r.length;refine⟨_,_,slot_list_getitem.lookup,d.isList.typeIs,?_⟩;refine wpAny_getItem_list_slice d.isList i m j .none (by simp) ?_ (by rw[sA]<;>lia);rw[PY, <-c];refine⟨.ref ↑1,_,I.laid (λb p q=>hP0 _ q) (à _) ?_,rfl,q _ (I.hok.fresh (à _))⟩;exact⟨ì (JU xs lo hi) n,_,0,(r.drop _).take _,è _ rfl⟩
noncomputable def sN:V->Bool
 |.non=>true
 |.bl _=>true
 |.int _=>true
 |.str _=>true
 |_=>false
noncomputable def Uy:V->V->Bool
 |.non,.non=>true
 |.bl a,.bl b=>a==b
 |.bl a,.int b=>(if a then 1 else 0)==b
 |.int a,.bl b=>a==(if b then 1 else 0)
 |.int a,.int b=>a==b
 |.str a,.str b=>a==b
 |_,_=>false
def O1(e:RelV y u)(c:RelV x v)(h:sN y=true)(f:sN x=true):SeqAt.EqAt A s u v (Uy y x):=by
 cases y with
 |non=>
  cases e
  cases x with
  |non=>cases c;exact SeqAt.EqAt.same _
  |bl b=>cases c;exact SeqAt.EqAt.none_bool b
  |int b=>obtain⟨t,rfl⟩:=c;exact SeqAt.EqAt.none_int b t
  |str b=>obtain⟨t,rfl⟩:=c;exact SeqAt.EqAt.none_str b t
  |_=>exact absurd f xF0
 |bl a=>
  cases e
  cases x with
  |non=>cases c;exact SeqAt.EqAt.bool_none a
  |bl b=>cases c;exact SeqAt.EqAt.bool_bool a b
  |int b=>obtain⟨t,rfl⟩:=c;exact SeqAt.EqAt.bool_int a b t
  |str b=>obtain⟨t,rfl⟩:=c;exact SeqAt.EqAt.bool_str a b t
  |_=>exact absurd f xF0
 |int a=>
  obtain⟨d,rfl⟩:=e
  cases x with
  |non=>cases c;exact SeqAt.EqAt.int_none a d
  |bl b=>cases c;exact SeqAt.EqAt.int_bool a d b
  |int b=>obtain⟨t,rfl⟩:=c;exact SeqAt.EqAt.int_int a d b t
  |str b=>obtain⟨t,rfl⟩:=c;exact SeqAt.EqAt.int_str a d b t
  |_=>exact absurd f xF0
 |str a=>
  obtain⟨d,rfl⟩:=e
  cases x with
  |non=>cases c;exact SeqAt.EqAt.str_none a d
  |bl b=>cases c;exact SeqAt.EqAt.str_bool a d b
  |int b=>obtain⟨t,rfl⟩:=c;exact SeqAt.EqAt.str_int a d b t
  |str b=>obtain⟨t,rfl⟩:=c;exact SeqAt.EqAt.str_str a d b t
  |_=>exact absurd f xF0
 |_=>exact absurd h xF0
theorem TZ:CallR X (.builtin "len") (λxs H Q=> ∃p b,xs=[.ref p]/\(SqL X.K H p b\/SqT X.K H p b)/\Q (.int b.length) H):=by
 intro pins s σ H xs k Q I r h;obtain⟨p,b,rfl,c,q⟩:=h;obtain⟨u,rfl,i⟩:=vals1 r;cases i;have m:=EZ;rcases c with c|c
 .obtain⟨d,f,e,j⟩:=I.list c;have a:=f.length;exact Calls.call_len_list e.isList (by simp only[sA]<;>lia) ⟨.int b.length,H,I.tok _,⟨_,by rw[sA,a]⟩,q⟩
 .obtain⟨d,f,e,j⟩:=I.tuple c;have a:=f.length;exact len_tuple e (by simp only[sA]<;>lia) ⟨.int b.length,H,I.tok _,⟨_,by rw[sA,a]⟩,q⟩
theorem UA:CallR X (.builtin "len") (λxs H Q=> ∃z,xs=[.str z]/\z.length<=sizeLine/\Q (.int z.length) H):=by intro pins s σ H xs a Q I r h;obtain⟨z,rfl,b,q⟩:=h;obtain⟨u,rfl,t,rfl⟩:=vals1 r;have c:=EZ;exact len_str #[0] ⟨.int z.length,H,I.tok _,⟨_,rfl⟩,q⟩
def CallR.or(h:CallR X f r)(h':CallR X f r'):CallR X f (λxs H Q=>r xs H Q\/r' xs H Q):=by
 intro pins s σ H xs b Q I a q;rcases q with q|q
 .exact h pins s σ H xs b Q I a q
 .exact h' pins s σ H xs b Q I a q
theorem FY:CallR X (.type "list") (λxs H Q=> ∃p b,xs=[.ref p]/\(SqL X.K H p b\/SqT X.K H p b)/\ ∀l,H l=none->Q (.ref l) (jS H l (.lst b))):=by
 intro pins s σ H xs z Q I r h;obtain⟨p,b,rfl,j,q⟩:=h;obtain⟨u,rfl,y⟩:=vals1 r;cases y
 have i: ∀(a:A0),Vals b a->b.length<=sizeLine-> ∀(h':Heap)(c':Nat),_->
   h'.get? ↑1=some {cls:=.type "list",dict:=none,data:=.seq a.toArray c',slots:=#[]}->EP X pins σ Q _ {s with heap:=h'}:=λa c d h' c' kp e=>
  ⟨.ref ↑1,_,I.laid kp (à _) (show ObjOk X.prog X.w _ h' _ (.lst b)from⟨d,a,c',c,e⟩),rfl,q _ (I.hok.fresh (à _))⟩
 rcases j with j|j
 .obtain⟨a,c,t,d⟩:=I.list j;have f:=c.length;obtain⟨o,m,k,n,v⟩:=t.isList;exact call_list_seq p (.inl rfl) m k v (λh' c' kp e=>i a c d h' c' kp e) (by simp only[sA]<;>lia)
 .obtain⟨a,c,t,d⟩:=I.tuple j;have f:=c.length;obtain⟨o,m,k,n,v⟩:=t;exact call_list_seq p (.inr rfl) m k v (λh' c' kp e=>i a c d h' c' kp e) (by simp only[sA]<;>lia)
theorem eW:CallR X (.type "tuple") (λxs H Q=> ∃p c,xs=[.ref p]/\((SqL X.K H p c/\ ∀l,H l=none->Q (.ref l) (jS H l (.tup c)))\/(SqT X.K H p c/\Q (.ref p) H))):=by
 intro pins s σ H xs n Q I r h;obtain⟨p,c,rfl,h⟩:=h;obtain⟨u,rfl,k⟩:=vals1 r;cases k;rcases h with⟨hq,q⟩|⟨hq,q⟩
 .obtain⟨a,f,d,j⟩:=I.list hq;have i:=f.length;refine call_tuple_list d.isList (λh' kp=>?_) (by simp only[sA]<;>lia);have I1:Inv X pins σ H {s with heap:=h'}:=I.kept kp
  have m:Inv X pins σ (jS H h'.objs.size (.tup c)) {s with heap:=h'.push {cls:=.type "tuple",data:=.seq a.toArray}}:=
   I1.laid (λb o e=>hP0 _ e) (à _) (⟨j,a,f,IsTup.new _ _⟩)
  exact⟨.ref h'.objs.size,_,m,rfl,q _ (I1.hok.fresh (à _))⟩
 .obtain⟨a,f,d,j⟩:=I.tuple hq;exact call_tuple_same d ⟨.ref p,H,I,rfl,q⟩
def zET(K:R0)(T:String)(x:V)(H:Hp):Prop:=match x with
 |.str _=>T="str"
 |.int _=>T="int"
 |.ref p=>(T="list"/\ ∃xs,SqL K H p xs)\/(T="tuple"/\ ∃o,K.lookup p=some o/\o.cls=.type "tuple"/\o.dict=none)\/
   (T="dict"/\((∃a,H p=some (.dK a))\/ ∃a,H p=some (.dT a)))\/(T="set"/\ ∃S n,H p=some (.set S n))
 |_=>False
def Md(I:↑2)(r:RelV x v)(b:zET X.K T x H):
  s.TypeIs v T/\ ∀a,v=.ref a-> ∃j,s.heap.get? a=some j/\j.dict=none:=by
 cases x with
 |str z=>
  obtain⟨t,rfl⟩:=r;cases b;exact⟨typeIs_str s z t,λ_ e=>nomatch e⟩
 |int i=>
  obtain⟨t,rfl⟩:=r;cases b;exact⟨typeIs_int s i t,λ_ e=>nomatch e⟩
 |ref p=>
  cases r;rcases b with⟨rfl,xs,hq⟩|⟨rfl,o,hk,hc,d⟩|⟨rfl,hk⟩|⟨rfl,S,n,hk⟩
  .obtain⟨k,_,h,_⟩:=I.list hq;refine⟨h.isList.typeIs,λa e=>?_⟩;cases e;obtain⟨o,n,e,c,d,_⟩:=h;exact⟨o,e,d⟩
  .refine⟨⟨o,I.kIn p o hk,hc⟩,λa e=>?_⟩;cases e;exact⟨o,I.kIn _ o hk,d⟩
  .have z: ∃o,s.heap.get? p=some o/\o.ExactDict:=by
    rcases hk with⟨kvs,hk⟩|⟨kvs,hk⟩
    .obtain⟨_,_,_,_,o,_,_,e,ex,_⟩:=I.hok p _ hk;exact⟨o,e,ex⟩
    .obtain⟨_,_,_,_,o,_,_,e,ex,_⟩:=I.hok p _ hk;exact⟨o,e,ex⟩
   obtain⟨o,e,ex⟩:=z;refine⟨⟨o,e,ex.1⟩,λa f=>?_⟩;cases f;exact⟨o,e,ex.2.1⟩
  .obtain⟨o,_,_,_,e,ex,_⟩:=I.hok p _ hk;refine⟨⟨o,e,ex.1⟩,λa f=>?_⟩;cases f;exact⟨o,e,ex.2.1⟩
 |_=>exact False.elim b
def tBM0(K:R0)(T:String)(r:V->List V->Hp->VK->Prop)(to:TE):TE:=λσ H Q=>to σ H λx a=>zET K T x a/\r x [] a Q
def tBM(K:R0)(T:String)(r:V->List V->Hp->VK->Prop)(to:TE)(t:TA):TE:=λσ H Q=>to σ H λx a=>zET K T x a/\t σ a λxs b=>r x xs b Q
variable{apos cpos:Pos}{id:String}
def O2(e:PlainAttrs T)(a:Slot T name id)(b:typeOf (.builtin id)=pure (.type "method_descriptor"))(f:Uv X id r)(ho:PE X o to)
  (hbase:attributeBase o name X.env (eval o X.env)=eval o X.env:=by rfl) (hline:(apos.endLine==cpos.line)=true:=by rfl):PE X (.Call (.Attribute o name apos) [] [] cpos) (tBM0 X.K T r to):=by
 intro pins s σ H Q I h;refine wpAny_Call_method0_late hbase hline (gH (ho pins s σ H _ I h) λv m ⟨x,i,I1,c,k,d⟩=>?_);obtain⟨n,j⟩:=Md I1 c k;exact⟨T,id,e,a,b,n,j,Calls.callWith_builtin rfl (PySem.evalArgs_none (f pins m σ i x [] v [] Q I1 c .nil d))⟩
def zCN(j:PlainAttrs T)(a:Slot T name id)(b:typeOf (.builtin id)=pure (.type "method_descriptor"))(k:Uv X id r)(ho:PE X o to)(n:PA X (e::es) t)
  (hbase:attributeBase o name X.env (eval o X.env)=eval o X.env:=by rfl)
  (hfew:((backTo cpos (starEach (e::es) X.env)).all (λx=>!x.1)&&(backToKw cpos (keywordEach [] X.env)).all (λx=>x.1.isSome)
   &&decide ((e::es).length+([]:List Keyword).length+(if([]:List Keyword).isEmpty then 0 else 1)<30))=true:=by rfl)
  (hline:(apos.endLine==cpos.line)=true:=by rfl) (hs:q8 X e es:=by rfl) (hplain:(backTo cpos (starEach es X.env)).any (·.1)=false:=by rfl):
  PE X (.Call (.Attribute o name apos) (e::es) [] cpos) (tBM X.K T r to t):=by
 intro pins s σ H Q I h;refine wpAny_Call_method_late hbase hfew hline rfl (gH (ho pins s σ H _ I h) λv C ⟨x,q,I1,c,B,f⟩=>?_);obtain⟨D,u⟩:=Md I1 c B;refine⟨T,id,j,a,b,D,u,?_⟩;have d:=n cpos pins C σ q _ I1 f;rw[hs]at d ⊢;refine Calls.callWith_builtin (by show(false || (backTo cpos _).any (·.1))=false;rw[hplain]<;>rfl) (Calls.evalArgs_plain ?_);exact gH d λp w ⟨y,m,i,A,z⟩=>k pins w σ m x y v p Q i c A z
end
def MtM(X:Cx)(id:String)(r:V->List V->Hp->VK->Prop):Prop:=
 ∀(pins:M0)(s:ĺ)(σ:St)(H:Hp)(x:V)(xs:List V)(v:Ļ)(us:A0)(Q:VK),Inv X pins σ H s->RelV x v->Vals xs us->r x xs H Q->
  wpAny ↑4 X.A (call (.builtin id) (v::us)) (EP X pins σ Q) X.xe s
def Vals.one: ∀{x}{us},Vals [x] us-> ∃u,us=[u]/\RelV x u
 |_,_,.cons r .nil=>⟨_,rfl,r⟩
theorem Vals.zero: ∀{us},Vals [] us->us=[]
 |_,.nil=>rfl
theorem Vals.eraseIdx: ∀{xs}{us} i ,Vals xs us->Vals (xs.eraseIdx i) (us.eraseIdx i)
 |_,_,_,.nil=>.nil
 |_,_,0,.cons _ t=>t
 |_,_,i+1,.cons r t=>.cons r (Vals.eraseIdx i t)
def Vals.reverse(h:Vals xs us):Vals xs.reverse us.reverse:=by
 induction h with
 |nil=>exact .nil
 |cons r t ih=>rw[reverse_cons,reverse_cons];exact Vals.append ih (.cons r .nil)
theorem Vals.rep(h:Vals xs us): ∀k:Nat,Vals (List.replicate k xs).flatten (List.replicate k us).flatten
 |0=>.nil
 |k+1=>by exact Vals.append h (Vals.rep h k)
theorem RI{α:Type}: ∀(l:List α) i ,(l.eraseIdx i).length<=l.length
 |[],_=>à _
 |_::_,0=>le_succ _
 |_::r,i+1=>Nat.succ_le_succ (RI r i)
theorem foldl_rep(its): ∀ k (a:A0),
  List.foldl (λb c=>b++c) a.toArray (List.replicate k its.toArray)=(a++(List.replicate k its).flatten).toArray
 |0,a=>by simp
 |k+1,a=>by
  have e:a.toArray++its.toArray=(a++its).toArray:=by simp
  have d:(a++its)++(List.replicate k its).flatten=a++(List.replicate (k+1) its).flatten:=by rw[Ĺ,flatten_cons,aA]
  rw[<-d, <-foldl_rep its k _, <-e,Ĺ,ħ]
section
def Inv.lset{a:A0}(I:↑2)(b:H l=some (.lst xs))
  (e:s.heap.get? l=some {cls:=.type "list",data:=.seq a.toArray n}) (hf:f a.toArray=its'.toArray) (hv:Vals ys its') (hz:ys.length<=sizeLine):
  Inv X pins σ (jS H l (.lst ys)) {s with heap:=s.heap.update l (Obj.mapSeq f),toks:=t'}:=by
 have q:=PySem.IsL.update e f;rw[hf]at q;refine I.write (by rw[b];exact trivial) (.inl rfl) (λh u c d=>(ē s.heap _ (Ne.symm c)).trans d) ⟨_,q⟩ ?_;exact⟨hz,its',_,hv,q⟩
def Inv.lnew(I:↑2)(b:Vals ys its)(a:ys.length<=sizeLine):
  Inv X pins σ (jS H ↑1 (.lst ys)) {s with heap:=s.heap.push {cls:=.type "list",data:=.seq its.toArray},toks:=t'}:=
 I.laid (λ_ _ q=>hP0 _ q) (à _) ⟨a,its,0,b,è _ rfl⟩
def Inv.fresh(I:↑2):H ↑1=none:=I.hok.fresh (à _)
def Inv.lstM(I:↑2)(b:H l=some (.lst xs)):xs.length<=sizeLine/\ ∃(a:A0)(n:Nat),Vals xs a/\xs.length=a.length/\s.heap.get? l=some {cls:=.type "list",data:=.seq a.toArray n}:=by obtain⟨z,a,n,r,e⟩:=I.hok l _ b;exact⟨z,a,n,r,r.length,e⟩
theorem XX(h:n<=sizeLine):Builtin.List.listTooLong n=false:=by exact dF0 #[0]
end
section
def Ee:V->List V->Hp->VK->Prop:=λx a H Q=> ∃l xs y,x=.ref l/\a=[y]/\H l=some (.lst xs)/\xs.length<sizeLine/\Q .non (jS H l (.lst (xs++[y])))
theorem Ir:MtM X "list.append" Ee:=by
 intro pins s σ H x j v i Q I c f h;obtain⟨l,xs,y,rfl,rfl,b,k,q⟩:=h;cases c;obtain⟨u,rfl,d⟩:=f.one;obtain⟨z,a,n,r,m,e⟩:=I.lstM b;refine call_meets F.slot_list_append ⟨_,e,rfl⟩ F.entry_list_append (F.args_list_append_2 _ _) (PySem.list_append l a.toArray n u (by rw[sA];lia)) ⟨e,?_⟩;refine⟨.non,_,I.lset b e (by simp) (r.append (.cons d .nil)) ?_,rfl,q⟩;rw[lA,lS]
 lia
def Ef:V->List V->Hp->VK->Prop:=λx c H Q=> ∃l b xs a,x=.ref l/\c=[.ref b]/\H l=some (.lst xs)/\H b=some (.lst a)/\xs.length+a.length<=sizeLine/\Q .non (jS H l (.lst (xs++a)))
theorem Iu:MtM X "list.extend" Ef:=by
 intro pins s σ H x G v D Q I o t h;obtain⟨l,b,xs,C,rfl,rfl,i,y,A,q⟩:=h;cases o;obtain⟨u,rfl,j⟩:=t.one;cases j;obtain⟨z,c,n,r,B,e⟩:=I.lstM i;obtain⟨E,a,k,m,p,w⟩:=I.lstM y;have f:c.toArray.size+a.toArray.size<=sizeLine:=by rw[sA,sA];lia
 have d: ¬(!c.toArray.isEmpty&&Builtin.List.listTooLong (c.toArray.size+a.toArray.size))=true:=by rw[XX f,Bool.and_false];exact xF0
 refine call_meets F.slot_list_extend ⟨_,e,rfl⟩ F.entry_list_extend (F.args_list_extend_2 _ _)
  (AutoSeq1.list_extend_list_list_0 l c.toArray n b a.toArray k d (by rw[sA];lia) #[0]) ⟨e,w,?_⟩
 refine⟨.non,_,I.lset i e (by simp) (r.append m) ?_,rfl,q⟩;rw[lA]
 lia
def XY:V->List V->Hp->VK->Prop:=λx a H Q=> ∃l xs,x=.ref l/\a=[]/\H l=some (.lst xs)/\Q .non (jS H l (.lst xs.reverse))
def Br:MtM X "list.reverse" XY:=by intro pins s σ H x j v i Q I d f h;obtain⟨l,xs,rfl,rfl,c,q⟩:=h;cases d;have b:=f.zero;subst b;obtain⟨z,a,n,r,k,e⟩:=I.lstM c;refine call_meets F.slot_list_reverse ⟨_,e,rfl⟩ F.entry_list_reverse (F.args_list_reverse_1 _) (AutoSeq1.list_reverse_list_0 l a.toArray n (by rw[sA];omega)) ⟨e,?_⟩;refine⟨.non,_,I.lset (its':=a.reverse) c e (by simp) r.reverse ?_,rfl,q⟩;rw[Ğ];omega
def rCat:R2:=λx y H Q=> ∃l b xs a,x=.ref l/\y=.ref b/\H l=some (.lst xs)/\H b=some (.lst a)/\xs.length+a.length<=sizeLine/\ ∀p,H p=none->Q (.ref p) (jS H p (.lst (xs++a)))
theorem O3:OpR X (binaryOp .Add) rCat:=by
 intro pins s σ H x y v u Q I j d h;obtain⟨l,b,xs,B,rfl,rfl,f,p,w,q⟩:=h;cases j;cases d;obtain⟨z,c,n,r,A,e⟩:=I.lstM f;obtain⟨C,a,t,i,m,o⟩:=I.lstM p;refine PySem.P.add_list e o ?_ (by rw[sA,sA];lia);have k:c.toArray++a.toArray=(c++a).toArray:=by simp
 rw[k];exact⟨.ref _,_,I.lnew (r.append i) (by rw[lA];lia),rfl,q _ I.fresh⟩
def rRep:R2:=λx y H Q=> ∃l k xs,x=.ref l/\y=.int k/\H l=some (.lst xs)/\ -(2 ^ 63)<=k/\k<2 ^ 63/\xs.length * k.toNat<=sizeLine/\
 ∀p,H p=none->Q (.ref p) (jS H p (.lst (List.replicate k.toNat xs).flatten))
def len_rep{α:Type}(xs:List α)(k):(List.replicate k xs).flatten.length=k * xs.length:=by
 induction k with
 |zero=>simp
 |succ k ih=>rw[Ĺ,flatten_cons,lA,ih,Nat.succ_mul,Nat.add_comm]
theorem O4:OpR X (binaryOp .Mult) rRep:=by
 intro pins s σ H x y v u Q I E A h;obtain⟨l,k,xs,rfl,rfl,C,K,B,w,q⟩:=h;cases E;obtain⟨t,rfl⟩:=A;obtain⟨z,b,n,r,D,e⟩:=I.lstM C;have f:b.toArray.size * k.toNat<=sizeLine:=by rw[sA, <-D];exact w
 have d: ¬b.toArray.size * k.toNat>(2 ^ 63 - 1) / 8:=by
  have:(sizeLine:Nat)<=(2 ^ 63 - 1) / 8:=by decide
  lia
 have i: ¬(!Builtin.List.listFitsIndex k)=true:=by rw[fitsIndex_both K B];exact xF0
 have c: ¬Builtin.List.listTooLong (b.toArray.size * k.toNat)=true:=by rw[XX f];exact xF0
 have j:List.foldl (λp o=>p++o) #[] (List.replicate (if b.toArray.isEmpty=true then 0 else k.toNat) b.toArray)=(List.replicate k.toNat b).flatten.toArray:=by
  have J: ∀m:Nat,List.foldl (λp o=>p++o) #[] _=(List.replicate m b).flatten.toArray:=λm=>by have:=foldl_rep b m [];exact this
  rw[J]
  cases b with
  |nil=>simp
  |cons a r'=>rw[iN (by simp)]
 refine wpAny_binaryOp_repeat_ref ↑3 ⟨_,e,rfl⟩ (λG=>typeIs_int G k t) noFill_list_mul F.fills_int_mul F.slot_int_rmul repeat_list F.slot_int_index.lookup
  (call_meets F.slot_int_rmul (typeIs_int s k t) F.entry_int_rmul (F.args_int_rmul_2 _ _) (int___rmul___int_list k t l b.toArray n)
   ⟨e,rfl,⟨_,e,rfl⟩,call_meets F.slot_list_mul ⟨_,e,rfl⟩ F.entry_list_mul (F.args_list_mul_2 _ _) (AutoListH.list___mul___list_int_3 l b.toArray n k t i d c) ⟨e,?_⟩⟩)
 rw[j];exact⟨.ref _,_,I.lnew (r.rep k.toNat) (by rw[len_rep,Nat.mul_comm];exact w),rfl,q _ I.fresh⟩
end
end L2
namespace Att
open PySem PySem.W PySem.Calls PyProof.Rows
def KR: ∀ c  d ,WellAll P h d (c.map WData.int)->IntsAre d c:=by
 intro c
 induction c with
 |nil=>
  intro d w;cases w;exact .nil
 |cons n c ih=>
  intro d w
  cases w with
  |cons a b=>
   cases a;exact .cons _ _ (ih _ b)
theorem Iv{l:OpenLaw}(p:l.most=some n)
  (hpre:l.row.toRowW.claim.pre args=true) (hwl:WellAll P h vals args):
  ∃a j b,vals=[Value.ref a]/\args=[WData.list (b.map WData.int)]/\h.get? a=some {cls:=.type "list",data:=.seq j.toArray}/\IntsAre j b/\b.length<=n:=by
 have i:=(pre_splitW hpre).1;have k:l.pre.holds [] {args:=args}=true:=(pre_splitW hpre).2;obtain⟨d,r,rfl,t,m⟩:=hasAllW_cons i;obtain rfl:=hasAllW_nil m;obtain⟨xs,rfl,o⟩:=hasW_list t;obtain⟨b,rfl⟩:=items_int o
 have c:b.length<=n:=by
  have e:=by have e:=(holds_andW k).1;rw[p]at e;exact e
  have f:=condW_of e (w_not (w_lt w_lit (w_len_list (w_arg rfl))));refine Nat.le_of_not_lt λq=>?_;have s:=by omega
  first
   |(rw[dT0 s]at f;exact absurd f (by decide))
   |(simp at f;lia)
 cases hwl with
 |cons w1 w2=>
  cases w2
  cases w1 with
  |list ho hall=>exact⟨_,_,b,rfl,rfl,ho,KR b _ hall,c⟩
theorem Iw(l:OpenLaw)(args):l.row.toRowW.claim.post args (.bool true) args=true:=
 postW_of
  (by first |rfl|decide|simp[WShape.has,WShape.arms,WShape.armsAll])
  (w_eq_bool (w_res rfl) w_lit) rfl
def attach_call{l:OpenLaw}
  (hn:l.most=some n) (hdf:d.params.defaults=[])
  (call: ∀ w  c b  mg A  m  o  v s h  a  i  u ,
   Ground q loose [] XP w c mg A b.heap->YP w b.heap->
   b.heap.get? m=some o->o.data=.func (docDef d.name d.params d.body d.scope v s h)->b.heap.CodeRec s d.name->mg d.name=some (.ref m)->
   b.heap.get? a=some {cls:=.type "list",data:=.seq i.toArray}->IntsAre i u->u.length<=n->b.gens=#[]->
   codeAny (model l.prog w) callerA (.call (.ref m) ⟨[.ref a],[]⟩) (λr t=>r=.ok (.ret (.bool true))/\OldK b.heap t.heap/\t.os=b.os/\AllBare t.gens) b):
  WalkO q loose XP YP l.row.toRowW d [] (λf i=>PySem.call f i):=by
 intro w c b mg A G Y m o v s h P kV H Q y E B K D C as k F O z L;obtain rfl:P=.none:=Dflts.none E hdf;obtain rfl:kV=.none:=Dflts.noKw E;obtain⟨a,i,u,rfl,rfl,j,e,p⟩:=Iv hn k z;refine enter_call (codeAny_mono (call w c b mg A m o v s h a i u G Y H (fd_plain Q) y B j e p K) λr t S=>?_);obtain⟨rfl,I,M,J⟩:=S;exact⟨.inl ⟨_,_,[],rfl,λ_=>rfl,.bool true,Iw l _,λ_=>⟨List.Pairwise.nil,λ_ N=>(nomatch N)⟩⟩,I,M,J⟩
end Att
namespace L2
open PySem PySem.Spec PyProof.Rows
theorem RK: ∀{vs}{a},IntsAre vs a->Vals (a.map V.int) vs
 |_,_,.nil=>.nil
 |_,_,.cons n t h=>.cons ⟨t,rfl⟩ (RK h)
def Me(H:Hp):Prop:= ∀b,H b=none\/ ∃o xs,H b=some (.frz o (.lst xs))
def Mf{K:R0}
  (KX:K.In s₁.heap) (hns:s₁.heap.Ns mainGlobals mg) (f:s₁.heap.Ns builtinsNs mb) (hbb: ∀x:Str,x≠"__name__"->mb x=bootBuiltins x) (hlim:s₁.heap.NoLimit) (hg:s₁.gens=#[])
  (ha:s₁.heap.get? a=some {cls:=.type "list",data:=.seq vs.toArray}) (hi:IntsAre vs ns) (hl:ns.length<=sizeLine) (hr:Room k callerA)
  (F: ∀base:Heap,K.In base->base.Ns mainGlobals mg->FnOk P w K mg base CX k fa fd [x] sp) (hbind: ∀ s  u ,BindsTo s fd ⟨[u],[]⟩ [(x,u)])
  (hsp: ∀H:Hp,Me H->SqL K H a (ns.map V.int)->sp [.ref a] H (λv _=>v=.bl true) λ_ _ _=>False)
  (hCX: ∀H e i,CX [] H s₁ (λ_ _ _=>False) e i->False):
  codeAny (model P w) callerA (.call (.ref fa) ⟨[.ref a],[]⟩) (λr i=>r=.ok (.ret (.bool true))/\OldK s₁.heap i.heap/\i.os=s₁.os/\AllBare i.gens) s₁:=by
 have N:=RK hi;have t:=hi.length
 have p: ∀H:Hp,Me H->SqL K H a (ns.map V.int)->HOk P w H s₁.heap->(∀b,H b≠none->b=a)->(H a≠none->K.lookup a=none)->
   codeAny (model P w) callerA (.call (.ref fa) ⟨[.ref a],[]⟩) (λr i=>r=.ok (.ret (.bool true))/\OldK s₁.heap i.heap/\i.os=s₁.os/\AllBare i.gens) s₁:=by
  intro H L Q E O Z;have c: ∀{b:Addr}{o:Obj},s₁.heap.get? b=some o->H b=none->(Ic s₁.heap H).get? b=some o:=λe n=>Lj e n
  have G: ∀{b:Addr}{o:Obj}{es:Array DictEntry}{A:Nat},s₁.heap.get? b=some o->o.data=.dict es A->H b=none:=λ{b o es A} e d=>by
   cases q:H b with
   |none=>rfl
   |some u=>
    have J:b=a:=O b (by rw[q];simp);subst J;rw[ha]at e;cases e;have T:Data.seq vs.toArray _=Data.dict es A:=d;cases T
  have j: ∀{b:Addr}{m:L0},s₁.heap.Ns b m->(Ic s₁.heap H).Ns b m:=λ{b m} ⟨o,es,A,e,d,r⟩=>⟨o,es,A,c e (G e d),d,r⟩
  have C:K.In _:=λb o e=>c (KX b o e) (by
   cases q:H b with
   |none=>rfl
   |some u=>
    have J:b=a:=O b (by rw[q];simp);subst J;rw[Z (by rw[q];simp)]at e;cases e)
  have W:Mod K mg _:=⟨C,j hns,⟨mb,j f,hbb⟩,let ⟨X,h1,S⟩:=hlim;⟨X,j h1,S⟩⟩
  have Y:Env0 P w K mg _ callerA [] s₁ H:=⟨rfl,W,λb o e=>Tu e,Nat.le_of_eq (Id _ _),trivial,λb f=>absurd (show b∈([]:B9)from f) (by simp),E,.of_eq hg⟩
  refine codeAny_mono ((F _ C (j hns)).run callerA [] s₁ H ⟨_,[]⟩ [.ref a] [.ref a] _ _ hr Y (hbind s₁ (.ref a)) (.cons rfl .nil) (hsp H L Q)) λr i h=>?_
  cases r with
  |error e=>exact(hCX H e i h).elim
  |ok fl=>
   cases fl with
   |next=>exact False.elim h
   |brk=>exact False.elim h
   |cont=>exact False.elim h
   |ret u=>
    obtain⟨v,H',os,D,un,y,r',q⟩:=h;have U:v=.bl true:=q;subst U;obtain rfl:u=Value.bool true:=r';refine⟨rfl,OldK.of_keep λb o e=>?_,os,D⟩
    cases q:H b with
    |none=>exact un.keep b o e q (by intro z;exact absurd (show b∈([]:B9)from z) (by simp)) (by simp)
    |some u=>
     rcases L b with z|⟨ob,xs,z⟩
     .rw[q]at z;cases z
     .have z2:=un.frzs b ob _ z;obtain⟨M,_⟩:=E b _ z;obtain⟨e2,_⟩:=y b _ z2;rw[e]at M;cases M;exact e2
 cases I:K.lookup a with
 |some o=>
  have e:=KX a o I;rw[ha]at e;cases e;refine p (λ_=>none) (λ_=>.inl rfl) (.inr ⟨_,_,_,I,rfl,rfl,rfl,by rw[sA,t];exact hl,by simpa using N⟩) (λb u z=>by have B:_=some u:=z;cases B) (λb z=>absurd rfl z) λz=>absurd rfl z
 |none=>
  refine p (λb=>if b=a then some _ else none) (λb=>?_) (.inl (.inr ⟨{cls:=.type "list",data:=.seq vs.toArray},iP rfl⟩)) (λb u z=>?_) (λb z=>?_) λ_=>I
  .by_cases f:b=a
   .exact .inr ⟨_,_,iP f⟩
   .exact .inl (iN f)
  .by_cases f:b=a
   .have B:=(iP f).symm.trans z;cases B;subst f;exact⟨ha,by rw[lM];exact hl,vs,_,N,ha⟩
   .have B:=(iN f).symm.trans z;cases B
  .by_cases f:b=a
   .exact f
   .exact absurd (iN f) z
def walk_of{l:PySem.W.OpenLaw}{K:Params->PySem.W.Frag}{CX:World->Io}{sp:World->Sp}
  (hn:l.most=some n) (hn2:n<=sizeLine) (hdf:d.params.defaults=[]) (hr:Room k callerA)
  (hY: ∀ w  h ,YP w h->(K w.params).In h)
  (F: ∀ w  mg  p  h ,(K w.params).In h->h.Ns mainGlobals mg->mg d.name=some (.ref p)->
   ∃z:FuncData,(∀ s  u ,BindsTo s z ⟨[u],[]⟩ [(x,u)])/\
    ∀base:Heap,(K w.params).In base->base.Ns mainGlobals mg->FnOk l.prog w (K w.params) mg base (CX w) k p z [x] (sp w))
  (hsp: ∀ w  H  a (r:Za),r.length<=n->Me H->SqL (K w.params) H a (r.map V.int)->sp w [.ref a] H (λv _=>v=.bl true) λ_ _ _=>False)
  (hCX: ∀ w  H  s  e  t ,CX w [] H s (λ_ _ _=>False) e t->False):
  PySem.W.WalkO q loose XP YP l.row.toRowW d [] (λf B=>PySem.call f B):=by
 refine Att.attach_call hn hdf λw A m mg Q p o O P M a B r G Y N S E y j i c I=>?_;have KX:=hY w _ Y;obtain⟨z,J,L⟩:=F w mg p _ KX G.T.g y;exact Mf KX G.T.g G.T.b G.T.builtins G.T.nolimit I j i (ì c hn2) hr L J (λH C D=>hsp w H a r c C D) λH e t=>hCX w H m e t
noncomputable def inClass(s:Stmt)(j:Nat):Stmt:=match s with
 |.ClassDef _ _ _ body _ _ _ _ _ _ _=>body.getD j (.Pass ⟨0,0,0,0⟩)
 |_=>.Pass ⟨0,0,0,0⟩
noncomputable def eX(s:Stmt):Arguments:=match s with
 |.FunctionDef _ a _ _ _ _ _ _ _ _=>a
 |_=>{posonlyargs:=[],args:=[],vararg:=none,kwonlyargs:=[],kw_defaults:=[],kwarg:=none,defaults:=[]}
noncomputable def cR(s:Stmt):List Stmt:=match s with
 |.FunctionDef _ _ b _ _ _ _ _ _ _=>b
 |_=>[]
noncomputable def zG(s:Stmt):Scope:=match s with
 |.FunctionDef _ _ _ _ _ _ sc _ _ _=>sc
 |_=>{kind:=.function,names:=[],isGenerator:=false,isCoroutine:=false}
abbrev PZ:Io:=λ_ _ _ _ _ _=>False
abbrev E0:XK:=λ_ _ _=>False
def Mg:IC PZ X E0:=λ_ _ _ _ _ _ _ h=>h.elim
structure Fun(K:R0)(x qual:Str)(st:Stmt)(f:Addr)(fd:FuncData):Prop where
 ex: ∃(oc:Ļ)(od:Option Addr)(kV doc pm:Ļ)(an:Option Addr)(cdv ct:Ļ)(osl:Array (Option Ļ)),
  fd=PySem.W.fnOf x qual (eX st) (cR st) (zG st) .none kV doc pm an cdv ct/\K.lookup f=some ⟨oc,od,.func fd,osl⟩/\PySem.W.codeIn K cdv qual=true
 kp:PySem.W.keepIn K (.ref f)=true
section
variable{K:R0}
def Fun.ok{st:Stmt}(F:Fun K x qual st f fd)(S:FnScope N ps (zG st))(len: ∀c H Q E,sp c H Q E->c.length=ps.length)
  (hbody: ∀ b  A  a  s  H  c  Q  E ,Room k (A.deeper (envOfC qual (zG st) ↑1 f b))->sp c H Q E->
   ∃t,PSs (Bn PZ P w K mg base N qual (zG st) f b A a s H E).nox (cR st) t/\t {nx:=λ_ H'=>Q .non H',rt:=Q} (start N c) H):FnOk P w K mg base PZ (k+1) f fd ps sp:=by
 obtain⟨p,v,kV,n,r,u,b,o,m,rfl,i,d⟩:=F.ex;refine zCF i d S len λA a s H c Q E j e=>?_;obtain⟨t,h,q⟩:=hbody b A a s H c Q E j e;exact⟨t,h.nox,q⟩
def Fun.binds{st:Stmt}(F:Fun K x qual st f fd)
  (h: ∀ kV b c  e  a d  i ,i.length=ps.length->bindArgs (PySem.W.fnOf x qual (eX st) (cR st) (zG st) .none kV b c e a d) ⟨i,[]⟩=pure (ps.zip i)):Binds K fd ps []:=by
 obtain⟨o,n,kV,b,c,e,a,d,k,rfl,m,j⟩:=F.ex;exact .all (h kV b c e a d)
def UB{st:Stmt}{kV:Ļ}(l:K.lookup f=some ⟨oc,od,.func (PySem.W.fnOf x qual (eX st) (cR st) (zG st) .none kV doc pm an cdv ct),osl⟩)
  (c:PySem.W.codeIn K cdv qual=true) (k:PySem.W.keepIn K (.ref f)=true):Fun K x qual st f (PySem.W.fnOf x qual (eX st) (cR st) (zG st) .none kV doc pm an cdv ct):=⟨⟨oc,od,kV,doc,pm,an,cdv,ct,osl,rfl,l,c⟩,k⟩
end
section
variable{X:Cx}
def pv(i){pos:Pos}(c:X.N[i]? =some x:=by rfl)(b:zBJ X.env.scope x:=by first |exact Or.inl rfl|exact Or.inr (Or.inl rfl)|exact Or.inr (Or.inr rfl))(a:(x==("__debug__"))=false:=by decide)
  (hcd:(x==("__classdict__"))=false:=by decide):PE X (.Name x pos) (zBK i):=J9 c b a hcd
end
end L2
set_option maxHeartbeats 4000000
namespace L2
open PySem PySem.Spec PyProof.Rows
noncomputable def vP(a:Env)(l:List (Str×NameKind))(cs:List (Str×Addr)):List (Str×Addr):=
 l.foldl (λc y=>if y.2==.free then(y.1,(a.cells.lookup y.1).getD 0)::c else c) cs
def UC{α:Type}{l:List α}{f:α->β->Sem (ForInStep β)}{g:β->α->β}: ∀ c ,(∀x∈l, ∀c,f x c=pure (.yield (g c x)))->
  forIn l c f=pure (l.foldl g c):=by
 induction l with
 |nil=>intro c _;rfl
 |cons x l ih=>
  intro c h;rw[forIn_cons,h x mF0];exact ih _ λy a=>h y (mO _ a)
def QA(h: ∀y∈scope.names,y.2=.free-> ∃c,env.cells.lookup y.1=some c):closureFor scope env=pure (vP env scope.names []):=by
 unfold closureFor vP;dsimp only;rw[UC [] ?_]
 .rfl
 .intro y f c;obtain⟨n,k⟩:=y;by_cases d:k=.free
  .subst d;obtain⟨a,i⟩:=h _ f rfl;have b:=i;simp[cellOf,b]
  .have e:=by simpa using d
   simp[e]
theorem JV: ∀ l  b ,(∀y∈l,y.2=.free-> ∃c,env.cells.lookup y.1=some c)->(∀p∈b,env.cells.lookup p.1=some p.2)->
  ∀p∈vP env l b,env.cells.lookup p.1=some p.2
 |[],_,_,h=>h
 |(n,k)::l,b,hl,h=>by
  refine JV l _ (λy i=>hl y (mO _ i)) λp d=>?_;by_cases f:k=.free
  .subst f;obtain⟨c,j⟩:=hl _ mF0 rfl;have e:=j;have a:p∈_::b:=d;rcases mC.mp a with rfl|d
   .show env.cells.lookup n=some _;rw[e];rfl
   .exact h p d
  .have a:p∈(if _=true then _::b else b):=d;rw[iN (by simpa using f)]at a;exact h p a
theorem MI: ∀ l  a  p ,p∈a->p∈vP env l a
 |[],_,_,h=>h
 |_::l,a,p,h=>by
  refine MI l _ p ?_;show p∈(if _=true then _::a else a);split
  .exact mO _ h
  .exact h
theorem vQ: ∀ l  a  n ,(n,NameKind.free)∈l-> ∃c,(n,c)∈vP env l a
 |[],_,_,h=>nomatch h
 |(m,k)::l,a,n,h=>by
  rcases mC.mp h with e|h
  .have d:=congrArg Prod.fst e;have b:=congrArg Prod.snd e;subst d b;exact⟨_,MI l _ _ mF0⟩
  .exact vQ l _ n h
theorem cG{β:Type}: ∀{l:List (Str×β)}{n},(∃c,(n,c)∈l)-> ∃c,l.lookup n=some c
 |[],_,h=>let ⟨_,z⟩:=h;nomatch z
 |(m,b)::l,n,h=>by
  by_cases e:n=m
  .subst e;exact⟨b,by simp[Ĕ]⟩
  .obtain⟨c,a⟩:=h;rcases mC.mp a with z|z
   .cases z;exact absurd rfl e
   .obtain⟨d,h'⟩:=cG ⟨c,z⟩;refine⟨d,?_⟩;have f:(n==m)=false:=by simpa using e
    simp[Ĕ,f,h']
noncomputable def Iy(a b:Scope):List (Str×NameKind):=a.names.map λ(n,k)=>if(k==.free&&b.kind==.function&&b.names.lookup n==some .cell)then(n,.cell)else(n,k)
noncomputable def JW(a:Scope)(N:K0)(b:Scope)(c:Db):Bool:=
 decide (b.kind=.function)&&b.names.all (λy=>decide (b.names.lookup y.1=some y.2))&&
 b.names.all (λy=>decide (y.2≠.free) || decide (a.names.lookup y.1=some .cell) || decide (a.names.lookup y.1=some .free))&&
 c.all (λi=>match N[i]? with
  |some y=>(decide (a.names.lookup y=some .cell) || decide (a.names.lookup y=some .free))&&decide (b.names.lookup y=some .free)
  |none=>false)
def rlS(b a:Scope):Scope:={b with names:=Iy b a}
abbrev Lf(a:Env)(b:Scope)(C:Addr):List (Str×Addr):=cellsFrom (C+1) b.names (vP a b.names [])
theorem jF: ∀ l  n  a ,cellsFrom n l a=cellsFrom n l []++a
 |[],n,a=>rfl
 |_::l,n,a=>by
  unfold cellsFrom;split
  .rw[jF l _ _,jF l _ [_],aA];rfl
  .exact jF l n a
theorem FZ: ∀ l  n {x}{c},(x,c)∈cellsFrom n l []->(x,NameKind.cell)∈l/\n<=c
 |[],n,x,c,h=>nomatch h
 |(y,k)::l,n,x,c,h=>by
  unfold cellsFrom at h;split at h
  .rename_i f;rw[jF]at h;rcases å.mp h with h|h
   .obtain⟨b,d⟩:=FZ l _ h;exact⟨mO _ b,by lia⟩
   .have e:=mS.mp h;cases e;have a:=by simpa using f
    subst a;exact⟨mF0,à _⟩
  .obtain⟨b,d⟩:=FZ l n h;exact⟨mO _ b,d⟩
def FA(h:(x,c)∈cellsFrom (C+1) l [])(a:n<=C):n<c:=Nat.lt_of_le_of_lt a (FZ l _ h).2
theorem CZ: ∀ l  n {x},(x,NameKind.cell)∈l-> ∃c,(x,c)∈cellsFrom n l []
 |[],n,x,h=>nomatch h
 |(y,k)::l,n,x,h=>by
  unfold cellsFrom;rcases mC.mp h with e|h
  .cases e;rw[jF];exact⟨n,ø _ mF0⟩
  .split
   .obtain⟨c,a⟩:=CZ l _ h;rw[jF];exact⟨c,Ę _ a⟩
   .exact CZ l n h
theorem own_apart: ∀ l  n ,(cellsFrom n l []).Pairwise λx y=>x.2≠y.2
 |[],n=>List.Pairwise.nil
 |_::l,n=>by
  unfold cellsFrom;split
  .rw[jF];refine List.pairwise_append.mpr ⟨own_apart l _,List.pairwise_singleton _ _,λa d b c e=>?_⟩;rw[mS.mp c]at e;have:=(FZ l _ d).2;exact ă this e
  .exact own_apart l n
theorem tQ{β:Type}(x): ∀(l m:List (Str×β)),(l++m).lookup x=(l.lookup x).or (m.lookup x)
 |[],m=>rfl
 |(y,b)::l,m=>by
  rw[List.cons_append,Ĕ,Ĕ]
  cases x==y with
  |true=>rfl
  |false=>exact tQ x l m
theorem RL{β:Type}: ∀{l:List (Str×β)},(∀c,(x,c)∉l)->l.lookup x=none
 |[],_=>rfl
 |(y,b)::l,h=>by
  rw[Ĕ]
  cases e:x==y with
  |true=>rw[beq_iff_eq.mp e]at h;exact absurd mF0 (h b)
  |false=>exact RL λc a=>h c (mO _ a)
def mW(e:(Lf env sc C).lookup x=some c):(x,c)∈cellsFrom (C+1) sc.names []\/(vP env sc.names []).lookup x=some c:=by
 unfold Lf at e;rw[jF,tQ]at e
 cases z:(cellsFrom _ sc.names []).lookup x with
 |some c'=>rw[z]at e;cases e;exact .inl (PySem.mem_of_lookup z)
 |none=>rw[z]at e;exact .inr e
def O5(h:(x,NameKind.cell)∈sc.names)(e:(Lf env sc C).lookup x=some c):(x,c)∈cellsFrom (C+1) sc.names []:=by unfold Lf at e;rw[jF,tQ]at e;obtain⟨a,h'⟩:=cG (CZ sc.names _ h);rw[h']at e;cases e;exact PySem.mem_of_lookup h'
theorem Uz(h:(x,NameKind.cell)∉sc.names):(Lf env sc C).lookup x=(vP env sc.names []).lookup x:=by unfold Lf;rw[jF,tQ,RL λc a=>h (FZ _ _ a).1];rfl
noncomputable def IE(σ:St)(a:Db):St:=a.map λi=>(σ[i]?).join
def pV(σ)(idx):(IE σ idx).length=idx.length:=by unfold IE;rw[lM]
def yG(X:Cx)(sc:Scope)(T:K0)(idx:Db)(C:Addr)(s₂:ĺ)(H1:Hp)(fp:B9):Cx where
 prog:=X.prog
 w:=X.w
 K:=X.K
 mg:=X.mg
 base:=X.base
 A:=X.A
 N:=T++idx.map λi=>(X.N[i]?).getD Str.empty
 s₀:=s₂
 H₀:=H1
 env:=compEnvC sc (Lf X.env sc C) C X.env
 outer:=X.stack
 stack:=X.stack
 ex:=fp
 fn:=λx=>sc.names.lookup x==some .cell
 calm:=X.calm
 pn:=[]
 xe:=λ_ _=>False
def Mh(q:TI)(g:TG)(p:Addr->ĺ->Hp->List Addr->TT)(r:Addr->ĺ->Hp->List Addr->TE)(nt:Nat)(f:Db):TE:=λσ H Q=>q σ H λJ k=> ∃W:Nat->Nat->List V->Hp->Prop,(∃m,W 0 m [] k)/\ ∀i m e d,W i m e d->e.length<=sizeLine/\
 ((J.stop i d/\ ∀D,d D=none->Q (.ref D) (jS d D (.lst e)))\/
   (J.go i d/\e.length<sizeLine/\ ∀x n,J.yld i d x n-> ∀τ:St,τ.length=nt->g x (τ++IE σ f) n λc o=>(∃h,c=h++IE σ f/\h.length=nt)/\
    ∀C a fp,p C a k fp c o λb H5=>if b=true then r C a k fp c H5 λy H6=> ∃j,j<m/\W (i+1) j (e++[y]) H6 else∃j,j<m/\W (i+1) j e H5))
section
def UD(I:Nat->ĺ->Prop)
  (turn: ∀n s,I n s->wpAny (model prog w) A (pyNext it) (λr a=>match r with
   |none=>R (.ok .next) a
   |some v=>wpAny (model prog w) A (letOwnedTupleGo target it v) (λ_ b=>wpAny (model prog w) A (assign target env v) (λ_ f=>
     wpAny (model prog w) A (forIn ifs true λc r=>if r=true then do let ok <-isTrue c env (eval c env);pure (ForInStep.yield ok)else pure (ForInStep.yield r)) (λok d=>
      if ok=true then wpAny (model prog w) A (eval elt env) (λx k=>
       wpAny (model prog w) A (call (.builtin "list.append") [acc,x]) (λ_ i=> ∃m,m<n/\I m i) (λ_ _=>False) k) (λ_ _=>False) d
      else∃m,m<n/\I m d) (λ_ _=>False) f) (λ_ _=>False) b) (λ_ _=>False) a) (λ_ _=>False) s)
  (n) (h:I n s):codeAny (model prog w) A (.compLoop (.ListComp elt [⟨target,iter,ifs,0⟩] scope pos) 0 it acc env) R s:=by
 refine codeAny_loop rfl I (λn s C=>?_) n h;show wpAny _ A _ _ _ s;refine wpAny_noted ?_;have p: ∀{B:VP}(v:Ļ)(y:ĺ),False->B v y:=λ_ _ z=>z.elim;refine wB (wpAny_standAt (wB (ü (turn n s C) (λr a e=>?_) (p))))
 cases r with
 |none=>exact wP e
 |some v=>
  refine wB (ü e (λ_ b o=>wB (ü o (λ_ f u=>wB (ü u (λok d j=>?_) p)) p)) p)
  cases ok with
  |false=>exact wP ⟨rfl,j⟩
  |true=>
   exact wB (wB (ü j (λx k t=>wB (ü t (λ_ i q=>wP (wP ⟨rfl,q⟩)) p)) p))
end
def Iz(X:Cx)(a:Q0)(t:TT):Prop:=
 ∀(pins:M0)(s:ĺ)(σ:St)(H:Hp)(Q:Bool->Hp->Prop),Inv X pins σ H s->t σ H Q->
  wpAny ↑4 X.A (forIn a true λc r=>if r=true then do let ok <-isTrue c X.env (eval c X.env);pure (ForInStep.yield ok)else pure (ForInStep.yield r)) (TP X pins σ Q) X.xe s
def zCO:TT:=λ_ H Q=>Q true H
def Mi:Iz X [] zCO:=λ_ _ _ H _ I h=>wpAny_tests_nil ⟨H,I,h⟩
def Mj(h:PT X c t):Iz X [c] t:=λpins s σ H Q I q=>wpAny_tests_one (h pins s σ H Q I q)
structure CompF(osc:Scope)(N:K0)(sc:Scope)(idx:Db):Prop where
 kind:sc.kind=.function
 uni: ∀y∈sc.names,sc.names.lookup y.1=some y.2
 frees: ∀y∈sc.names,y.2=.free->osc.names.lookup y.1=some .cell\/osc.names.lookup y.1=some .free
 cap: ∀i∈idx, ∃y,N[i]? =some y/\(osc.names.lookup y=some .cell\/osc.names.lookup y=some .free)/\sc.names.lookup y=some .free
def CompF.locs(F:CompF osc N sc idx): ∀y∈sc.names,y.2=.local->sc.names.lookup y.1=some .local:=λy a e=>by rw[F.uni y a,e]
def Va(h:JW osc N sc idx=true):CompF osc N sc idx:=by
 unfold JW at h;simp only[aE,õ,decide_eq_true_eq,Bool.or_eq_true]at h;obtain⟨⟨⟨f,b⟩,c⟩,d⟩:=h;refine⟨f,λy a=>b y a,λy a e=>?_,λi hi=>?_⟩
 .rcases c y a with(z|z)|z
  .exact absurd e z
  .exact .inl z
  .exact .inr z
 .have q:=d i hi
  cases e:N[i]? with
  |none=>rw[e]at q;cases q
  |some y=>
   rw[e]at q;simp only[aE,decide_eq_true_eq,Bool.or_eq_true]at q;exact⟨y,rfl,q.1,q.2⟩
def Ml(h:(Iy sc osc).lookup x=some .cell\/(Iy sc osc).lookup x=some .free):(x,NameKind.free)∈sc.names\/(x,NameKind.cell)∈sc.names:=by
 have a: ∀b,(b=.cell\/b=.free)->(x,b)∈Iy sc osc->(x,NameKind.free)∈sc.names\/(x,NameKind.cell)∈sc.names:=by
  intro b d i;obtain⟨⟨n,k⟩,c,e⟩:=mM.mp i;dsimp only at e;split at e
  .rename_i f;cases e;rw[aE,aE]at f;have:=by simpa using f.1.1
   subst this;exact .inl c
  .cases e;rcases d with rfl|rfl
   .exact .inr c
   .exact .inl c
 rcases h with h|h
 .exact a _ (.inl rfl) (PySem.mem_of_lookup h)
 .exact a _ (.inr rfl) (PySem.mem_of_lookup h)
theorem RM{a:Scope}{x:Str}: ∀{l:List (Str×NameKind)},l.lookup x=some .free->(l.map λ(n,k)=>if(k==NameKind.free&&a.kind==.function&&a.names.lookup n==some .cell)then(n,NameKind.cell)else(n,k)).lookup x=some .cell\/(l.map λ(n,k)=>if(k==NameKind.free&&a.kind==.function&&a.names.lookup n==some .cell)then(n,NameKind.cell)else(n,k)).lookup x=some .free
 |[],h=>by simp at h
 |(n,k)::l,h=>by
  have d:=@RM a x l;rw[Ĕ]at h;rw[ã];by_cases c:(k==NameKind.free&&a.kind==.function&&a.names.lookup n==some .cell)=true
  .dsimp only;rw[iP c,Ĕ]
   cases b:x==n with
   |true=>exact .inl rfl
   |false=>rw[b]at h;exact d h
  .dsimp only;rw[iN c,Ĕ]
   cases b:x==n with
   |true=>rw[b]at h;exact .inr h
   |false=>rw[b]at h;exact d h
section
variable{C:Addr}{fp:B9}
def XZ(I:Inv X pins σ H1 s₂)(F:CompF X.env.scope X.N sc idx): ∀y∈sc.names,y.2=.free-> ∃c,X.env.cells.lookup y.1=some c:=
 λy a e=>I.ok.has y.1 (F.frees y a e)
def bP(I:Inv X pins σ H1 s₂)(F:CompF X.env.scope X.N sc idx)(e:(vP X.env sc.names []).lookup x=some c):X.env.cells.lookup x=some c:=
 JV sc.names [] (XZ I F) (λ_ z=>nomatch z) _ (PySem.mem_of_lookup e)
def Vb(I:Inv X pins σ H1 s₂)(F:CompF X.env.scope X.N sc idx)(a:(x,NameKind.free)∈sc.names)(e:X.env.cells.lookup x=some c):(vP X.env sc.names []).lookup x=some c:=by obtain⟨b,h'⟩:=cG (vQ sc.names [] x a);rw[h'];rw[bP I F h']at e;exact e
def Ja(I:Inv X pins σ H1 s₂)(F:CompF X.env.scope X.N sc idx)(hC:s₂.heap.objs.size<=C)(hfp: ∀b∈fp,DT X pins H1 b)(hlt: ∀b∈fp,b<s₂.heap.objs.size):(yG X sc T idx C s₂ H1 fp).Ok where
 mod:=I.ok.mod
 kind:=F.kind
 glob:=I.ok.glob
 blt:=I.ok.blt
 above:=hC
 inj:=λx y c h1 h2=>by
  have low: ∀z,(vP X.env sc.names []).lookup z=some c->c<s₂.heap.objs.size:=λz h=>let ⟨v,q⟩:=I.cell z c (bP I F h);q.lt;rcases mW h1 with z1|z1<;>rcases mW h2 with z2|z2
  .exact PySem.name_of_addr (own_apart sc.names (C+1)) z1 z2
  .exact absurd (low y z2) (Nat.not_lt.mpr (le_of_lt (FA z1 hC)))
  .exact absurd (low x z1) (Nat.not_lt.mpr (le_of_lt (FA z2 hC)))
  .exact I.ok.inj x y c (bP I F z1) (bP I F z2)
 has:=λx hx=>by
  have hx':(Iy sc X.env.scope).lookup x=some .cell\/(Iy sc X.env.scope).lookup x=some .free:=hx;show∃c,(Lf X.env sc C).lookup x=some c;unfold Lf;rw[jF];rcases Ml hx' with z|z
  .obtain⟨c,hc⟩:=vQ sc.names [] x z;exact cG ⟨c,ø _ hc⟩
  .obtain⟨c,hc⟩:=CZ sc.names (C+1) z;exact cG ⟨c,Ę _ hc⟩
 cab:=λx c h e=>by have h':sc.names.lookup x=some .cell:=beq_iff_eq.mp h;exact le_of_lt (FA (O5 (PySem.mem_of_lookup h') e) hC)
 hd:=I.ok.hd
 frames:=I.ok.frames
 stk:=.inl rfl
 exf:=λb hb=>⟨ê (æ (hlt b hb) hC),λx c e=>by
  rcases mW e with z|z
  .exact ă (lt_trans (hlt b hb) (FA z hC))
  .exact(hfp b hb).2.2.2.2.1 x c (bP I F z)⟩
 bs:=I.bs
 bsz:=ì I.ok.bsz I.sz
 noex:=λb o e hb=>by
  rcases (hfp b hb).2.2.2.1 with z|z
  .exact I.ok.noex b o e z
  .exact absurd (æ (ä e) (ì I.ok.bsz z)) (ģ _)
 exfs:=λb hb z=>by
  rcases mC.mp (I.stkSub b z)with e|e
  .exact(hfp b hb).2.1 e
  .exact(hfp b hb).2.2.1 e
 funs:=I.stack
 frf:=I.stkFree
theorem Bs(I:Inv X pins σ H1 s₂)(F:CompF X.env.scope X.N sc idx)(n:s₂.heap.objs.size<=C)(A: ∀b∈fp,DT X pins H1 b)(s: ∀b∈fp,b<s₂.heap.objs.size)
  (kp: ∀b o,s₂.heap.get? b=some o->s₄.heap.get? b=some o) (ho:s₄.os=s₂.os) (hg:s₄.gens=s₂.gens) (hn:s₄.heap.Ns C m) (hcl: ∀x c,(x,c)∈cellsFrom (C+1) sc.names []->s₄.heap.IsCell c none):
  Inv (yG X sc T idx C s₂ H1 fp) [] (T.map (λ_=>none)++IE σ idx) H1 s₄:=by
 have f: ∀c v,s₂.heap.IsCell c v->s₄.heap.IsCell c v:=λc v ⟨o,S,J⟩=>⟨o,kp c o S,J⟩
 refine⟨Ja I F n A s,ho,by rw[hg];exact I.bare,Un.kept kp,⟨m,hn,λi x v O d W=>?_⟩,λx c e=>?_,I.hok.fresh n,λx c e=>?_,λp Q=>absurd (show p∈([]:List _)from Q) (by simp),I.hok.kept kp,?_⟩
 .have h:(T++idx.map λi=>(X.N[i]?).getD Str.empty)[i]? =some x:=O;by_cases hi:i<T.length
  .rw[á (by simpa using hi),ï]at d
   cases z:T[i]? with
   |none=>rw[z]at d;cases d
   |some y=>rw[z]at d;cases d
  .rw[é (by simpa using hi)]at d;rw[é #[0]]at h;rw[lM]at d;unfold IE at d;rw[ï]at h d
   cases z:idx[i - T.length]? with
   |none=>rw[z]at d;cases d
   |some j=>
    rw[z]at h d;have P:=î z;obtain⟨y,G,D,B⟩:=F.cap j P;have ex:=by have q:(X.N[j]?).getD Str.empty=x:=â h;rw[G]at q;exact q
    subst ex
    have M:σ[j]? =some (some v):=by
     have q:(σ[j]?).join=some v:=â d
     cases E:σ[j]? with
     |none=>rw[E]at q;cases q
     |some a=>rw[E]at q;have L:a=some v:=q;rw[L]
    obtain⟨U,H,w⟩:=I.loc;have t:zBJ X.env.scope y:=D.elim (λz=>.inr (.inl z)) λz=>.inr (.inr z);obtain⟨u,r,l⟩:=w j y v G M t;refine⟨u,r,?_⟩;rcases l with⟨kl,_⟩|⟨_,c,hc,q⟩
    .have k:X.env.scope.names.lookup y=some .local:=kl;rcases D with z|z<;>rw[z]at k<;>cases k
    .have K:(y,NameKind.cell)∉sc.names:=λz=>by have:=F.uni _ z;rw[B]at this;cases this
     refine .inr ⟨RM B,c,?_,f c _ q⟩;show(Lf X.env sc C).lookup y=some c;rw[Uz K];exact Vb I F (PySem.mem_of_lookup B) hc
 .rcases mW e with z|z
  .exact⟨none,hcl x c z⟩
  .obtain⟨v,q⟩:=I.cell x c (bP I F z);exact⟨v,f c v q⟩
 .rcases mW e with z|z
  .exact I.hok.fresh (le_of_lt (FA z n))
  .exact I.freeC x c (bP I F z)
 .show(T.map (λ_=>_)++IE σ idx).length=(T++idx.map λi=>(X.N[i]?).getD Str.empty).length;rw[lA,lA,lM,lM,pV]
def Bt{D:Addr}(I:Inv X pins σ H1 s₂)(t:s₂.heap.objs.size<=C)(h: ∀b∈fp,DT X pins H1 b)
  (J:Inv (yG X sc T idx C s₂ H1 fp) [] σ1 H' s') (hs:Heap.SameBut C s'.heap h') (hD:s₂.heap.objs.size<=D) (hDC:D≠C) (eD:s'.heap.get? D=some {cls:=.type "list",data:=.seq its.toArray n}) (nD:H' D=none) (r:Vals ys its) (hz:ys.length<=sizeLine):
  Inv X pins σ (jS H' D (.lst ys)) {s' with heap:=h'}:=by
 have f: ∀b o,s₂.heap.get? b=some o->b≠C/\b≠D:=λb o e=>⟨ê (æ (ä e) t),ê (æ (ä e) hD)⟩
 have d: ∀b u,H1 b=some u->b≠D:=λb u e=>ê (æ (I.hok.lt e) hD);have p:=J.free;have B:Un _ fp H1 H' s₂.heap s'.heap:=J.base;have j: ∀b o,b≠C->s'.heap.get? b=some o->h'.get? b=some o:=λb o a e=>(hs.2 b a).trans e;refine I.call' J.os ⟨λb o e q a i=>?_,λb o e q a i=>?_,λb o e q i=>?_,λb o e i=>?_,λb xs e=>?_,λb o u e=>?_,λb ps e=>?_⟩ ?_ J.bare λb a=>⟨(h b a).2.2.2.1,(h b a).2.1,(h b a).2.2.2.2.1,(h b a).2.2.2.2.2⟩
 .exact j b o (f b o e).1 (B.keep b o e q a i)
 .obtain⟨sl,z⟩:=B.slot b o e q a i;exact⟨sl,j b _ (f b o e).1 z⟩
 .rw[zU (f b o e).2];exact B.free b o e q i
 .obtain⟨m,z⟩:=B.there b o e i;exact⟨m,j b m (f b o e).1 z⟩
 .rw[zU (d b _ e)];exact B.tups b xs e
 .rw[zU (d b _ e)];exact B.frzs b o u e
 .obtain⟨k,z⟩:=B.tbls b ps e;exact⟨k,by rw[zU (d b _ e)];exact z⟩
 .intro b u e;by_cases a:b=D
  .subst a;rw[yE]at e;cases e;exact⟨hz,its,n,r,j b _ hDC eD⟩
  .rw[zU a]at e;refine(J.hok b u e).stay (λc v s q=>j c v ?_ q) (λc q=>by rw[zU (yM q nD)];exact q) λc xs q=>by rw[zU (yM q nD)];exact q
   rcases s with z|z
   .rw[z];exact yM e p
   .exact yM z p
end
section
def QB
  (c:Q (newEnv scope ↑1 globals (cellsFrom (↑1+1) scope.names closure) qual none .none (some outer) builtinsNs) {s with heap:=pushCells (s.heap.push {cls:=.type "dict",data:=.dict #[]}) scope.names}):
  wpAny M A (newFunctionEnv scope globals closure [] qual none .none (some outer)) Q E s:=by
 simp only[newFunctionEnv,Option.isSome_some,if_true];refine wB (wpAny_alloc ?_);refine wB (wpAny_layCells _ (λb kind cells=>by cases a:kind==NameKind.cell<;>simp[a]) _ _ _ _ ?_);rw[show({s with heap:=s.heap.push {cls:=.type "dict",data:=.dict #[]}}:ĺ).heap.objs.size=↑1+1 from Ė ..];exact wB (wP (wP c))
theorem YA(T)(idx)
  (hi:zBU C X tg iter wi) (hCx: ∀c f B fp pins σ,Inv X pins σ B f->C (yG X sc T idx c f B fp)) (hB:JW X.env.scope X.N sc idx=true)
  (hg: ∀C f H1 fp,PG (yG X sc T idx C f H1 fp) tg g)
  (hc: ∀C f H1 fp,Iz (yG X sc T idx C f H1 fp) ifs (tc C f H1 fp))
  (he: ∀C f H1 fp,PE (yG X sc T idx C f H1 fp) elt (te C f H1 fp))
  (hs: ∀x,foldedSetIterable iter X.env x=pure x:=by intro _;rfl)
         (I:↑2) (h:Mh wi g tc te T.length idx σ H Q)
  (fin: ∀ D C  K  H'  r ,(∀h',Heap.SameBut C K.heap h'->Inv X pins σ H' {K with heap:=h'})->DT X pins H' C->(∃m,K.heap.Ns C m)->Q (.ref D) H'->
   compPost ↑4 X.A X.xe use Q' (.ref D) C (.ok r) K):
  wpAny ↑4 X.A (comprehension (.ListComp elt [⟨tg,iter,ifs,0⟩] sc pos) sc X.env (firstIterPos [⟨tg,iter,ifs,0⟩] pos) (newList []) false (eval iter X.env) use) Q' X.xe s:=by
 have cf:=Va hB;refine wpAny_comprehension_free rfl hs (QA (XZ I cf)) cf.kind cf.locs ?_;refine gH (hi pins s σ H _ I h) λv s1 h1=>gH h1 λa9 a h2=>?_;obtain⟨it,fp,tn,J,B,e,P,G,ai,f2,W,⟨m0,w0⟩,ao⟩:=h2;subst e;have Z: ∀b∈fp,b<a.heap.objs.size:=λb t=>let ⟨o,e,_⟩:=G.obj _ _ ai b t;ä e;refine wpAny_newObj_type (QB ?_);dsimp only;generalize af:a.heap.push {cls:=.type "list",dict:=none,data:=.seq ([]:A0).toArray}=HH;generalize ah:pushCells (HH.push {cls:=.type "dict",data:=.dict #[]}) sc.names=h₁;have U:h₁.Ns HH.objs.size (λ_=>none):=ah▸(Heap.Ns.new HH (.type "dict")).keeps (pushCells_keeps _ _);have hC:HH.objs.size=a.heap.objs.size+1:=by rw[<-af,Ė]
 have S:a.heap.objs.size≠HH.objs.size:=by rw[hC];exact ê (Nat.lt_succ_self _)
 have E:a.heap.objs.size<=HH.objs.size:=by rw[hC];exact le_succ _
 have au: ∀b o,HH.get? b=some o->h₁.get? b=some o:=λb o e=>ah▸pushCells_keeps _ _ b o (hP0 _ e);have ab: ∀b o,a.heap.get? b=some o->h₁.get? b=some o:=λb o e=>au b o (af▸hP0 _ e);have a0:h₁.get? a.heap.objs.size=some {cls:=.type "list",data:=.seq ([]:A0).toArray 0}:=au _ _ (af▸è _ rfl);have a7: ∀x c,(x,c)∈cellsFrom (HH.objs.size+1) sc.names []->h₁.IsCell c none:=λx c hm=>by have ok:=cellsFrom_ok sc.names (HH.push {cls:=.type "dict",data:=.dict #[]}) 0 [] ⟨λ_ _ hm=>(nomatch hm),List.Pairwise.nil⟩ (zero_le _);rw[Ė,ah]at ok;exact(ok.empty x c hm).1
 have aF:B a.heap.objs.size=none:=P.hok.fresh (à _)
 have cD: ∀x c,(Lf X.env sc HH.objs.size).lookup x=some c->c≠a.heap.objs.size:=λx c e=>by
  rcases mW e with z|z
  .exact ă (FA z E)
  .obtain⟨v,q⟩:=P.cell x c (bP P cf z);exact ê q.lt
 have Y: ∀K:ĺ,K={a with heap:=h₁}->
   codeAny ↑4 X.A (.compLoop (.ListComp elt [⟨tg,iter,ifs,0⟩] sc pos) 0 (.ref it) (.ref a.heap.objs.size) (compEnvC sc (Lf X.env sc HH.objs.size) HH.objs.size X.env))
    (compPost ↑4 X.A X.xe use Q' (.ref a.heap.objs.size) HH.objs.size) K:=by
  rintro K rfl
  have J0:Inv (yG X sc T idx HH.objs.size a B fp) [] (T.map (λ_=>none)++IE σ idx) B {a with heap:=h₁}:=
   Bs P cf E f2 Z ab rfl rfl U a7
  refine UD (λk s'=> ∃(i:Nat)(ys:List V)(j:A0)(n:Nat)(H':Hp)(τ:St),Inv (yG X sc T idx HH.objs.size a B fp) [] (τ++IE σ idx) H' s'/\τ.length=T.length/\tn i s'.heap/\(∀b∈fp,H' b=none)/\
   s'.heap.get? a.heap.objs.size=some {cls:=.type "list",data:=.seq j.toArray n}/\H' a.heap.objs.size=none/\Vals ys j/\W i k ys H') ?_ m0
   ⟨0,[],[],0,B,_,J0,by rw[lM],G.keep _ _ _ ai λb _ o e=>ab b o e,λb t=>(f2 b t).1,a0,aF,.nil,w0⟩
  rintro k s3 ⟨i,ys,j,n,H3,τ,I3,aD,aq,av,a4,ag,r3,w3⟩;obtain⟨hz,a3⟩:=ao i k ys H3 w3;have ax:a.heap.objs.size∉(yG X sc T idx HH.objs.size a B fp).fs:=λz=>by obtain⟨_,o,ho,_⟩:=P.stack.mem (show a.heap.objs.size∈Ie X.stack from z);exact absurd (ä ho) (ģ _)
  have aw: ∀{H':Hp}{s':ĺ},s'.heap.get? a.heap.objs.size=some {cls:=.type "list",data:=.seq j.toArray n}->H' a.heap.objs.size=none->
    ∀p∈[(a.heap.objs.size,({cls:=.type "list",data:=.seq j.toArray n}:Obj))],s'.heap.get? p.1=some p.2/\H' p.1=none/\p.1≠(yG X sc T idx HH.objs.size a B fp).env.locals/\p.1∉(yG X sc T idx HH.objs.size a B fp).fs/\ ∀v,p.2.data≠.cell v:=
   λ{H' s'} e1 e2 p O=>by
    have ep:p=(a.heap.objs.size,{cls:=.type "list",data:=.seq j.toArray n}):=by simpa using O
    subst ep;exact⟨e1,e2,S,ax,λv z=>by cases z⟩
  have P3:Inv (yG X sc T idx HH.objs.size a B fp) [_] (τ++IE σ idx) H3 s3:=I3.pins_of (aw a4 ag)
  have L: ∀{H':Hp},(∀b∈fp,H' b=none)-> ∀b∈fp,DT (yG X sc T idx HH.objs.size a B fp) [_] H' b:=λ{H'} hn b t=>by
   have aa:=Z b t;refine⟨hn b t,ê (æ aa E),I3.ok.exfs b t,.inl t,λx c e=>?_,λp O=>?_⟩
   .rcases mW e with z|z
    .exact ă (lt_trans aa (FA z E))
    .exact(f2 b t).2.2.2.2.1 x c (bP P cf z)
   have ep:p=(a.heap.objs.size,({cls:=.type "list",data:=.seq j.toArray n}:Obj)):=by simpa [yG]using O
   subst ep;exact ă aa
  rcases a3 with⟨stop,q⟩|⟨go,hl2,step⟩
  .refine gH (G.done (yG X sc T idx HH.objs.size a B fp) rfl rfl rfl (hCx _ _ _ _ _ _ P) i _ s3 _ H3 (λ_ _=>False) P3 (L av) aq stop) λr K ⟨hr,I4⟩=>?_;subst hr;obtain⟨m,hn,_⟩:=id I4.loc;have az:=(I4.pin (a.heap.objs.size,{cls:=.type "list",data:=.seq j.toArray n}) (by simp)).1;exact fin _ _ K _ _ (λh' ay=>Bt P E f2 (I4.pins_of (λp O=>nomatch O)) ay (à _) S az ag r3 hz) (P.fpOk E (by rw[zU (Ne.symm S)];exact I4.free)) ⟨m,hn⟩ (q _ ag)
  .refine gH (G.item (yG X sc T idx HH.objs.size a B fp) rfl rfl rfl (hCx _ _ _ _ _ _ P) i _ s3 _ H3 (λ_ _=>False) P3 (L av) aq go) λr K ⟨u,hr,h4⟩=>?_;subst hr;refine gH h4 λ_ s5 ⟨x,H5,I5,r5,y5,M,a6⟩=>?_;have a5:=I5.pinned (L a6) (G.obj _ _ M);refine gH (hg HH.objs.size a B fp _ s5 _ H5 x u _ a5 r5 (step x H5 y5 τ aD)) λ_ s6 ⟨a8,H6,I6,⟨ak,e6,l6⟩,q6⟩=>?_;subst e6;refine gH (hc HH.objs.size a B fp _ s6 _ H6 _ I6 (q6 HH.objs.size a fp)) λok s7 ⟨H7,I7,q7⟩=>?_
   have mD:(a.heap.objs.size,({cls:=.type "list",data:=.seq j.toArray n}:Obj))∈(yG X sc T idx HH.objs.size a B fp).pn++([(a.heap.objs.size,{cls:=.type "list",data:=.seq j.toArray n})]++MF fp s5.heap):=
    ø _ (Ę _ (by simp))
   have mF: ∀b∈fp, ∀o,s5.heap.get? b=some o->(b,o)∈(yG X sc T idx HH.objs.size a B fp).pn++([(a.heap.objs.size,{cls:=.type "list",data:=.seq j.toArray n})]++MF fp s5.heap):=λb t o e=>
    ø _ (ø _ (EY t e))
   cases ok with
   |false=>
    rw[iN xF0]at q7 ⊢;obtain⟨m',ae,w7⟩:=q7;refine⟨m',ae,i+1,ys,j,n,H7,ak,I7.pins_of (λp O=>nomatch O),l6,G.keep _ _ _ M λb t o e=>(I7.pin _ (mF b t o e)).1,λb t=>?_,(I7.pin _ mD).1,(I7.pin _ mD).2.1,r3,w7⟩;obtain⟨o,e,d⟩:=G.obj _ _ M b t;exact(I7.pin _ (mF b t o e)).2.1
   |true=>
    rw[iP rfl]at q7 ⊢;refine gH (he HH.objs.size a B fp _ s7 _ H7 _ I7 q7) λy s8 ⟨yv,H8,I8,r8,m',ae,w8⟩=>?_;have aj:=(I8.pin _ mD).1;have ar:=(I8.pin _ mD).2.1;have hl:=r3.length;have q:=PySem.IsL.update aj (λz=>z.push y);rw[show j.toArray.push y=(j++[y]).toArray by simp]at q;refine call_meets PySem.F.slot_list_append ⟨_,aj,rfl⟩ PySem.F.entry_list_append (PySem.F.args_list_append_2 _ _) (PySem.list_append a.heap.objs.size j.toArray n y (by rw[sA];lia)) ⟨aj,?_⟩;have I9:Inv (yG X sc T idx HH.objs.size a B fp) [] (ak++IE σ idx) H8 s8:=I8.pins_of (λp O=>nomatch O);have up: ∀b o,b≠a.heap.objs.size->s8.heap.get? b=some o->(s8.heap.update a.heap.objs.size (Obj.mapSeq λz=>z.push y)).get? b=some o:=λb o t e=>(ē s8.heap _ (Ne.symm t)).trans e;refine⟨m',ae,i+1,_,_,_,H8,ak,I9.turned up ar S (.inr (à _)) cD (λp O=>nomatch O),l6,?_,λb t=>?_,q,ar,r3.append (.cons r8 .nil),w8⟩
    .exact G.keep _ _ _ M λb t o e=>up b o (ê (Z b t)) (I8.pin _ (mF b t o e)).1
    .obtain⟨o,e,d⟩:=G.obj _ _ M b t;exact(I8.pin _ (mF b t o e)).2.1
 exact codeAny_compStart_list (Y _ rfl) (G.self X.A 0 _ _ _ (G.keep _ _ _ ai λb _ o e=>ab b o e) (Y _ rfl))
def Vc(T)(idx)
  (hi:zBU C X tg iter wi) (hCx: ∀c a e fp pins σ,Inv X pins σ e a->C (yG X sc T idx c a e fp)) (hB:JW X.env.scope X.N sc idx=true)
  (hg: ∀C a b fp,PG (yG X sc T idx C a b fp) tg g)
  (hc: ∀C a b fp,Iz (yG X sc T idx C a b fp) ifs (tc C a b fp))
  (he: ∀C a b fp,PE (yG X sc T idx C a b fp) elt (te C a b fp))
  (hs: ∀x,foldedSetIterable iter X.env x=pure x:=by intro _;rfl):
  PE X (.ListComp elt [⟨tg,iter,ifs,0⟩] sc pos) (Mh wi g tc te T.length idx):=by
 intro pins s σ H Q I h;exact YA T idx hi hCx hB hg hc he hs I h λD C i H' r J _ ⟨m,f⟩ q=>⟨m,f,λh' d=>⟨.ref D,H',J h' d,rfl,q⟩⟩
end
noncomputable def bW(x:Db):Str:=⟨x.toArray⟩
def gT(x):(bW x).length=x.length:=by simp[bW,Str.length]
def Vd(x):(bW x).cps.toList=x:=by simp[bW]
def GA(h:bW x=bW y):x=y:=by have:=congrArg (λs=>s.cps.toList) h;simpa [bW]using this
def GB(x y):bW x++bW y=bW (x++y):=by show Str.append _ _=_;simp[Str.append,bW]
theorem Ve(c):(⟨#[c]⟩)=bW [c]:=rfl
def aG{α:Type}(xs:List α)(lo hi:O0):List α:=(xs.drop (HT.sIx xs.length 0 lo)).take (HT.sIx xs.length xs.length hi - HT.sIx xs.length 0 lo)
theorem strIdx(lo hi)(n):Builtin.Str.strSliceIndices lo hi 1 n=(List.range (HT.sIx n n hi - HT.sIx n 0 lo)).map (HT.sIx n 0 lo+·):=by
 have b:(match lo with |none=>(if(1:Int)>0 then(0:Int)else(n:Int) - 1)|some i=>if(1:Int)>0 then max 0 (min (if i<0 then i+(n:Int)else i) (n:Int))else max (-1) (min (if i<0 then i+(n:Int)else i) ((n:Int) - 1)))=((HT.sIx n 0 lo:Nat):Int):=by
  cases lo with
  |none=>simp[HT.sIx]
  |some i=>
   simp only[HT.sIx,show(1:Int)>0 by decide,if_true];by_cases h:i<0
   .simp only[h,if_true];lia
   .simp only[h,iF];lia
 have a:(match hi with |none=>(if(1:Int)>0 then(n:Int)else -1)|some i=>if(1:Int)>0 then max 0 (min (if i<0 then i+(n:Int)else i) (n:Int))else max (-1) (min (if i<0 then i+(n:Int)else i) ((n:Int) - 1)))=((HT.sIx n n hi:Nat):Int):=by
  cases hi with
  |none=>simp[HT.sIx]
  |some i=>
   simp only[HT.sIx,show(1:Int)>0 by decide,if_true];by_cases h:i<0
   .simp only[h,if_true];lia
   .simp only[h,iF];lia
 rw[<-sliceRange_one];unfold Builtin.Str.strSliceIndices;rw[<-b, <-a];cases lo<;>cases hi<;>rfl
theorem Jb(x)(lo hi):Txt.slice (bW x) lo hi=bW (aG x lo hi):=by
 unfold Txt.slice;rw[strIdx,gT];have b:=by have:=pick_run (bW x).cps (HT.sIx x.length 0 lo) (HT.sIx x.length x.length hi - HT.sIx x.length 0 lo);exact this
 rw[b];split
 .rename_i a;rw[aE]at a;have c:=by simpa using a.2
  have d:HT.sIx x.length x.length hi<=x.length:=HT.sIx_le _ _ (à _) _;have f:HT.sIx x.length 0 lo<=x.length:=HT.sIx_le _ _ (zero_le _) _;have e:HT.sIx x.length 0 lo=0:=by lia
  unfold aG;rw[c,e];simp
 .rfl
section
variable{X:Cx}
def rSlS:V->Option Int->Option Int->Hp->VK->Prop:=λx lo hi H Q=> ∃a,x=.str (bW a)/\a.length<=sizeLine/\Q (.str (bW (aG a lo hi))) H
def O6:SlR X rSlS:=by
 intro pins s σ H x v vl y lo hi sl Q I m n r f h;obtain⟨p,rfl,w,q⟩:=h;obtain⟨t,rfl⟩:=m;have d:(Txt.slice (bW p) lo hi).length<=sizeLine:=ì (Txt.slice_le _ _ _) (by rw[gT];exact w);rw[<-Jb]at q;refine⟨"str",_,slot_str_getitem.lookup,typeIs_str _ _ _,?_⟩;obtain⟨o,b,a,c⟩:=n
 cases r with
 |none=>
  cases f with
  |none=>exact ĵ (l:=none) (u:=none) (st:=none) ⟨o,b,a,c⟩ rfl (post_val_or_str ⟨d,λe k=>⟨.str _,H,I.tok _,⟨_,rfl⟩,q⟩⟩)
  |int j uj=>exact ĵ (l:=none) (u:=some (j,uj)) (st:=none) ⟨o,b,a,c⟩ rfl (post_val_or_str ⟨d,λe k=>⟨.str _,H,I.tok _,⟨_,rfl⟩,q⟩⟩)
 |int i ui=>
  cases f with
  |none=>exact ĵ (l:=some (i,ui)) (u:=none) (st:=none) ⟨o,b,a,c⟩ rfl (post_val_or_str ⟨d,λe k=>⟨.str _,H,I.tok _,⟨_,rfl⟩,q⟩⟩)
  |int j uj=>exact ĵ (l:=some (i,ui)) (u:=some (j,uj)) (st:=none) ⟨o,b,a,c⟩ rfl (post_val_or_str ⟨d,λe k=>⟨.str _,H,I.tok _,⟨_,rfl⟩,q⟩⟩)
noncomputable def QC(cs:Db)(k:Int):List Nat:=(List.replicate k.toNat cs).flatten
theorem IF(cs): ∀ k (a:Db),List.foldl (λc b=>c++b) a.toArray (List.replicate k cs.toArray)=(a++(List.replicate k cs).flatten).toArray
 |0,a=>by simp
 |k+1,a=>by rw[Ĺ,Ĺ,flatten_cons, <-aA, <-IF cs k _];simp
theorem Bu:OpR X (binaryOp .Mult) (λx y H Q=> ∃a k,x=.str (bW a)/\y=.int k/\0<=k/\k<1000/\a.length<=1000/\Q (.str (bW (QC a k))) H):=by
 intro pins s σ H x y v u Q I A p h;obtain⟨a,k,rfl,rfl,F,G,o,q⟩:=h;obtain⟨t,rfl⟩:=A;obtain⟨C,rfl⟩:=p;have D:=đ;have j:a.length * k.toNat<=1000 * 1000:=Nat.mul_le_mul o #[0];have e: ∀b,Q (.str b) H->b=bW (QC a k)->True:=λ_ _ _=>trivial;refine PySem.P.mul_str (by rw[dF0 #[0],dF0 #[0]];rfl) (λE _=>?_) (λ_ _=>?_) ?_
 .rw[gT];have m:1<=k:=by lia
  have:(1000:Int)<=(2 ^ 63 - 1) / k:=by
   rw[Int.le_ediv_iff_mul_le #[0]]
   lia
  lia
 .rw[gT];unfold PySem.Builtin.Str.tooLong;exact dF0 #[0]
 .have made: ∀(z:Str),z=bW _->z.length<=sizeLine->(Made.str z).post (EP X pins σ Q) s:=λz r w=>⟨w,by rw[r];exact⟨.str _,H,I.tok _,⟨_,rfl⟩,q⟩⟩
  have d:(QC a k).length=k.toNat * a.length:=by unfold QC;rw[len_rep]
  by_cases n:k<1
  .rw[iP n];have m:k.toNat=0:=by lia
   refine made _ ?_ ↑3;unfold QC;rw[m];rfl
  .rw[iN n];by_cases c:(k==1 || (bW a).length==0)=true
   .rw[iP c];refine⟨.str _,H,I,⟨_,rfl⟩,?_⟩
    have:QC a k=a:=by
     unfold QC;rw[Bool.or_eq_true]at c;rcases c with c|c
     .have:k=1:=by simpa using c
      subst this;simp
     .rw[gT]at c;have:a=[]:=by cases a with |nil=>rfl|cons _ _=>simp at c
      subst this;simp
    rw[this]at q;exact q
   .rw[iN c];refine made _ ?_ ?_
    .unfold QC bW;have:=IF a k.toNat [];rw[Ě]at this;exact congrArg Str.mk this
    .have B:(List.foldl (λi f=>i++f) #[] (List.replicate k.toNat (bW a).cps))=(QC a k).toArray:=by have:=IF a k.toNat [];rw[Ě]at this;exact this
     show(List.foldl (λi f=>i++f) #[] _).size<=sizeLine;rw[B,sA,d,Nat.mul_comm]
     lia
def UE:CallR X (.builtin "all") (λxs H Q=> ∃(a:Addr)(bs:N0),xs=[.ref a]/\SqL X.K H a (bs.map V.bl)/\X.calm=true/\Q (.bl (bs.all id)) H):=by
 intro pins s σ H xs M Q I r h;obtain⟨a,bs,rfl,G,y,q⟩:=h;obtain⟨u,rfl,A⟩:=vals1 r;cases A;obtain⟨d,z,p,J⟩:=I.list G;have c:d.length=bs.length:=by rw[<-z.length,lM]
 refine PySem.call_all_walk (wpAny_pyIter_list p.isList ?_);have C:a≠s.heap.objs.size:=by obtain⟨o,B,_⟩:=p.isList;exact ê (ä B)
 have I1: ∀(h':Heap)(n:Nat),(∀b o,b∉[↑1]->(s.heap.push {cls:=.type "list_iterator",data:=.fields #[.ref a,.int 0 0]}).get? b=some o->h'.get? b=some o)->Inv X pins σ H {s with heap:=h',toks:=n}:=λh' n k=>
  I.kept λb o e=>k b o (by simpa using ê (ä e)) (hP0 _ e)
 refine⟨_,_,_,_,_,_,λi=>bs.getD i false,rfl,PySem.Walks.list (by first |exact I.ok.hd y|exact(I.ok.hd y)) _ a C d.toArray,⟨⟨_,è _ rfl,rfl,rfl⟩,p.isList.at λo e=>hP0 _ e⟩,?_,λh' n k=>?_⟩
 .intro i v L P O D t;have f:=by simpa using D
  have hi:i<bs.length:=by rw[<-c];exact(gS.mp f).1
  have E:(bs.map V.bl)[i]? =some (V.bl (bs.getD i false)):=by simp[ć,hi]
  obtain⟨N,j,w⟩:=z.get E;rw[f]at j;cases j;cases w;exact Ă t
 .refine⟨_,H,I1 h' n k,?_,q⟩;congr 1;rw[sA,c]
  have: ∀(l:N0),(List.range l.length).all (λi=>l.getD i false)=l.all id:=by
   intro l;rw[Bool.eq_iff_iff,õ,õ];constructor
   .intro h x F;obtain⟨i,hi,rfl⟩:=getElem_of_mem F;have:=h i (Ą.mpr hi);simpa [ć,hi]using this
   .intro h i hi;have m:=Ą.mp hi;have:=h l[i] (getElem_mem m);simpa [ć,m]using this
  exact this bs
def zCP(x:Db):It:=⟨λi _=>i<x.length,λi H v H'=>H'=H/\ ∃c,x[i]? =some c/\v=.str (bW [c]),λi _=>x.length<=i⟩
def iStr(b:TE):TI:=λσ H R=>b σ H λv a=> ∃x,v=.str (bW x)/\R (zCP x) a
def YB{K:R0}(it)(ty)(x)(t)(hty:ty="str_ascii_iterator"\/ty="str_iterator"):
  Turn P w K tg (zCP x) [it] it (λi h=>h.IsStrIter it ty (bW x) t i) where
 mem:=by simp
 obj:=λi h st b hb=>by
  have e:b=it:=by simpa using hb
  subst e;obtain⟨o,e,c,d⟩:=st;exact⟨o,e,λv z=>by rw[d]at z;cases z⟩
 keep:=λi h h' st k=>let ⟨o,ho,r⟩:=st;⟨o,k it (by simp) o ho,r⟩
 item:=by
  intro X hP hw hK hc i pins s σ H E I hf st hg;subst hP hw hK;obtain⟨f0,f1,f2,f3,f4,f5⟩:=hf it (by simp);have hi:i<x.length:=hg;have hxi:(bW x).cps[i]? =some x[i]:=by simp[bW,hi]
  have fin: ∀(h':Heap),h'.IsStrIter it ty (bW x) t (i+1)->Heap.SameBut it s.heap h'-> ∃u,some (Value.str ⟨#[x[i]]⟩ s.toks)=some u/\
    wpAny ↑4 X.A (letOwnedTupleGo tg (.ref it) u) (λ_ s2=> ∃y H',Inv X pins σ H' s2/\RelV y u/\(zCP x).yld i H y H'/\s2.heap.IsStrIter it ty (bW x) t (i+1)/\ ∀b∈[it],H' b=none) E {s with heap:=h',toks:=s.toks+1}:=λh' st' sb=>by
   have I1:Inv X pins σ H {s with heap:=h',toks:=s.toks+1}:=I.turned (λb o hb e=>(sb.2 b hb).trans e) f0 f1 f3 f4 f5;obtain⟨o,e,c,d⟩:=id st';refine⟨_,rfl,XT (s:={s with heap:=h',toks:=s.toks+1}) e c d (by rcases hty with rfl|rfl<;>decide) ⟨.str (bW [x[i]]),H,I1,⟨_,rfl⟩,⟨rfl,x[i],by simp[hi],rfl⟩,st',λb hb=>(hf b hb).1⟩⟩
  rcases hty with rfl|rfl
  .exact wpAny_pyNext_ascii_item st hxi λh' st' sb=>fin h' st' sb
  .exact wpAny_pyNext_wide_item st hxi λh' st' sb=>fin h' st' sb
 done:=by
  intro X hP hw hK hc i pins s σ H E I hf st hg;subst hP hw hK;obtain⟨f0,f1,f2,f3,f4,f5⟩:=hf it (by simp);have hi:x.length<=i:=hg;have hxi:(bW x).cps[i]? =none:=by simp[bW,hi]
  rcases hty with rfl|rfl
  .exact wpAny_pyNext_ascii_end (I.ok.hd hc) st hxi λh' eb=>⟨rfl,I.turned (t':=s.toks) (λb o hb e=>eb b o hb e) f0 f1 f3 f4 f5⟩
  .exact wpAny_pyNext_wide_end (I.ok.hd hc) st hxi λh' eb=>⟨rfl,I.turned (t':=s.toks) (λb o hb e=>eb b o hb e) f0 f1 f3 f4 f5⟩
 self:=λ_ _ _ _ _ st h=>by
  rcases hty with rfl|rfl
  .exact wpAny_pyIter_striter_ascii st h
  .exact wpAny_pyIter_striter_wide st h
def O7(m:PE X l tl):PI X tg l (iStr tl):=by
 intro pins s σ H R I h;refine gH (m pins s σ H _ I h) λv a ⟨x,d,I1,j,i⟩=>?_;obtain⟨c,e,q⟩:=i;subst e;obtain⟨t,rfl⟩:=j
 have fp: ∀(o:Obj), ∀b∈[a.heap.objs.size],DT X pins d b:=λo b k=>by
  have e:b=a.heap.objs.size:=by simpa using k
  subst e;exact I1.fpOk (à _) (I1.hok.fresh (à _))
 cases f:(bW c).cps.all (· <128)
 .refine wpAny_pyIter_wide f ?_;exact⟨a.heap.objs.size,[a.heap.objs.size],_,_,d,rfl,I1.kept (t':=a.toks) λb o e=>hP0 _ e,YB _ "str_iterator" c t (.inr rfl),⟨_,è _ rfl,rfl,rfl⟩,fp default,q⟩
 .refine wpAny_pyIter_ascii f ?_;exact⟨a.heap.objs.size,[a.heap.objs.size],_,_,d,rfl,I1.kept (t':=a.toks) λb o e=>hP0 _ e,YB _ "str_ascii_iterator" c t (.inl rfl),⟨_,è _ rfl,rfl,rfl⟩,fp default,q⟩
end
section
def PU(X:Cx)(e:Expr)(t:TE):Prop:= ∀(i:Nat)(x:Str)(a pos:Pos),X.N.Nodup->X.N[i]? =some x->Loc X.env.scope x->(X.fn x=true\/X.env.scope.names.lookup x=some .local)->
 swapsWith e (some (.Name x a)) pos.line X.env=pure true->PS X (.Assign [.Name x a] e pos) (L7 t (Lo i))
def Vf(T)(idx)
  (hi:zBU C X tg iter wi) (hCx: ∀c d y fp pins σ,Inv X pins σ y d->C (yG X sc T idx c d y fp)) (hB:JW X.env.scope X.N sc idx=true)
  (hg: ∀C d f fp,PG (yG X sc T idx C d f fp) tg g)
  (hc: ∀C d f fp,Iz (yG X sc T idx C d f fp) ifs (tc C d f fp))
  (he: ∀C d f fp,PE (yG X sc T idx C d f fp) elt (te C d f fp))
  (hs: ∀x,foldedSetIterable iter X.env x=pure x:=by intro _;rfl):
  PU X (.ListComp elt [⟨tg,iter,ifs,0⟩] sc pos) (Mh wi g tc te T.length idx):=by
 intro i x z w E u L A r pins s σ H D I h;rw[exec_Assign_Name_used _ _ _ _ r];refine wB (wpAny_standAt (wB ?_));refine wB (gH (YA T idx hi hCx hB hg hc he hs I h λM C J H' _ F j t q=>?_) λ_ K P=>wP (wP P));have B:=F J.heap (Heap.SameBut.refl _ _);refine wpAny_assign_Name (RA B E u L (show RelV (.ref M) _ from rfl) (λK O ⟨a,p,k⟩=>?_) A);obtain⟨m,t⟩:=t
 have v:C≠a:=by
  rintro rfl;rcases k with k|k
  .exact j.2.1 k
  .exact j.2.2.2.2.1 x _ k rfl
 refine⟨m,t.sameBut p v,λh' n=>⟨_,H',?_,q⟩⟩;exact O.turned (λb o G e=>(n.2 b G).trans e) j.1 j.2.1 j.2.2.2.1 j.2.2.2.2.1 j.2.2.2.2.2
end
end L2
namespace L2
namespace M
open PySem PySem.Spec PyProof.Rows
def Mm(e:RelV y u)(d:RelV x v)(h:sN y=true)(f:sN x=true):SeqAt.RcAt A s u v (Uy y x)/\SeqAt.RcNeAt A s u v (!Uy y x):=by
 cases y with
 |non=>
  cases e
  cases x with
  |non=>cases d;exact⟨.none_none,.none_none⟩
  |bl b=>cases d;exact⟨.none_bool b,.none_bool b⟩
  |int b=>obtain⟨t,rfl⟩:=d;exact⟨.none_int b t,.none_int b t⟩
  |str b=>obtain⟨t,rfl⟩:=d;exact⟨.none_str b t,.none_str b t⟩
  |_=>cases f
 |bl a=>
  cases e
  cases x with
  |non=>cases d;exact⟨.bool_none a,.bool_none a⟩
  |bl b=>cases d;exact⟨.bool_bool a b,.bool_bool a b⟩
  |int b=>obtain⟨t,rfl⟩:=d;exact⟨.bool_int a b t,.bool_int a b t⟩
  |str b=>obtain⟨t,rfl⟩:=d;exact⟨.bool_str a b t,.bool_str a b t⟩
  |_=>cases f
 |int a=>
  obtain⟨c,rfl⟩:=e
  cases x with
  |non=>cases d;exact⟨.int_none a c,.int_none a c⟩
  |bl b=>cases d;exact⟨.int_bool a c b,.int_bool a c b⟩
  |int b=>obtain⟨t,rfl⟩:=d;exact⟨.int_int a c b t,.int_int a c b t⟩
  |str b=>obtain⟨t,rfl⟩:=d;exact⟨.int_str a c b t,.int_str a c b t⟩
  |_=>cases f
 |str a=>
  obtain⟨c,rfl⟩:=e
  cases x with
  |non=>cases d;exact⟨.str_none a c,.str_none a c⟩
  |bl b=>cases d;exact⟨.str_bool a c b,.str_bool a c b⟩
  |int b=>obtain⟨t,rfl⟩:=d;exact⟨.str_int a c b t,.str_int a c b t⟩
  |str b=>obtain⟨t,rfl⟩:=d;exact⟨.str_str a c b t,.str_str a c b t⟩
  |_=>cases f
 |_=>cases h
abbrev Six(A:Around)(s:Shared)(u v:Value):Prop:=SeqAt.EqAt A s u v false/\SeqAt.EqAt A s v u false/\SeqAt.RcAt A s u v false/\SeqAt.RcAt A s v u false/\SeqAt.RcNeAt A s u v true/\SeqAt.RcNeAt A s v u true
def RN(d:RelV x v)(e:sN x=true)(a:s.heap.IsList l items)(c:A.units<cLine):Six A s (.ref l) v:=by
 cases x with
 |non=>cases d;exact⟨.list_none a c,.none_list a c,.list_none a c,.none_list a c,.list_none a c,.none_list a c⟩
 |bl b=>cases d;exact⟨.list_bool b a c,.bool_list b a c,.list_bool b a c,.bool_list b a c,.list_bool b a c,.bool_list b a c⟩
 |int b=>obtain⟨t,rfl⟩:=d;exact⟨.list_int b t a c,.int_list b t a c,.list_int b t a c,.int_list b t a c,.list_int b t a c,.int_list b t a c⟩
 |str b=>obtain⟨t,rfl⟩:=d;exact⟨.list_str b t a c,.str_list b t a c,.list_str b t a c,.str_list b t a c,.list_str b t a c,.str_list b t a c⟩
 |_=>cases e
def JX(d:RelV x v)(e:sN x=true)(a:s.heap.IsTuple l items)(c:A.units<cLine):Six A s (.ref l) v:=by
 cases x with
 |non=>cases d;exact⟨.tuple_none a c,.none_tuple a c,.tuple_none a c,.none_tuple a c,.tuple_none a c,.none_tuple a c⟩
 |bl b=>cases d;exact⟨.tuple_bool b a c,.bool_tuple b a c,.tuple_bool b a c,.bool_tuple b a c,.tuple_bool b a c,.bool_tuple b a c⟩
 |int b=>obtain⟨t,rfl⟩:=d;exact⟨.tuple_int b t a c,.int_tuple b t a c,.tuple_int b t a c,.int_tuple b t a c,.tuple_int b t a c,.int_tuple b t a c⟩
 |str b=>obtain⟨t,rfl⟩:=d;exact⟨.tuple_str b t a c,.str_tuple b t a c,.tuple_str b t a c,.str_tuple b t a c,.tuple_str b t a c,.str_tuple b t a c⟩
 |_=>cases e
def Mn(h:sN y=true):Uy y y=true:=by cases y<;>first |rfl|(simp[Uy];done)|exact absurd h xF0
abbrev K3:=Option Key
inductive NK where
 |key (k:K3)|tup (ks:List NK)
instance:DecidableEq NK:=λ_ _=>Classical.propDecidable _
section
variable(knd:KeyKind prog w K3)
mutual
def QD(h:Heap):NK->Ļ->Prop
 |.key k,v=>knd.is k v=true
 |.tup ks,v=> ∃a o b n,v=.ref a/\h.get? a=some o/\o.cls=.type "tuple"/\o.data=.seq b n/\vR h ks b.toList
def vR(h:Heap):List NK->List Ļ->Prop
 |[],vs=>vs=[]
 |k::ks,vs=> ∃v r,vs=v::r/\QD h k v/\vR h ks r
end
mutual
def GC:NK->Int
 |.key k=>knd.hash k
 |.tup ks=>reduceHash (Builtin.Tuple.tupleHashOf (MK ks))
def MK:List NK->List Int
 |[]=>[]
 |k::ks=>GC k::MK ks
end
mutual
def ML:NK->Nat
 |.key _=>1
 |.tup ks=>aI ks+1
def aI:List NK->Nat
 |[]=>0
 |k::ks=>ML k+aI ks
end
mutual
def qZ:NK->Nat
 |.key _=>0
 |.tup ks=>vS ks+1
def vS:List NK->Nat
 |[]=>0
 |k::ks=>max (qZ k) (vS ks)
end
variable{knd}
theorem jU:QD knd h (.key k) v↔knd.is k v=true:=by unfold QD;exact Iff.rfl
def jA:QD knd h (.tup ks) v↔ ∃a o b n,v=.ref a/\h.get? a=some o/\o.cls=.type "tuple"/\o.data=.seq b n/\vR knd h ks b.toList:=by
 conv=>lhs;unfold QD
theorem gD:vR knd h [] vs↔vs=[]:=by unfold vR;exact Iff.rfl
def xQ:vR knd h (k::ks) vs↔ ∃v r,vs=v::r/\QD knd h k v/\vR knd h ks r:=by
 conv=>lhs;unfold vR
mutual
theorem UF{h:Heap}: ∀{x y:NK}{v:Ļ},QD knd h x v->QD knd h y v->x=y
 |.key k,.key k',v,hx,hy=>by rw[knd.inj v k k' (jU.mp hx) (jU.mp hy)]
 |.key k,.tup ks,v,hx,hy=>by obtain⟨a,o,b,n,rfl,_⟩:=jA.mp hy;have:=knd.byValue _ _ (jU.mp hx);simp[carriedByValue]at this
 |.tup ks,.key k,v,hx,hy=>by obtain⟨a,o,b,n,rfl,_⟩:=jA.mp hx;have:=knd.byValue _ _ (jU.mp hy);simp[carriedByValue]at this
 |.tup ks,.tup ks',v,hx,hy=>by
  obtain⟨a,o,b,n,e,p,_,q,hi⟩:=jA.mp hx;obtain⟨r,m,d,s,j,i,_,c,f⟩:=jA.mp hy;rw[e]at j;cases j;obtain rfl:o=m:=â (p.symm.trans i);rw[q]at c;injection c with h1 _
  subst h1;rw[YC hi f]
theorem YC{h:Heap}: ∀{xs a:List NK}{vs:A0},vR knd h xs vs->vR knd h a vs->xs=a
 |[],[],_,_,_=>rfl
 |[],y::a,vs,hx,hy=>by obtain⟨v,r,e,_⟩:=xQ.mp hy;rw[gD.mp hx]at e;cases e
 |x::xs,[],vs,hx,hy=>by obtain⟨v,r,e,_⟩:=xQ.mp hx;rw[gD.mp hy]at e;cases e
 |x::xs,y::a,vs,hx,hy=>by obtain⟨v,r,e,i,f⟩:=xQ.mp hx;obtain⟨j,k,d,b,c⟩:=xQ.mp hy;rw[e]at d;cases d;rw[UF i b,YC f c]
end
mutual
theorem YD{h h':Heap}(m: ∀a o b n,h.get? a=some o->o.data=.seq b n->h'.get? a=some o): ∀{x:NK}{v:Ļ},QD knd h x v->QD knd h' x v
 |.key k,v,hx=>jU.mpr (jU.mp hx)
 |.tup ks,v,hx=>by obtain⟨a,o,b,n,e,d,f,c,hi⟩:=jA.mp hx;exact jA.mpr ⟨a,o,b,n,e,m a o b n d c,f,c,RO m hi⟩
theorem RO{h h':Heap}(m: ∀a o b n,h.get? a=some o->o.data=.seq b n->h'.get? a=some o): ∀{xs:List NK}{vs:A0},vR knd h xs vs->vR knd h' xs vs
 |[],vs,hx=>gD.mpr (gD.mp hx)
 |x::xs,vs,hx=>by obtain⟨v,r,e,d,c⟩:=xQ.mp hx;exact xQ.mpr ⟨v,r,e,YD m d,RO m c⟩
end
theorem MM: ∀a:List NK,MK knd a=a.map (GC knd)
 |[]=>by unfold MK;rfl
 |k::a=>by unfold MK;rw[MM a];rfl
def FB:aI []=0:=by rw[aI]
def vU(k)(ks):aI (k::ks)=ML k+aI ks:=by rw[aI]
def mX(k)(ks):vS (k::ks)=max (qZ k) (vS ks):=by rw[vS]
def fO(ks):qZ (.tup ks)=vS ks+1:=by rw[qZ]
theorem EC: ∀ xs a ,aI (xs++a)=aI xs+aI a
 |[],a=>by rw[FB,Ě,İ]
 |x::xs,a=>by rw[List.cons_append,vU,vU,EC xs a];lia
def GD{s:ĺ}(h:QD knd s.heap (.tup ks) (.ref a)):s.TypeIs (.ref a) "tuple":=by obtain⟨d,o,_,n,e,b,c,_⟩:=jA.mp h;cases e;exact⟨o,b,c⟩
theorem YE: ∀ n {A}{E}{s}{k}{v}{Q},qZ k<=n->A.units+n<cLine->QD knd s.heap k v->Q (GC knd k) {s with toks:=s.toks+ML k}->wpAny (model prog w) A (pyHash v) Q E s
 |n,A,E,s,.key k,v,Q,_,_,f,h=>knd.pyHash (jU.mp f) (by rw[GC,ML]at h;exact h)
 |0,A,E,s,.tup d,v,Q,z,_,_,_=>by rw[fO]at z;lia
 |n+1,A,E,s,.tup d,v,Q,hdep,hu,f,h=>by
  obtain⟨a,o,_,m,rfl,B,C,z,hi⟩:=jA.mp f;have p:s.TypeIs (.ref a) "tuple":=⟨o,B,C⟩
  rw[fO]at hdep
  have q: ∀k∈d,qZ k<=n:=by
   have: ∀d:List NK,vS d<=n-> ∀k∈d,qZ k<=n:=by
    intro d
    induction d with
    |nil=>intro _ k f;simp at f
    |cons x xs ih=>
     intro G k f;rw[mX]at G;rcases mC.mp f with rfl|f
     .lia
     .exact ih #[0] k f
   exact this d #[0]
  rw[GC,ML,MM]at h;unfold pyHash
  first |unfold pyHashByItsType|skip
  first |refine wB (wpAny_cRoomFor_or (.inr #[0]) ?_)|skip
  refine wB (Ĩ p F.slot_tuple_hash.lookup ?_);show wpAny _ _ _ Q E s;rw[iN (by rw[beq_builtin_none];exact xF0)];refine wB (Ĩ p F.slot_tuple_hash.lookup ?_);show wpAny _ _ _ Q E s;refine wB (wpAny_callSpecialIfBoundUnlessNone?_slot p F.slot_tuple_hash (ð F.slot_tuple_hash p F.entry_tuple_hash ?_ (F.args_tuple_hash_1 _)));show wpAny _ _ (Builtin.Tuple.tupleItemsOf (.ref a) >>= _) _ _ s;refine wB (wpAny_tupleItemsOf B z ?_);refine wB ?_;rw[<-Array.forIn_toList]
  refine wpAny_forIn_list _
   (λrest (b:Array Int) y=> ∃c left,d=c++left/\vR knd s.heap left rest/\b.toList=c.map (GC knd)/\y={s with toks:=s.toks+aI c})
   _ ?_ ?_ _ _ ⟨[],d,rfl,hi,rfl,by rw[FB];rfl⟩
  .rintro x rest b y ⟨c,left,rfl,i,t,rfl⟩
   cases left with
   |nil=>rw[gD]at i;cases i
   |cons k ks'=>
    obtain⟨v,r,e,H,u⟩:=xQ.mp i;cases e;refine wB (YE n (q k (by simp)) #[0] H ?_);have D:aI (c++[k])=aI c+ML k:=by rw[EC,vU,FB];rfl
    first
     |exact wP ⟨c++[k],ks',by simp,u,by simp[t],by simp[add_assoc,D]⟩
     |exact wB _
  .rintro b y ⟨c,left,rfl,i,t,rfl⟩
   cases left with
   |cons k ks'=>obtain⟨v,r,e,_⟩:=xQ.mp i;cases e
   |nil=>
    rw[aN]at h;show wpAny _ _ (retInt _) _ _ _;rw[t];refine wpAny_ret_mkInt ?_;show wpAny _ _ (if _=true then _ else _) Q E _;unfold reduceHash at h;by_cases j:(decide (-(2:Int) ^ 63<=Builtin.Tuple.tupleHashOf (c.map (GC knd)))&&decide (Builtin.Tuple.tupleHashOf (c.map (GC knd))<2 ^ 63))=true
    .rw[iP j];rw[iP j]at h;exact wP (by simpa [add_assoc]using h)
    .rw[iN j];rw[iN j]at h;exact wB (Ģ (wP (by simpa [add_assoc]using h)))
end
section
def Jc(h:Q 0xFCA86420 {s with toks:=s.toks+1}):wpAny (model prog w) A (pyHash .none) Q E s:=by
 refine wB ?_;rw[cRoomFor];refine wP ?_;refine wB (Ĩ (typeIs_none s) F.slot_NoneType_hash.lookup ?_);refine wB (Ĩ (typeIs_none s) F.slot_NoneType_hash.lookup ?_)
 refine wB (wpAny_callSpecialIfBoundUnlessNone?_slot (typeIs_none s) F.slot_NoneType_hash
  (ð F.slot_NoneType_hash (typeIs_none s) F.entry_NoneType_hash
   (wpAny_ret_mkInt ?_) (F.args_NoneType_hash_1 _)))
 show wpAny _ _ _ Q E _;exact wP h
def zCQ:K3->Ļ->Bool
 |some k,v=>sM k v
 |none,v=>v==.none
def sO: ∀{k}{v},zCQ k v=true->(∃i t,k=some (.inl i)/\v=Value.int i t)\/(∃x t,k=some (.inr x)/\v=Value.str x t)\/(k=none/\v=.none)
 |some k,v,h=>by
  rcases xD h with⟨i,t,rfl,e⟩|⟨x,t,rfl,e⟩
  .exact .inl ⟨i,t,rfl,e⟩
  .exact .inr (.inl ⟨x,t,rfl,e⟩)
 |none,v,h=>.inr (.inr ⟨rfl,eq_of_beq h⟩)
def mk(prog)(w):KeyKind prog w K3 where
 is:=zCQ
 hash:=λ|some k=>zBI w k|none=>0xFCA86420
 inj:=λv a b ha hb=>by rcases sO ha with⟨i,t,rfl,rfl⟩|⟨x,t,rfl,rfl⟩|⟨rfl,rfl⟩<;>rcases sO hb with⟨j,u,rfl,e⟩|⟨y,u,rfl,e⟩|⟨rfl,e⟩<;>first |(injection e with e1 _;rw[e1];done)|rfl|exact nomatch e
 byValue:=λk v h=>by rcases sO h with⟨i,t,rfl,rfl⟩|⟨x,t,rfl,rfl⟩|⟨rfl,rfl⟩<;>rfl
 pyHash:=λhv h=>by
  rcases sO hv with⟨i,t,rfl,rfl⟩|⟨x,t,rfl,rfl⟩|⟨rfl,rfl⟩
  .exact wpAny_pyHash_int h
  .exact wpAny_pyHash_str h
  .exact Jc h
 eqBool:=λ{A} {E} {s} {a} {b} {u} {v} {Q} hu hv h=>by
  cases a with
  |some a=>
   cases b with
   |some b=>exact(jT prog w).eqBool hu hv (by rw[show decide (some a=some b)=decide (a=b)from by simp]at h;exact h)
   |none=>
    cases eq_of_beq hv;rw[show decide (some a=none)=false from dF0 λz=>nomatch z]at h;rcases xD (show sM a u=true from hu)with⟨i,t,rfl,rfl⟩|⟨x,t,rfl,rfl⟩
    .exact SeqAt.EqAt.int_none i t _ _ _ _ h
    .exact SeqAt.EqAt.str_none x t _ _ _ _ h
  |none=>
   cases eq_of_beq hu
   cases b with
   |some b=>
    rw[show decide (none=some b)=false from dF0 λz=>nomatch z]at h;rcases xD (show sM b v=true from hv)with⟨i,t,rfl,rfl⟩|⟨x,t,rfl,rfl⟩
    .exact SeqAt.EqAt.none_int i t _ _ _ _ h
    .exact SeqAt.EqAt.none_str x t _ _ _ _ h
   |none=>
    cases eq_of_beq hv;rw[show decide ((none:K3)=none)=true from dT0 rfl]at h;exact SeqAt.EqAt.same _ _ _ _ _ h
 «strs»:=λk x t v h=>by
  rcases sO h with⟨i,u,rfl,e⟩|⟨y,u,rfl,e⟩|⟨rfl,e⟩
  .exact nomatch e
  .injection e with e1 _
   subst e1;cases v<;>rfl
  .exact nomatch e
def Vg(a b):decide (NK.key a=NK.key b)=decide (a=b):=by
 by_cases h:a=b
 .subst h;simp
 .rw[dF0 h,dF0 λz=>h (NK.key.inj z)]
def O8(a)(b):decide (NK.key a=NK.tup b)=false:=dF0 λz=>nomatch z
def O9(a)(b):decide (NK.tup b=NK.key a)=false:=dF0 λz=>nomatch z
def P4(a b):decide (NK.tup a=NK.tup b)=decide (a=b):=by
 by_cases h:a=b
 .subst h;simp
 .rw[dF0 h,dF0 λz=>h (NK.tup.inj z)]
def YF(h:(mk prog w).is k v=true): ∃x:V,RelV x v/\sN x=true:=by
 rcases sO h with⟨i,t,rfl,rfl⟩|⟨x,t,rfl,rfl⟩|⟨rfl,rfl⟩
 .exact⟨.int i,⟨t,rfl⟩,rfl⟩
 .exact⟨.str x,⟨t,rfl⟩,rfl⟩
 .exact⟨.non,rfl,rfl⟩
def Je
  (he: ∀z∈x, ∀F u v  Q ,QD (mk prog w) s.heap z u->QD (mk prog w) s.heap F v->Q (decide (z=F)) s->wpAny (model prog w) A (eqBool u v) Q E s)
  (hx:QD (mk prog w) s.heap (.tup x) (.ref a)) (hy:QD (mk prog w) s.heap (.tup y) (.ref b)) (h:P (.done (.ret (.bool (decide (x=y))))) s):
  wpAny (model prog w) A (Builtin.«tuple.__eq__» ⟨[.ref a,.ref b],[]⟩) P E s:=by
 have U:=GD hy;obtain⟨_,oa,xs,na,e,S,_,J,T⟩:=jA.mp hx;cases e;obtain⟨_,ob,Y,nb,e,O,_,L,M⟩:=jA.mp hy;cases e;show wpAny _ _ (isInstance _ _ >>= _) _ _ s;refine wB (ı U isSubtype_tuple_tuple ?_);refine wB (wpAny_tupleItemsOf S J ?_);refine wB (wpAny_tupleItemsOf O L ?_);refine wB ?_
 refine wpAny_forIn_list _
  (λrest r I=>r.1=none/\I=s/\ ∃D C o f,rest=List.zip o f/\(∀k∈D,k∈x)/\vR _ s.heap D o/\vR _ s.heap C f/\decide (D=C)=decide _/\(o.length==f.length)=(xs.size==Y.size))
  _ ?_ ?_ _ _ ⟨rfl,rfl,x,y,_,_,rfl,λk B=>B,T,M,rfl,by simp⟩
 .rintro⟨u,v⟩ rest r I ⟨W,rfl,D,C,o,f,q,N,n,c,d,j⟩
  cases D with
  |nil=>rw[gD.mp n]at q;simp at q
  |cons z x''=>
   cases C with
   |nil=>rw[gD.mp c]at q;simp at q
   |cons F y''=>
    obtain⟨u',p,rfl,Z,t⟩:=xQ.mp n;obtain⟨X,i,rfl,K,m⟩:=xQ.mp c;simp only[ĩ,List.cons.injEq,Prod.mk.injEq]at q;obtain⟨⟨rfl,rfl⟩,rfl⟩:=q;refine wB (he z (N z mF0) F _ _ _ Z K ?_);by_cases B:z=F
    .subst B;rw[dT0 rfl];simp only[Ķ,fT,iF];refine wP ⟨rfl,rfl,x'',y'',p,i,rfl,λk B=>N k (mO _ B),t,m,?_,by simpa using j⟩;rw[<-d];by_cases G:x''=y''
     .simp[G]
     .simp[G]
    .rw[dF0 B];simp only[ğ,if_true];have hf:decide (x=y)=false:=by rw[<-d];simp[B]
     rw[hf]at h;exact wB (wP (wP (wP h)))
 .rintro⟨r1,r2⟩ I ⟨W,rfl,D,C,o,f,q,N,n,c,d,j⟩;simp only at W;subst W;refine wP ?_
  have H:(xs.size==Y.size)=decide (x=y):=by
   rw[<-d, <-j]
   cases D with
   |nil=>
    rw[gD.mp n]
    cases C with
    |nil=>rw[gD.mp c];simp
    |cons F y''=>obtain⟨X,i,rfl,K,m⟩:=xQ.mp c;simp
   |cons z x''=>
    obtain⟨u',p,rfl,Z,t⟩:=xQ.mp n
    cases C with
    |nil=>rw[gD.mp c];simp
    |cons F y''=>obtain⟨X,i,rfl,K,m⟩:=xQ.mp c;simp at q
  show P (.done (.ret (.bool _))) I;rw[H];exact h
theorem MN: ∀{ks},vS ks<=n-> ∀k∈ks,qZ k<=n
 |[],_,k,hk=>by simp at hk
 |x::xs,hx,k,hk=>by
  rw[mX]at hx;rcases mC.mp hk with rfl|hk
  .lia
  .exact MN #[0] k hk
theorem YG: ∀ n {A}{E}{s}{x y}{u v}{Q},qZ x<=n->A.units+n<cLine->QD (mk prog w) s.heap x u->QD (mk prog w) s.heap y v->Q (decide (x=y)) s->wpAny (model prog w) A (eqBool u v) Q E s
 |n,A,E,s,.key a,.key b,u,v,Q,_,_,hx,hy,h=>(mk prog w).eqBool (jU.mp hx) (jU.mp hy) (by rw[Vg]at h;exact h)
 |n,A,E,s,.key a,.tup b,u,v,Q,_,hu,hx,hy,h=>by obtain⟨z,f,j⟩:=YF (jU.mp hx);obtain⟨l,o,_,m,rfl,k,i,d,_⟩:=jA.mp hy;rw[O8]at h;exact(JX f j ⟨o,k,i,m,d⟩ #[0]).2.1 prog w E Q h
 |n,A,E,s,.tup a,.key b,u,v,Q,_,hu,hx,hy,h=>by obtain⟨z,f,j⟩:=YF (jU.mp hy);obtain⟨l,o,_,m,rfl,k,i,d,_⟩:=jA.mp hx;rw[O9]at h;exact(JX f j ⟨o,k,i,m,d⟩ #[0]).1 prog w E Q h
 |0,A,E,s,.tup a,.tup b,u,v,Q,d,_,hx,hy,h=>by rw[fO]at d;lia
 |n+1,A,E,s,.tup x,.tup y,u,v,Q,d,hu,hx,hy,h=>by
  obtain⟨a,_,_,_,r,_⟩:=jA.mp hx;obtain⟨b,_,_,_,t,_⟩:=jA.mp hy;subst r t;rw[fO]at d;rw[P4]at h;unfold eqBool
  try with_reducible refine ú ?_
  show wpAny _ _ _ Q E s;by_cases c:(Value.ref a==Value.ref b)=true
  .rw[iP c];have e:=by have:=eq_of_beq c;injection this
   subst e;have:=NK.tup.inj (UF hx hy);subst this;exact wB (Ģ (wP (by simpa using h)))
  .rw[iN c]
   refine wB (wpAny_richCompare_same_room (GD hx) (GD hy) F.slot_tuple_eq
    (ð F.slot_tuple_eq (GD hx) F.entry_tuple_eq (Je (λq p G u v Q D B C=>YG n (MN #[0] q p) #[0] D B C) hx hy ⟨_,rfl,(λe=>nomatch e),Ă h⟩) (F.args_tuple_eq_2 _ _)) #[0])
theorem Eg: ∀ n m {A}{E}{s}{x}{u}{Q},qZ x<=n->n<m->QD (mk prog w) s.heap x u->Q true s->wpAny (model prog w) A (eqIsQuiet m u) Q E s
 |n,m,A,E,s,.key k,u,Q,_,_,hx,h=>by rw[eqIsQuiet_byValue m ((mk prog w).byValue _ _ (jU.mp hx))];exact wP h
 |0,m,A,E,s,.tup ks,u,Q,c,_,hx,h=>by rw[fO]at c;lia
 |n+1,0,A,E,s,.tup ks,u,Q,c,hm,hx,h=>by lia
 |n+1,m+1,A,E,s,.tup ks,u,Q,hdp,hm,hx,h=>by
  obtain⟨a,o,_,j,rfl,p,y,c,hi⟩:=jA.mp hx;have t:s.TypeIs (.ref a) "tuple":=⟨o,p,y⟩
  rw[fO]at hdp;unfold eqIsQuiet;refine wB (Ĩ t F.slot_tuple_eq.lookup ?_);refine wB (ı t isSubtype_tuple_tuple ?_);refine wB (Č p c ?_);refine wB ?_;rw[<-Array.forIn_toList];refine wpAny_forIn_list _ (λrest r i=>r.1=none/\i=s/\ ∃left,(∀k∈left,k∈ks)/\vR _ s.heap left rest) _ ?_ ?_ _ _ ⟨rfl,rfl,ks,λk d=>d,hi⟩
  .rintro v rest r i ⟨q,rfl,left,b,f⟩
   cases left with
   |nil=>rw[gD]at f;cases f
   |cons k left=>
    obtain⟨C,H,e,B,z⟩:=xQ.mp f;cases e;refine wB (Eg n m (MN #[0] k (b k mF0)) #[0] B ?_);exact wP ⟨rfl,rfl,left,λk d=>b k (mO _ d),z⟩
  .rintro⟨G,D⟩ i ⟨q,rfl,_⟩;subst q;exact wP h
end
def sP(prog)(w):HeapKind prog w NK where
 is:=λh k a=>QD (mk prog w) h k (.ref a)/\qZ k<=4
 hash:=GC (mk prog w)
 draws:=ML
 room:=λA=>A.units+4<cLine
 inj:=λhx hy=>UF hx.1 hy.1
 keeps:=λx ho hd hs=>⟨YD (λa o' items n e q=>(hs.2 a λz=>by subst z;rw[ho]at e;cases e;rw[hd]at q;cases q).trans e) x.1,x.2⟩
 pyHash:=λhu hk h=>YE 4 hk.2 hu hk.1 h
 eqBool:=λhu hx hy h=>YG 4 hx.2 hu hx.1 hy.1 h
 quiet:=λhk h=>Eg 4 8 hk.2 ↑3 hk.1 h
noncomputable def DN(P:ļ)(w:World)(a:Addr)(xs:List (NK×Addr×Ļ)):HO:=
 .ext λh=>xs.length<=sizeLine/\(a==sysModules)=false/\ ∃o es b,h.get? a=some o/\o.ExactDict/\o.data=.dict es b/\es.toList=xs.map (entryOfKey (sP P w))/\(xs.map (·.1)).Nodup
end M
end L2
namespace L2
open PySem PySem.Spec PyProof.Rows
def Fly(h:Heap)(e T:Addr)(cls:Ļ)(d:Option Addr)(i:Ļ):Prop:=
 ∃a b c f,h.get? e=some a/\a.cls=cls/\a.dict=d/\a.data=.fields b/\b[1]? =some (.ref T)/\T≠e/\h.get? T=some c/\c.data=.fields f/\f[3]? =some i/\b[2]? =some .none
structure Mvd(fs:B9)(e T:Addr)(h h':Heap):Prop where
 keep: ∀b o,b≠e->b≠T->b∉fs->h.get? b=some o->h'.get? b=some o
 slot: ∀b o,b≠e->b≠T->h.get? b=some o-> ∃sl,h'.get? b=some {o with slots:=sl}
 there: ∀b o,h.get? b=some o-> ∃o',h'.get? b=some o'
def Mvd.new(a:Mvd fs e T h d)(n:h.get? T'=none)(b:Mvd fs e T' d f):Mvd fs e T h f:=by
 have ne: ∀c o,h.get? c=some o->c≠T':=λc o q z=>by rw[z,n]at q;cases q
 exact⟨λc o d f k q=>b.keep c o d (ne c o q) k (a.keep c o d f k q),λc o d f q=>by obtain⟨sl,j⟩:=a.slot c o d f q;obtain⟨i,m⟩:=b.slot c _ d (ne c o q) j;exact⟨i,m⟩,λc o q=>let ⟨p,j⟩:=a.there c o q;b.there c p j⟩
def CXe(P:ļ)(w:World):Io:=λa H s E x b=> ∃e T C d H',x=.ref e/\b.os=s.os/\AllBare b.gens/\Un (Ie a) [] H H' s.heap b.heap/\HOk P w H' b.heap/\Fly b.heap e T (.ref C) d .none/\
 s.heap.get? e=none/\s.heap.get? T=none/\H' e=none/\H' T=none/\E (.ref C) d H'
noncomputable abbrev zEU:List Value:=[.type "ValueError",.type "Exception",.type "BaseException",.type "object"]
noncomputable def qn:List Str:=["__class__","__getattribute__","__getattr__","__setattr__","place","number"]
end L2
namespace L2
namespace M
open PySem PySem.Spec PyProof.Rows
inductive MV where
 |non|bl (b:Bool)|int (i:Int)|str (x:Db)|tup (ds:List MV)|scr (ds:List MV)|loc (l:Nat)|typ (n:String)|obj (c:Str) (ns:K0) (ds:List MV)
abbrev U0:=List MV
abbrev V0:=Option MV
abbrev X0:=List (Int×List MV)
abbrev Y0:=List (Nat×List MV)
abbrev Z0:=List (MV×MV)
instance:Inhabited MV:=⟨.non⟩
inductive MO where
 |lst (ds:U0)|dic (kvs:Z0)|ins (c:Str) (fs:List (Str×MV))|rcd (c:Str) (fs:List (Str×MV))|fdc (kvs:Z0)
abbrev Sto:=List MO
def SqF(K:R0)(H:Hp)(a:Addr)(xs:List V):Prop:=
 (∃o,H a=some (.frz o (.lst xs)))\/
  ∃(o:Obj)(b:B0)(n:Nat),K.lookup a=some o/\o.cls=.type "list"/\o.dict=none/\o.data=.seq b n/\b.size<=sizeLine/\Vals xs b.toList
def SqF.l{K:R0}(h:SqF K H a xs):SqL K H a xs:=by
 rcases h with⟨o,h⟩|h
 .exact .inl (.inr ⟨o,h⟩)
 .exact .inr h
mutual
def Den(K:R0)(α:B9)(H:Hp):MV->V->Prop
 |.non,v=>v=.non
 |.bl b,v=>v=.bl b
 |.int i,v=>v=.int i
 |.str x,v=>v=.str (bW x)
 |.tup ds,v=> ∃a d,v=.ref a/\SqT K H a d/\DenL K α H ds d
 |.scr ds,v=> ∃a d,v=.ref a/\SqF K H a d/\DenL K α H ds d
 |.loc l,v=> ∃a,v=.ref a/\α[l]? =some a
 |.typ n,v=>v=.ty n
 |.obj c ns ds,v=> ∃a C e d o,v=.ref a/\H a=some (.frz o (.ins C e (ns.zip d)))/\PySem.W.nsIn K mainGlobals c=some (some (.ref C))/\(PySem.W.clsIn K C).map (·.name)=some c/\ns.length=d.length/\DenL K α H ds d
def DenL(K:R0)(α:B9)(H:Hp):List MV->List V->Prop
 |[],vs=>vs=[]
 |d::ds,vs=> ∃v r,vs=v::r/\Den K α H d v/\DenL K α H ds r
end
structure Ex0(α:B9)(H:Hp)(α':B9)(H':Hp):Prop where
 pre: ∃t,α'=α++t
 tup: ∀b xs,H b=some (.tup xs)->H' b=some (.tup xs)
 frz: ∀b o u,H b=some (.frz o u)->H' b=some (.frz o u)
structure Ext(α:B9)(H:Hp)(α':B9)(H':Hp):Prop extends Ex0 α H α' H' where
 new: ∀b∈α',b∈α\/H b=none
 keep: ∀b o,H b=some o->b∉α->H' b=some o
 has: ∀b o,H b=some o-> ∃o',H' b=some o'
section
variable{K:R0}{α α':B9}{H H':Hp}
def Ext.refl(α)(H):Ext α H α H:=⟨⟨⟨[],by simp⟩,λ_ _ h=>h,λ_ _ _ h=>h⟩,λb h=>.inl h,λ_ _ h _=>h,λ_ o h=>⟨o,h⟩⟩
def Ex0.grow(α t)(H):Ex0 α H (α++t) H:=⟨⟨t,rfl⟩,λ_ _ h=>h,λ_ _ _ h=>h⟩
def Ext.free(x:Ext α H α' H')(h:H' b=none):H b=none:=by
 cases e:H b with
 |none=>rfl
 |some o=>obtain⟨a,h'⟩:=x.has b o e;rw[h]at h';cases h'
def Ext.out(x:Ext α H α' H')(h:H b=some o)(n:b∉α):b∉α':=λz=>by
 rcases x.new b z with z|z
 .exact n z
 .rw[h]at z;cases z
def Ext.trans(x:Ext α H α' H')(y:Ext α' H' α'' H''):Ext α H α'' H'' where
 pre:=by obtain⟨t,rfl⟩:=x.pre;obtain⟨u,rfl⟩:=y.pre;exact⟨_,by rw[aA]⟩
 new:=λb h=>(y.new b h).elim (x.new b) λz=>.inr (x.free z)
 keep:=λb o h n=>y.keep b o (x.keep b o h n) (x.out h n)
 has:=λb o h=>let ⟨o',h'⟩:=x.has b o h;y.has b o' h'
 tup:=λb xs h=>y.tup b xs (x.tup b xs h)
 frz:=λb o u h=>y.frz b o u (x.frz b o u h)
def Ex0.at(x:Ex0 α H α' H'){l:Nat}(h:α[l]? =some a):α'[l]? =some a:=by obtain⟨t,rfl⟩:=x.pre;rw[á (gS.mp h).1];exact h
def Ex0.sqT(x:Ex0 α H α' H')(q:SqT K H a vs):SqT K H' a vs:=by
 rcases q with(q|⟨o,q⟩)|q
 .exact .inl (.inl (x.tup a vs q))
 .exact .inl (.inr ⟨o,x.frz a o _ q⟩)
 .exact .inr q
def Ex0.sqF(x:Ex0 α H α' H')(q:SqF K H a vs):SqF K H' a vs:=by
 rcases q with⟨o,q⟩|q
 .exact .inl ⟨o,x.frz a o _ q⟩
 .exact .inr q
mutual
theorem Den.ex0(x:Ex0 α H α' H'): ∀{d:MV}{v:V},Den K α H d v->Den K α' H' d v
 |.non,_,q=>by unfold Den at q ⊢; exact q
 |.bl _,_,q=>by unfold Den at q ⊢; exact q
 |.int _,_,q=>by unfold Den at q ⊢; exact q
 |.str _,_,q=>by unfold Den at q ⊢; exact q
 |.typ _,_,q=>by unfold Den at q ⊢; exact q
 |.obj c ns ds,_,q=>by unfold Den at q ⊢;obtain⟨a,C,f,b,o,e,h,i,k,j,l⟩:=q;exact⟨a,C,f,b,o,e,x.frz a _ _ h,i,k,j,DenL.ex0 x l⟩
 |.loc _,_,q=>by unfold Den at q ⊢;obtain⟨a,e,h⟩:=q;exact⟨a,e,x.at h⟩
 |.tup ds,_,q=>by unfold Den at q ⊢;obtain⟨a,b,e,s,l⟩:=q;exact⟨a,b,e,x.sqT s,DenL.ex0 x l⟩
 |.scr ds,_,q=>by unfold Den at q ⊢;obtain⟨a,b,e,s,l⟩:=q;exact⟨a,b,e,x.sqF s,DenL.ex0 x l⟩
theorem DenL.ex0(x:Ex0 α H α' H'): ∀{ds:U0}{vs:List V},DenL K α H ds vs->DenL K α' H' ds vs
 |[],_,q=>by unfold DenL at q ⊢; exact q
 |d::ds,_,q=>by unfold DenL at q ⊢;obtain⟨v,r,e,a,l⟩:=q;exact⟨v,r,e,Den.ex0 x a,DenL.ex0 x l⟩
end
def Den.ext(x:Ext α H α' H')(q:Den K α H d v):Den K α' H' d v:=q.ex0 x.toEx0
def DenL.ext(x:Ext α H α' H')(q:DenL K α H d v):DenL K α' H' d v:=q.ex0 x.toEx0
theorem DA:Den K α H .non .non:=by unfold Den;rfl
theorem gP(b):Den K α H (.bl b) (.bl b):=by unfold Den;rfl
theorem jV(i):Den K α H (.int i) (.int i):=by unfold Den;rfl
theorem lV(x):Den K α H (.str x) (.str (bW x)):=by unfold Den;rfl
theorem Eh(n):Den K α H (.typ n) (.ty n):=by unfold Den;rfl
def pW(s:SqT K H a vs)(l:DenL K α H ds vs):Den K α H (.tup ds) (.ref a):=by unfold Den;exact⟨a,vs,rfl,s,l⟩
def Ei(s:SqF K H a vs)(l:DenL K α H ds vs):Den K α H (.scr ds) (.ref a):=by unfold Den;exact⟨a,vs,rfl,s,l⟩
def eY(h:α[l]? =some a):Den K α H (.loc l) (.ref a):=by unfold Den;exact⟨a,rfl,h⟩
def iH(d:Den K α H .non v):v=.non:=by unfold Den at d;exact d
def sQ(d:Den K α H (.bl b) v):v=.bl b:=by unfold Den at d;exact d
def wQ(d:Den K α H (.int i) v):v=.int i:=by unfold Den at d;exact d
def jG(d:Den K α H (.str x) v):v=.str (bW x):=by unfold Den at d;exact d
def Vh(h:H a=some (.frz o (.ins C dx (ns.zip vs))))(e:PySem.W.nsIn K mainGlobals c=some (some (.ref C)))(d:(PySem.W.clsIn K C).map (·.name)=some c)(b:ns.length=vs.length)(l:DenL K α H ds vs):Den K α H (.obj c ns ds) (.ref a):=by unfold Den;exact⟨a,C,dx,vs,o,rfl,h,e,d,b,l⟩
def aK(d:Den K α H (.obj c ns ds) v): ∃a C e b o,v=.ref a/\H a=some (.frz o (.ins C e (ns.zip b)))/\PySem.W.nsIn K mainGlobals c=some (some (.ref C))/\(PySem.W.clsIn K C).map (·.name)=some c/\ns.length=b.length/\DenL K α H ds b:=by unfold Den at d;exact d
def iI(d:Den K α H (.typ n) v):v=.ty n:=by unfold Den at d;exact d
def wD(d:Den K α H (.tup ds) v): ∃a b,v=.ref a/\SqT K H a b/\DenL K α H ds b:=by unfold Den at d;exact d
def aL(d:Den K α H (.scr ds) v): ∃a b,v=.ref a/\SqF K H a b/\DenL K α H ds b:=by unfold Den at d;exact d
def dQ(d:Den K α H (.loc l) v): ∃a,v=.ref a/\α[l]? =some a:=by unfold Den at d;exact d
theorem xL:DenL K α H [] []:=by unfold DenL;rfl
def yT(a:Den K α H d v)(l:DenL K α H ds vs):DenL K α H (d::ds) (v::vs):=by unfold DenL;exact⟨v,vs,rfl,a,l⟩
def DenL.uncons(l:DenL K α H (d::ds) vs): ∃v r,vs=v::r/\Den K α H d v/\DenL K α H ds r:=by unfold DenL at l;exact l
def DenL.isnil(l:DenL K α H [] vs):vs=[]:=by unfold DenL at l;exact l
theorem DenL.length: ∀{ds}{vs},DenL K α H ds vs->vs.length=ds.length
 |[],_,q=>by rw[q.isnil];rfl
 |d::ds,_,q=>by obtain⟨v,r,rfl,_,l⟩:=q.uncons;rw[lC,lC,DenL.length l]
theorem DenL.append: ∀{ds es}{vs us},DenL K α H ds vs->DenL K α H es us->DenL K α H (ds++es) (vs++us)
 |[],_,_,_,q,l=>by rw[q.isnil];exact l
 |d::ds,_,_,_,q,l=>by obtain⟨v,r,rfl,a,b⟩:=q.uncons;exact yT a (DenL.append b l)
theorem DenL.drop: ∀{ds}{vs} n ,DenL K α H ds vs->DenL K α H (ds.drop n) (vs.drop n)
 |_,_,0,q=>q
 |[],_,n+1,q=>by rw[q.isnil];exact xL
 |d::ds,_,n+1,q=>by obtain⟨v,r,rfl,_,l⟩:=q.uncons;exact DenL.drop n l
theorem DenL.take: ∀{ds}{vs} n ,DenL K α H ds vs->DenL K α H (ds.take n) (vs.take n)
 |_,_,0,q=>xL
 |[],_,n+1,q=>by rw[q.isnil];exact xL
 |d::ds,_,n+1,q=>by obtain⟨v,r,rfl,a,l⟩:=q.uncons;exact yT a (DenL.take n l)
theorem DenL.reverse: ∀{ds}{vs},DenL K α H ds vs->DenL K α H ds.reverse vs.reverse
 |[],_,q=>by rw[q.isnil];exact xL
 |d::ds,_,q=>by obtain⟨v,r,rfl,a,l⟩:=q.uncons;rw[reverse_cons,reverse_cons];exact(DenL.reverse l).append (yT a xL)
theorem DenL.set(a:Den K α H d v): ∀{ds}{vs} n ,DenL K α H ds vs->DenL K α H (ds.set n d) (vs.set n v)
 |[],_,_,q=>by rw[q.isnil];exact xL
 |e::ds,_,0,q=>by obtain⟨c,r,rfl,b,l⟩:=q.uncons;exact yT a l
 |e::ds,_,n+1,q=>by obtain⟨c,r,rfl,b,l⟩:=q.uncons;exact yT b (DenL.set a n l)
theorem DenL.get: ∀{ds}{vs}{i:Nat}{v},DenL K α H ds vs->vs[i]? =some v-> ∃d,ds[i]? =some d/\Den K α H d v
 |[],_,_,_,q,e=>by rw[q.isnil]at e;simp at e
 |d::ds,_,0,_,q,e=>by obtain⟨v,r,rfl,a,l⟩:=q.uncons;simp at e;subst e;exact⟨d,rfl,a⟩
 |d::ds,_,i+1,_,q,e=>by obtain⟨v,r,rfl,a,l⟩:=q.uncons;obtain⟨c,f,b⟩:=DenL.get l (by simpa using e);exact⟨c,by simpa using f,b⟩
def DenL.at{i:Nat}(q:DenL K α H ds vs)(e:ds[i]? =some d): ∃v,vs[i]? =some v/\Den K α H d v:=by
 have hi:=(gS.mp e).1;have a:i<vs.length:=by rw[q.length];exact hi
 obtain⟨f,b,c⟩:=q.get (gE0 a);rw[e]at b;cases b;exact⟨_,gE0 a,c⟩
def DenL.cut(q:DenL K α H ds vs)(lo hi):DenL K α H (aG ds lo hi) (Iq vs lo hi):=by unfold aG Iq;rw[q.length];exact(q.drop _).take _
theorem IG: ∀(a:Za),DenL K α H (a.map MV.int) (a.map V.int)
 |[]=>xL
 |b::bs=>yT (jV b) (IG bs)
end
structure Gm where
 K:PySem.W.Frag
 mg:Str->Option Ļ
 P:ļ
 w:World
abbrev _root_.L2.Cx.g(X:Cx):Gm:=⟨X.K,X.mg,X.prog,X.w⟩
inductive DenF(K:R0)(α:B9)(H:Hp):List (Str×MV)->List (Str×V)->Prop
 |nil:DenF K α H [] []
 |cons {x:Str} {d:MV} {v:V} {fs gs}:Den K α H d v->DenF K α H fs gs->DenF K α H ((x,d)::fs) ((x,v)::gs)
theorem DenF.ex0{K:R0}(x:Ex0 α H α' H'): ∀{fs gs},DenF K α H fs gs->DenF K α' H' fs gs
 |_,_,.nil=>.nil
 |_,_,.cons a l=>.cons (a.ex0 x) (DenF.ex0 x l)
def KeyD:MV->Key->Prop
 |.int i,k=>k=.inl i
 |.str x,k=>k=.inr (bW x)
 |_,_=>False
inductive DenK(K:R0)(α:B9)(H:Hp):List (MV×MV)->List (Key×V)->Prop
 |nil:DenK K α H [] []
 |cons {k:MV} {k':Key} {d:MV} {v:V} {fs gs}:KeyD k k'->Den K α H d v->DenK K α H fs gs->DenK K α H ((k,d)::fs) ((k',v)::gs)
theorem DenK.ex0{K:R0}(x:Ex0 α H α' H'): ∀{fs gs},DenK K α H fs gs->DenK K α' H' fs gs
 |_,_,.nil=>.nil
 |_,_,.cons k a l=>.cons k (a.ex0 x) (DenK.ex0 x l)
mutual
def kN:MV->Option NK
 |.non=>some (.key none)
 |.int i=>some (.key (some (.inl i)))
 |.str x=>some (.key (some (.inr (bW x))))
 |.tup ds=>(bX ds).map .tup
 |_=>none
def bX:List MV->Option (List NK)
 |[]=>some []
 |d::ds=>(kN d).bind λk=>(bX ds).map (k::·)
end
inductive DenN(K:R0)(α:B9)(H:Hp):List (MV×MV)->List (NK×Addr×Ļ)->Prop
 |nil:DenN K α H [] []
 |cons {k:MV} {nk:NK} {a:Addr} {d:MV} {v:V} {u:Ļ} {fs xs}:kN k=some nk->qZ nk<=4->Den K α H k (.ref a)->Den K α H d v->RelV v u->DenN K α H fs xs->DenN K α H ((k,d)::fs) ((nk,a,u)::xs)
theorem DenN.ex0{K:R0}(x:Ex0 α H α' H'): ∀{fs xs},DenN K α H fs xs->DenN K α' H' fs xs
 |_,_,.nil=>.nil
 |_,_,.cons k e a d r l=>.cons k e (a.ex0 x) (d.ex0 x) r (DenN.ex0 x l)
def ObD(g:Gm)(α:B9)(H:Hp)(a:Addr):MO->Prop
 |.lst ds=> ∃e,H a=some (.lst e)/\DenL g.K α H ds e
 |.dic kvs=>(∃i,H a=some (.dK i)/\DenK g.K α H kvs i)\/ ∃xs,H a=some (DN g.P g.w a xs)/\DenN g.K α H kvs xs
 |.ins c fs=> ∃C d,g.mg c=some (.ref C)/\DenF g.K α H fs d/\
   ∃b,H a=some (.frz b (.ext λh=>h.get? a=some b))/\b.cls=.ref C/\(fs=[]\/ ∃f j,b.dict=some f/\H f=some (.frz j (.xd d))/\ ∃e,b.data=.fields e)
 |.rcd c fs=> ∃C f d,PySem.W.nsIn g.K mainGlobals c=some (some (.ref C))/\H a=some (.ins C f d)/\DenF g.K α H fs d
 |.fdc kvs=> ∃b xs,H a=some (.frz b (DN g.P g.w a xs))/\DenN g.K α H kvs xs
def ObD.there(h:ObD g α H a o): ∃b,H a=some b/\(∀xs,b≠.tup xs)/\ ∀e u,b=.frz e u-> ∃f,u=.ext f:=by
 cases o with
 |lst ds=>obtain⟨d,h,_⟩:=h;exact⟨_,h,(λxs z=>by cases z),λ_ _ z=>by cases z⟩
 |dic ds=>
  rcases h with⟨d,h,_⟩|⟨d,h,_⟩
  .exact⟨_,h,(λxs z=>by cases z),λ_ _ z=>by cases z⟩
  .exact⟨_,h,(λxs z=>by cases z),λ_ _ z=>by cases z⟩
 |ins c ds=>
  obtain⟨_,_,_,_,_,h,_⟩:=h;exact⟨_,h,(λxs z=>by cases z),λ_ _ z=>by cases z;exact⟨_,rfl⟩⟩
 |rcd c ds=>obtain⟨_,_,_,_,h,_⟩:=h;exact⟨_,h,(λxs z=>by cases z),λ_ _ z=>by cases z⟩
 |fdc kvs=>obtain⟨_,_,h,_⟩:=h;exact⟨_,h,(λxs z=>by cases z),λ_ _ z=>by cases z;exact⟨_,rfl⟩⟩
def ObD.move(h:ObD g α H a o)(x:Ex0 α H α' H')(e:H' a=H a):ObD g α' H' a o:=by
 cases o with
 |lst ds=>obtain⟨b,h,l⟩:=h;exact⟨b,e.trans h,l.ex0 x⟩
 |dic ds=>
  rcases h with⟨b,h,l⟩|⟨b,h,l⟩
  .exact .inl ⟨b,e.trans h,l.ex0 x⟩
  .exact .inr ⟨b,e.trans h,l.ex0 x⟩
 |ins c ds=>
  obtain⟨C,d,m,l,i,h,p,n⟩:=h;exact⟨C,d,m,l.ex0 x,i,e.trans h,p,n.imp id λ⟨f,q,r,j,k⟩=>⟨f,q,r,x.frz _ _ _ j,k⟩⟩
 |rcd c ds=>obtain⟨C,f,d,m,h,l⟩:=h;exact⟨C,f,d,m,e.trans h,l.ex0 x⟩
 |fdc kvs=>obtain⟨i,xs,h,l⟩:=h;exact⟨i,xs,e.trans h,l.ex0 x⟩
structure Wd(g:Gm)(α:B9)(S:Sto)(H:Hp):Prop where
 len:α.length=↑0
 nd:α.Nodup
 obj: ∀(l:Nat)(a:Addr)(o:MO),α[l]? =some a->S[l]? =some o->ObD g α H a o
section
variable{H:Hp}
def Wd.at(w:Wd g α S H){l:Nat}(h:S[l]? =some o): ∃a,α[l]? =some a/\ObD g α H a o:=by
 have b:l<α.length:=by rw[w.len];exact(gS.mp h).1
 exact⟨α[l],gE0 b,w.obj l _ o (gE0 b) h⟩
def Wd.of(w:Wd g α S H){l:Nat}(h:α[l]? =some a): ∃o,S[l]? =some o/\ObD g α H a o:=by
 have b:l<S.length:=by rw[<-w.len];exact(gS.mp h).1
 exact⟨S[l],gE0 b,w.obj l a _ h (gE0 b)⟩
def Wd.mem(w:Wd g α S H)(h:a∈α): ∃b,H a=some b/\(∀xs,b≠.tup xs)/\ ∀c u,b=.frz c u-> ∃e,u=.ext e:=by obtain⟨l,d⟩:=getElem?_of_mem h;obtain⟨o,_,q⟩:=w.of d;exact q.there
def Wd.newx(w:Wd g α S H)(hp:H p=none):Ext α H α (jS H p o) where
 pre:=⟨[],by simp⟩
 new:=λb h=>.inl h
 keep:=λb o h _=>by rw[zU (yM h hp)];exact h
 has:=λb o h=>⟨o,by rw[zU (yM h hp)];exact h⟩
 tup:=λb o h=>by rw[zU (yM h hp)];exact h
 frz:=λb o u h=>by rw[zU (yM h hp)];exact h
def Wd.fresh(w:Wd g α S H)(a:H p=none):p∉α:=λz=>by obtain⟨_,h,_⟩:=w.mem z;rw[a]at h;cases h
def Wd.new(w:Wd g α S H)(b:H p=none):Wd g α S (jS H p o):=
 ⟨w.len,w.nd,λl a e c d=>(w.obj l a e c d).move (w.newx b).toEx0 (zU λz=>w.fresh b (by rw[<-z];exact î c))⟩
def Mo(h:H a=some ho)(n: ∀b u,ho≠.frz b u:=by intro _ _ z;cases z): ∀b u,H a≠some (.frz b u):=λb u z=>n b u (â (h.symm.trans z))
def Wd.writex(w:Wd g α S H){l:Nat}(h:α[l]? =some a)(nf: ∀ob u,H a≠some (.frz ob u)):Ext α H α (jS H a o) where
 pre:=⟨[],by simp⟩
 new:=λb h=>.inl h
 keep:=λb o e n=>by rw[zU λz=>n (by rw[z];exact î h)];exact e
 has:=λb o e=>by
  by_cases z:b=a
  .subst z;exact⟨_,yE⟩
  .exact⟨o,by rw[zU z];exact e⟩
 tup:=λb xs e=>by obtain⟨ho,h1,h2,_⟩:=w.mem (î h);rw[zU λz=>h2 xs (by subst z;rw[e]at h1;exact(â h1).symm)];exact e
 frz:=λb ob u e=>by rw[zU λz=>nf ob u (by rw[<-z];exact e)];exact e
def Wd.ne(w:Wd g α S H){l:Nat}(h:α[l]? =some a)(h':α[m]? =some b)(n:l≠m):a≠b:=by rintro rfl;obtain⟨f,d⟩:=gS.mp h;obtain⟨e,c⟩:=gS.mp h';exact n ((getElem_inj w.nd).mp (d.trans c.symm))
def Wd.write(w:Wd g α S H)(h:α[l]? =some a)(nf: ∀ob u,H a≠some (.frz ob u))(q:ObD g α (jS H a o) a ob):Wd g α (S.set l ob) (jS H a o) where
 len:=by rw[ÿ];exact w.len
 nd:=w.nd
 obj:=λm b ob' h1 h2=>by
  by_cases e:l=m
  .subst e;rw[h]at h1;have hl:l<S.length:=by rw[<-w.len];exact(gS.mp h).1
   rw[ī hl]at h2;rw[<-â h1, <-â h2];exact q
  .rw[ĥ e]at h2;exact(w.obj m b ob' h1 h2).move (w.writex h nf).toEx0 (zU (w.ne h1 h λz=>e z.symm))
def Wd.enterx(w:Wd g α S H)(x:Ext α0 H0 α H)(h0:H0 b=none)(n:b∉α):Ext α0 H0 (α++[b]) H where
 pre:=let ⟨t,e⟩:=x.pre;⟨_,by rw[e,aA]⟩
 new:=λc hc=>(å.mp hc).elim (x.new c) λz=>.inr (by rw[mS.mp z];exact h0)
 keep:=x.keep
 has:=x.has
 tup:=x.tup
 frz:=x.frz
theorem Wd.enter(w:Wd g α S H)(h:H b=some (.lst vs))(n:b∉α)(l:DenL g.K α H ds vs):Wd g (α++[b]) (S++[.lst ds]) H where
 len:=by rw[lA,lA,w.len];rfl
 nd:=Ĥ.mpr ⟨w.nd,by simp,λa ha c hc=>by rw[mS.mp hc];rintro rfl;exact n ha⟩
 obj:=λm a o h1 h2=>by
  by_cases hm:m<α.length
  .rw[á hm]at h1;rw[á (by rw[<-w.len];exact hm)]at h2;exact(w.obj m a o h1 h2).move (Ex0.grow α [b] H) rfl
  .have hm':m=α.length:=by
    have:=(gS.mp h1).1;rw[lA,lS]at this
    lia
   subst hm';rw[é (à _),sub_self]at h1;rw[é (by rw[w.len];exact à _),w.len,sub_self]at h2;cases h1;cases h2;exact⟨vs,h,l.ex0 (Ex0.grow α [b] H)⟩
end
inductive R(β:Type) where
 |ok (b:β) (S:Sto)|exc (c:Str) (fs:List (Str×MV)) (S:Sto)|no
def R.bind:R β->(β->Sto->R γ)->R γ
 |.ok b S,k=>k b S
 |.exc c fs S,_=>.exc c fs S
 |.no,_=>.no
theorem R.bind_ok(b)(S)(k:β->Sto->R γ):(R.ok b S).bind k=k b S:=rfl
inductive Er where
 |val (d:MV)|new (ds:U0)
instance:Inhabited Er:=⟨.val .non⟩
def DenX(K:R0)(α:B9)(H:Hp):Er->V->Prop
 |.val d,v=>Den K α H d v
 |.new ds,v=> ∃b a,v=.ref b/\H b=some (.lst a)/\b∉α/\DenL K α H ds a
def DenE(K:R0)(H:Hp)(α':B9)(H':Hp)(r:Er)(v:V):Prop:=DenX K α' H' r v/\match r with |.new _=> ∀a,v=.ref a->H a=none|_=>True
section
variable{K:R0}
def DenX.ext(x:Ext α H α' H'): ∀{r}{v},DenX K α H r v->DenX K α' H' r v
 |.val d,_,q=>Den.ext x q
 |.new ds,_,⟨b,vs,e,h,n,l⟩=>⟨b,vs,e,x.keep b _ h n,x.out h n,l.ext x⟩
def DenE.val(q:Den K α' H' d v):DenE K H α' H' (.val d) v:=⟨q,trivial⟩
def DenE.back(c: ∀b,H b=none->H0 b=none)(q:DenE K H α' H' r v):DenE K H0 α' H' r v:=by
 refine⟨q.1,?_⟩
 cases r with
 |new ds=>exact λa e=>c a (q.2 a e)
 |_=>trivial
def DenE.ext(x:Ext α' H' α'' H'')(q:DenE K H α' H' r v):DenE K H α'' H'' r v:=⟨q.1.ext x,q.2⟩
end
section
variable{K:R0}
def rA(d:DenX K α H (.val .non) v):v=.non:=iH (K:=K) (α:=α) (H:=H) d
def JY(d:DenX K α H (.val (.bl b)) v):v=.bl b:=sQ (K:=K) (α:=α) (H:=H) d
def wG(d:DenX K α H (.val (.int b)) v):v=.int b:=wQ (K:=K) (α:=α) (H:=H) d
def dR(d:DenX K α H (.val (.str b)) v):v=.str (bW b):=jG (K:=K) (α:=α) (H:=H) d
def Mp(d:DenX K α H (.val (.typ b)) v):v=.ty b:=iI (K:=K) (α:=α) (H:=H) d
def P5(d:DenX K α H (.val (.obj c ns ds)) v): ∃a C e b o,v=.ref a/\H a=some (.frz o (.ins C e (ns.zip b)))/\PySem.W.nsIn K mainGlobals c=some (some (.ref C))/\(PySem.W.clsIn K C).map (·.name)=some c/\ns.length=b.length/\DenL K α H ds b:=aK d
def iK(d:DenX K α H (.val (.tup ds)) v): ∃a b,v=.ref a/\SqT K H a b/\DenL K α H ds b:=wD d
def MP(d:DenX K α H (.val (.scr ds)) v): ∃a b,v=.ref a/\SqF K H a b/\DenL K α H ds b:=aL d
def iL(d:DenX K α H (.val (.loc l)) v): ∃a,v=.ref a/\α[l]? =some a:=dQ (K:=K) (H:=H) d
end
noncomputable def JZ:List Er->List V->List Addr
 |.new _::rs,.ref b::vs=>b::JZ rs vs
 |_::rs,_::vs=>JZ rs vs
 |_,_=>[]
inductive ArgsE(K:R0)(H:Hp)(α':B9)(H':Hp):List Er->List V->Prop
 |nil:ArgsE K H α' H' [] []
 |cons {r v rs vs}:DenE K H α' H' r v->(∀ds b,r=.new ds->v=.ref b->b∉JZ rs vs)->ArgsE K H α' H' rs vs->ArgsE K H α' H' (r::rs) (v::vs)
theorem ArgsE.nones{K:R0}: ∀{rs vs},ArgsE K H α' H' rs vs-> ∀b∈JZ rs vs,H b=none
 |_,_,.nil=>λb h=>by simp[JZ]at h
 |.val d::_,v::_,.cons a n l=>λb h=>ArgsE.nones l b (by simpa [JZ]using h)
 |.new ds::_,v::_,.cons a n l=>λb h=>by
  obtain⟨c,vs,rfl,_⟩:=a.1;rcases mC.mp h with rfl|h
  .exact a.2 _ rfl
  .exact ArgsE.nones l b h
theorem ArgsE.ext{K:R0}(x:Ext α' H' α'' H''): ∀{rs vs},ArgsE K H α' H' rs vs->ArgsE K H α'' H'' rs vs
 |_,_,.nil=>.nil
 |_,_,.cons a n l=>.cons (a.ext x) n (ArgsE.ext x l)
theorem ArgsE.back{K:R0}(c: ∀b,H b=none->H0 b=none): ∀{rs vs},ArgsE K H α' H' rs vs->ArgsE K H0 α' H' rs vs
 |_,_,.nil=>.nil
 |_,_,.cons a n l=>.cons (a.back c) n (ArgsE.back c l)
theorem ArgsE.length{K:R0}: ∀{rs vs},ArgsE K H α' H' rs vs->vs.length=rs.length
 |_,_,.nil=>rfl
 |_,_,.cons _ _ l=>by rw[lC,lC,ArgsE.length l]
class Dn (β:Type) (τ:outParam Type) where
 d:Gm->Hp->List Addr->Sto->Hp->β->τ->Prop
 back: ∀{g:Gm}{H H0:Hp}{α':B9}{S':Sto}{H':Hp}{b:β}{u:τ},(∀b,H b=none->H0 b=none)->d g H α' S' H' b u->d g H0 α' S' H' b u
instance:Dn Er V:=⟨λg H α' _ H' r v=>DenE g.K H α' H' r v,λa q=>q.back a⟩
instance:Dn Bool Bool:=⟨λ_ _ _ _ _ b u=>u=b,λ_ q=>q⟩
instance:Dn (List Er) (List V):=⟨λg H α' _ H' r v=>ArgsE g.K H α' H' r v,λa q=>q.back a⟩
instance:Dn (Option Int) (Option Int):=⟨λ_ _ _ _ _ b u=>u=b,λ_ q=>q⟩
abbrev XW:=Str->List (Str×MV)->Sto->List Addr->Hp->Prop
abbrev W0:XW:=λ_ _ _ _ _=>False
def Post[Dn β τ](g:Gm)(W:XW)(α:B9)(H:Hp):R β->(τ->Hp->Prop)->Prop
 |.ok b S,Q=> ∀u α' H',Ext α H α' H'->Wd g α' S H'->Dn.d g H α' S H' b u->Q u H'
 |.exc c fs S,_=> ∀α' H',Ext α H α' H'->Wd g α' S H'->W c fs S α' H'
 |.no,_=>False
section
variable[Dn β τ][Dn γ υ]
def Post.shift(x:Ext α H α' H'): ∀{m:R β}{Q},Post g W α H m Q->Post g W α' H' m Q
 |.ok b S,Q,q=>λu a e d f i=>q u a e (x.trans d) f (Dn.back (λb h=>x.free h) i)
 |.exc c fs S,_,q=>λa e d f=>q a e (x.trans d) f
 |.no,_,q=>q
def Post.bind{k:β->Sto->R γ}(q:Post g W α H (m.bind k) Q)
  (f: ∀u b h a e,m=.ok b h->Ext α H a e->Wd g a h e->Dn.d g H a h e b u->Post g W α H (k b h) Q->Q' u e):Post g W α H m Q':=by
 cases m with
 |ok b S=>exact λu a e x w d=>f u b S a e rfl x w d q
 |exc c fs S=>exact q
 |no=>exact q
def Post.here{b:β}(q:Post g W α H (.ok b S) Q)(w:Wd g α S H)(d:Dn.d g H α S H b u):Q u H:=q u α H (Ext.refl α H) w d
end
def Post.val(q:Post g W α H (.ok (Er.val d) S) Q)(w:Wd g α S H)(k:Den g.K α H d v):Q v H:=q.here w (DenE.val k)
def Post.newl(q:Post g W α H (.ok (Er.new ds) S) Q)(w:Wd g α S H)(b:H p=none)(l:DenL g.K α H ds vs):Q (.ref p) (jS H p (.lst vs)):=
 q _ α _ (w.newx b) (w.new b) ⟨⟨p,vs,rfl,yE,w.fresh b,l.ext (w.newx b)⟩,λa e=>by cases e;exact b⟩
def Post.newt(q:Post g W α H (.ok (Er.val (.tup ds)) S) Q)(w:Wd g α S H)(a:H p=none)(l:DenL g.K α H ds vs):Q (.ref p) (jS H p (.tup vs)):=
 q _ α _ (w.newx a) (w.new a) (.val (pW (.of yE) (l.ext (w.newx a))))
abbrev Rho:=List (Option MV)
structure Slots(K:R0)(α:B9)(H:Hp)(ρ:Rho)(σ:St):Prop where
 len:σ.length=ρ.length
 slot: ∀(i:Nat)(d:MV),ρ[i]? =some (some d)-> ∃v,σ[i]? =some (some v)/\Den K α H d v
section
variable{K:R0}
def Slots.ex0(q:Slots K α H ρ σ)(x:Ex0 α H α' H'):Slots K α' H' ρ σ:=⟨q.len,λi d e=>let ⟨v,b,a⟩:=q.slot i d e;⟨v,b,a.ex0 x⟩⟩
def Slots.ext(q:Slots K α H ρ σ)(x:Ext α H α' H'):Slots K α' H' ρ σ:=q.ex0 x.toEx0
theorem Vi{α:Type}{l:List α}{x y:α}(h:(l.set i x)[j]? =some y):(j=i/\y=x/\i<l.length)\/(j≠i/\l[j]? =some y):=by
 by_cases a:i=j
 .subst a;by_cases b:i<l.length
  .rw[ī b]at h;exact .inl ⟨rfl,(â h).symm,b⟩
  .rw[Ġ (by rw[ÿ];lia)]at h;cases h
 .rw[ĥ a]at h;exact .inr ⟨λz=>a z.symm,h⟩
def Slots.set(q:Slots K α H ρ σ)(h:Den K α H d v):Slots K α H (ρ.set i (some d)) (σ.set i (some v)):=by
 refine⟨by rw[ÿ,ÿ];exact q.len,λj e z=>?_⟩;rcases Vi z with⟨rfl,e',hl⟩|⟨hj,e'⟩
 .cases e';exact⟨v,by rw[ī (by rw[q.len];exact hl)],h⟩
 .obtain⟨u,b,a⟩:=q.slot j e e';exact⟨u,by rw[ĥ (Ne.symm hj)];exact b,a⟩
end
def Jd(X:Cx)(W:XW)[Dn β τ](P:(St->Hp->(τ->Hp->Prop)->Prop)->Prop)(f:Rho->Sto->R β):Prop:=
 ∃t,P t/\ ∀α a S σ H Q,Wd X.g α S H->Slots X.K α H a σ->Post X.g W α H (f a S) Q->t σ H Q
abbrev yI(X:Cx)(W:XW)(e:Expr)(f:Rho->Sto->R Er):Prop:=Jd X W (PE X e) f
abbrev MQ(X:Cx)(W:XW)(e:Expr)(f:Rho->Sto->R Bool):Prop:=Jd X W (PT X e) f
abbrev P6(X:Cx)(W:XW)(e:Expr)(f:Rho->Sto->R Bool):Prop:=Jd X W (PW X e) f
abbrev MR(X:Cx)(W:XW)(es:Q0)(f:Rho->Sto->R (List Er)):Prop:=Jd X W (PA X es) f
abbrev zBB(X:Cx)(W:XW)(e:Option Expr)(f:Rho->Sto->R (Option Int)):Prop:=Jd X W (PO X e) f
section
variable{X:Cx}{W:XW}{b c:Expr}{f g:Rho->Sto->R Er}{pos:Pos}
noncomputable def Vj:Option (Option MV)->Sto->R Er
 |some (some d),S=>.ok (.val d) S
 |_,_=>.no
def zA(i:Nat)(e:X.N[i]? =some x:=by rfl)(f:zBJ X.env.scope x:=by first |exact Or.inl rfl|exact Or.inr (Or.inl rfl)|exact Or.inr (Or.inr rfl))(c:(x==("__debug__"))=false:=by decide)
  (hcd:(x==("__classdict__"))=false:=by decide):yI X W (.Name x pos) (λa S=>Vj (a[i]?) S):=by
 refine⟨_,pv i e f c hcd,λα a S σ H Q wd sl q=>?_⟩;dsimp only at q
 cases z:a[i]? with
 |none=>rw[z]at q;exact q.elim
 |some o=>
  cases o with
  |none=>rw[z]at q;exact q.elim
  |some d=>
   rw[z]at q;obtain⟨v,h,b⟩:=sl.slot i d z;exact⟨v,h,Post.val q wd b⟩
def zF:yI X W (.Constant (.int i) j pos) (λ_ S=>.ok (.val (.int i)) S):=⟨_,Lk,λα a S σ H Q wd sl q=>Post.val q wd (jV i)⟩
def vV:yI X W (.Constant (.bool i) j pos) (λ_ S=>.ok (.val (.bl i)) S):=⟨_,zBL,λα a S σ H Q wd sl q=>Post.val q wd (gP i)⟩
def rB:yI X W (.Constant .none j pos) (λ_ S=>.ok (.val .non) S):=⟨_,K1,λα a S σ H Q wd sl q=>Post.val q wd DA⟩
def yZ(cs)(a:x=bW cs:=by rfl):yI X W (.Constant (.str x) j pos) (λ_ S=>.ok (.val (.str cs)) S):=
 ⟨_,K2,λα b S σ H Q wd sl q=>Post.val q wd (by rw[a];exact lV cs)⟩
def zCR(b:Gl X x)(e:X.mg x=none)(c:bootBuiltins x=some (.type T))(d:x≠"__name__":=by decide)(a:(x==("__debug__"))=false:=by decide):yI X W (.Name x pos) (λ_ S=>.ok (.val (.typ T)) S):=
 ⟨_,Tw (v:=.ty T) b e c rfl d a,λα f S σ H Q wd sl q=>Post.val q wd (Eh T)⟩
def MT:yI X W (.UnaryOp .USub (.Constant (.int i) j p3) pos) (λ_ S=>.ok (.val (.int (-i))) S):=
 ⟨_,zBY M9 Lk,λα a S σ H Q wd sl q=>⟨i,rfl,Post.val q wd (jV (-i))⟩⟩
def YH(X:Cx)(W:XW)(r:R2)(F:Er->Er->Sto->R Er):Prop:= ∀p q x y α S H Q,Wd X.g α S H->DenX X.K α H p x->DenX X.K α H q y->Post X.g W α H (F p q S) Q->r x y H Q
def two(v:YH X W r F){m n:TE}(A: ∀α a S σ H Q,Wd X.g α S H->Slots X.K α H a σ->Post X.g W α H (f a S) Q->m σ H Q)
  (fb: ∀α a S σ H Q,Wd X.g α S H->Slots X.K α H a σ->Post X.g W α H (g a S) Q->n σ H Q)       (wd:Wd X.g α S H) (sl:Slots X.K α H a σ)
  (q:Post X.g W α H ((f a S).bind λp i=>(g a i).bind λq h=>F p q h) Q):m σ H λx d=>n σ d λy b=>r x y b Q:=
 A α a S σ H _ wd sl (q.bind λu p i c d D k w t o=>fb c a i σ d _ w (sl.ext k) ((o.shift k).bind λs p2 h e b E j B C z=>
  v p p2 u s e h b Q B (t.1.ext j) C.1 (z.shift j)))
def RP(ho:OpR X (binaryOp op) r)(h:YH X W r F)(d:yI X W a f)(e:yI X W b g):yI X W (.BinOp a op b pos) (λc S=>(f c S).bind λp m=>(g c m).bind λq j=>F p q j):=by obtain⟨n,d,i⟩:=d;obtain⟨o,e,k⟩:=e;exact⟨_,zBX ho d e,λα c S σ H Q wd sl q=>two h i k wd sl q⟩
def MU(ho:OpR X (compareOp op) r)(h:YH X W r F)(d:yI X W a f)(e:yI X W b g)(m:behindInMarks op b=false:=by first |exact Ls _|with_unfolding_all rfl):
  yI X W (.Compare a [op] [b] pos) (λc S=>(f c S).bind λp n=>(g c n).bind λq j=>F p q j):=by
 obtain⟨o,d,i⟩:=d;obtain⟨s,e,k⟩:=e;exact⟨_,Uh ho d e m,λα c S σ H Q wd sl q=>two h i k wd sl q⟩
def Mq(ho:IxR X r)(h:YH X W r F)(d:yI X W a f)(e:yI X W b g)(hs:FX b:=by exact λ_ _=>rfl):
  yI X W (.Subscript a b pos) (λc S=>(f c S).bind λp m=>(g c m).bind λq j=>F p q j):=by
 obtain⟨n,d,i⟩:=d;obtain⟨o,e,k⟩:=e;exact⟨_,zCI ho d e hs,λα c S σ H Q wd sl q=>two h i k wd sl q⟩
noncomputable def jW:Er->Sto->R Bool
 |.val (.bl b),S=>.ok b S
 |_,_=>.no
def Mr(q:Post X.g W α H (jW p S) Q): ∃k,p=.val (.bl k)/\Post X.g W α H (.ok k S) Q:=by
 unfold jW at q;split at q
 .exact⟨_,rfl,q⟩
 .exact q.elim
def YI[Dn β τ]{k:Bool->Sto->R β}(q:Post X.g W α H ((jW p S).bind k) Q): ∃c,p=.val (.bl c)/\Post X.g W α H (k c S) Q:=by
 unfold jW at q;split at q
 .exact⟨_,rfl,q⟩
 .exact q.elim
def rC(ho:OpR X (compareOp op) r)(n:YH X W r F)(d:yI X W a f)(e:yI X W b g)(z:behindInMarks op b=false:=by first |exact Ls _|with_unfolding_all rfl):
  MQ X W (.Compare a [op] [b] pos) (λc S=>((f c S).bind λp h=>(g c h).bind λq w=>F p q w).bind jW):=by
 obtain⟨A,d,t⟩:=d;obtain⟨D,e,y⟩:=e;refine⟨_,Ui ho d e z,λα c S σ H Q wd sl q=>?_⟩;refine two n t y wd sl (q.bind λu p h o C B m s j i=>?_);obtain⟨k,rfl,v⟩:=Mr (i.shift m);exact⟨k,JY j.1,v.here s rfl⟩
def chF(F G:Er->Er->Sto->R Er)(p q:Er)(S:Sto)(k:Sto->R Er):R Er:=(F p q S).bind λz d=>(jW z d).bind λc a=>if c=true then(k a).bind λr b=>G q r b else .ok (.val (.bl false)) a
noncomputable def DU:Er->Sto->R Bool
 |.val .non,S=>.ok false S
 |.val (.bl b),S=>.ok b S
 |.val (.int i),S=>.ok (i !=0) S
 |.val (.str x),S=>if x.length<=sizeLine then .ok (!x.isEmpty) S else .no
 |.val (.tup ds),S=>.ok (!ds.isEmpty) S
 |.val (.scr ds),S=>.ok (!ds.isEmpty) S
 |.val (.loc l),S=>match S[l]? with
  |some (.lst ds)=>.ok (!ds.isEmpty) S
  |_=>.no
 |.val (.typ _),_=>.no
 |.val (.obj _ _ _),_=>.no
 |.new ds,S=>.ok (!ds.isEmpty) S
def DB{K:R0}(l:DenL K α H ds vs):(!vs.isEmpty)= !ds.isEmpty:=by have:=l.length;cases ds<;>cases vs<;>simp_all
theorem Ms(wd:Wd X.g α S H)(d:DenX X.K α H p x)(q:Post X.g W α H (DU p S) Q): ∃k,N2 X.K x H k/\Q k H:=by
 match p,d,q with
 |.val .non,d,q=>cases rA d;exact⟨_,rfl,q.here wd rfl⟩
 |.val (.bl b),d,q=>cases JY d;exact⟨_,rfl,q.here wd rfl⟩
 |.val (.int i),d,q=>cases wG d;exact⟨_,rfl,q.here wd rfl⟩
 |.val (.typ n),d,q=>exact q.elim
 |.val (.obj _ _ _),d,q=>exact q.elim
 |.val (.str z),d,q=>
  cases dR d;have e:Post X.g W α H (if z.length<=sizeLine then R.ok _ S else R.no) Q:=q;split at e
  .rename_i m;refine⟨_,⟨by rw[gT];exact m,?_⟩,e.here wd rfl⟩;rw[gT]
   cases z with
   |nil=>rfl
   |cons c r=>
    have u:((r.length:Int)+1)≠0:=by lia
    simp[u]
  .exact e.elim
 |.val (.tup ds),d,q=>
  obtain⟨a,f,rfl,s,l⟩:=iK d;exact⟨_,.inr (.inl ⟨f,s,(DB l).symm⟩),q.here wd rfl⟩
 |.val (.scr ds),d,q=>
  obtain⟨a,f,rfl,s,l⟩:=MP d;exact⟨_,.inl ⟨f,s.l,(DB l).symm⟩,q.here wd rfl⟩
 |.val (.loc n),d,q=>
  obtain⟨a,rfl,h⟩:=iL d;obtain⟨o,v,j⟩:=wd.of h;have e:Post X.g W α H (match S[n]? with |some (.lst ds)=>R.ok _ S|_=>R.no) Q:=q;rw[v]at e
  cases o with
  |lst ds=>
   obtain⟨f,t,l⟩:=j;exact⟨_,.inl ⟨f,.of t,(DB l).symm⟩,e.here wd rfl⟩
  |dic ds=>exact e.elim
  |ins c fs=>exact e.elim
  |rcd c fs=>exact e.elim
  |fdc _=>exact e.elim
 |.new ds,⟨a,f,ex,s,n,l⟩,q=>subst ex;exact⟨_,.inl ⟨f,.of s,(DB l).symm⟩,q.here wd rfl⟩
def bC(d:yI X W a f)(m: ∀b,isTrue a X.env b=(do let v <-b;standAt a.pos;holding [v] (truthy v)):=by intro _;rfl):MQ X W a (λc S=>(f c S).bind DU):=by obtain⟨o,d,n⟩:=d;exact⟨_,Lu d m,λα c S σ H Q wd sl q=>n α c S σ H _ wd sl (q.bind λu p t j s r i k h e=>Ms k h.1 (e.shift i))⟩
end
section
variable{c:Expr}{h:Rho->Sto->R Er}
def Vk(p:Er)(S:Sto)(k:Sto->R Er):R Er:=(jW p S).bind λc a=>if c=true then k a else .ok (.val (.bl false)) a
def orF(p:Er)(S:Sto)(k:Sto->R Er):R Er:=(jW p S).bind λc a=>if c=true then .ok (.val (.bl true)) a else k a
def Mt(b:yI X W a f):yI X W (.BoolOp op [a] pos) f:=let ⟨t,h,k⟩:=b;⟨t,K7 h,k⟩
def Mu(e:yI X W a f)(i:yI X W (.BoolOp .And (b::es) pos) g):yI X W (.BoolOp .And (a::b::es) pos) (λc S=>(f c S).bind λp j=>Vk p j λv=>g c v):=by
 obtain⟨y,e,t⟩:=e;obtain⟨A,i,w⟩:=i;refine⟨_,K8 e i,λα c S σ H Q wd sl q=>t α c S σ H _ wd sl (q.bind λu p j h s z m n r o=>?_)⟩;obtain⟨k,rfl,d⟩:=YI (o.shift m);refine⟨k,JY r.1,?_⟩
 cases k with
 |true=>rw[iP rfl]at d ⊢; exact w h c j σ s _ n (sl.ext m) d
 |false=>rw[iN xF0]at d ⊢; exact Post.val d n (gP false)
def P7(c:yI X W a f):yI X W (.UnaryOp .Not a pos) (λb S=>(f b S).bind λp d=>(jW p d).bind λk r=>.ok (.val (.bl !k)) r):=by obtain⟨s,c,n⟩:=c;refine⟨_,K9 c,λα b S σ H Q wd sl q=>n α b S σ H _ wd sl (q.bind λu p d j v t i m h e=>?_)⟩;obtain⟨k,rfl,o⟩:=YI (e.shift i);exact⟨k,JY h.1,Post.val o m (gP _)⟩
def Ej(m:MQ X W c tf)(n:yI X W a f)(o:yI X W b g):yI X W (.IfExp c a b pos) (λd S=>(tf d S).bind λk h=>if k=true then f d h else g d h):=by
 obtain⟨A,m,v⟩:=m;obtain⟨z,n,w⟩:=n;obtain⟨C,o,y⟩:=o;refine⟨_,Ll m n o,λα d S σ H Q wd sl q=>v α d S σ H _ wd sl (q.bind λu p h e r B j s t i=>?_)⟩;cases t
 cases u with
 |true=>rw[iP rfl]at i ⊢; exact w e d h σ r _ s (sl.ext j) (i.shift j)
 |false=>rw[iN xF0]at i ⊢; exact y e d h σ r _ s (sl.ext j) (i.shift j)
def pX(b:MQ X W a tf):P6 X W (.BoolOp .And [a] pos) tf:=let ⟨t,h,k⟩:=b;⟨t,Tx h,k⟩
def Mv(b:MQ X W a tf):P6 X W (.BoolOp .Or [a] pos) tf:=let ⟨t,h,k⟩:=b;⟨t,K4 h,k⟩
theorem vW(h:MQ X W a tf)(j:P6 X W (.BoolOp .And (b::es) pos) tg):P6 X W (.BoolOp .And (a::b::es) pos) (λc S=>(tf c S).bind λk e=>if k=true then tg c e else .ok false e):=by
 obtain⟨t,h,r⟩:=h;obtain⟨w,j,s⟩:=j;refine⟨_,K5 h j,λα c S σ H Q wd sl q=>r α c S σ H _ wd sl (q.bind λu p e i o v f m n d=>?_)⟩;cases n
 cases u with
 |true=>rw[iP rfl]at d ⊢; exact s i c e σ o _ m (sl.ext f) (d.shift f)
 |false=>rw[iN xF0]at d ⊢; exact(d.shift f).here m rfl
def B3(h:MQ X W a tf)(j:P6 X W (.BoolOp .Or (b::es) pos) tg):P6 X W (.BoolOp .Or (a::b::es) pos) (λc S=>(tf c S).bind λk e=>if k=true then .ok true e else tg c e):=by
 obtain⟨t,h,r⟩:=h;obtain⟨w,j,s⟩:=j;refine⟨_,zBM h j,λα c S σ H Q wd sl q=>r α c S σ H _ wd sl (q.bind λu p e i o v f m n d=>?_)⟩;cases n
 cases u with
 |true=>rw[iP rfl]at d ⊢; exact(d.shift f).here m rfl
 |false=>rw[iN xF0]at d ⊢; exact s i c e σ o _ m (sl.ext f) (d.shift f)
def ED(h:P6 X W a tf):MQ X W a tf:=let ⟨t,h,k⟩:=h;⟨t,h.pt,k⟩
theorem Bv(c:MQ X W a tf):MQ X W (.UnaryOp .Not a pos) (λb S=>(tf b S).bind λk d=>.ok (!k) d):=by obtain⟨n,c,m⟩:=c;refine⟨_,K6 c,λα b S σ H Q wd sl q=>m α b S σ H _ wd sl (q.bind λu p d i r o h j f e=>?_)⟩;cases f;exact(e.shift h).here j rfl
end
section
variable{K:R0}
noncomputable def zP:List Er->Sto->List MV×Sto
 |[],S=>([],S)
 |.val d::rs,S=>((d::(zP rs S).1),(zP rs S).2)
 |.new xs::rs,S=>((.loc S.length::(zP rs (S++[.lst xs])).1),(zP rs (S++[.lst xs])).2)
def ArgsE.grow(q:ArgsE K H0 α H rs vs)(n:b∉JZ rs vs):ArgsE K H0 (α++[b]) H rs vs:=by
 induction q with
 |nil=>exact .nil
 |@cons r v rs vs a m l ih=>
  cases r with
  |val d=>exact .cons ⟨Den.ex0 (Ex0.grow α [b] H) a.1,trivial⟩ m (ih (by simpa [JZ]using n))
  |new ds=>
   obtain⟨⟨c,j,rfl,k,f,i⟩,h⟩:=a;have e:=n;refine .cons ⟨⟨c,j,rfl,k,λz=>?_,i.ex0 (Ex0.grow α [b] H)⟩,h⟩ m (ih λz=>e (mO _ z));rcases å.mp z with z|z
   .exact f z
   .exact e (by rw[mS.mp z];exact mF0)
theorem sR: ∀{rs}{vs}{α}{S},Wd g α S H->Ext α0 H0 α H->ArgsE g.K H0 α H rs vs->
  ∃α',Ext α0 H0 α' H/\Ex0 α H α' H/\Wd g α' (zP rs S).2 H/\DenL g.K α' H (zP rs S).1 vs
 |_,_,α,S,w,x,.nil=>⟨α,x,⟨⟨[],by simp⟩,λ_ _ h=>h,λ_ _ _ h=>h⟩,w,xL⟩
 |.val d::rs,v::vs,α,S,w,x,.cons a n l=>by obtain⟨α',j,b,i,f⟩:=sR w x l;exact⟨α',j,b,i,yT (Den.ex0 b a.1) f⟩
 |.new ds::rs,v::vs,α,S,w,x,.cons a n l=>by
  obtain⟨⟨c,q,rfl,p,k,o⟩,m⟩:=a;obtain⟨α',j,b,i,f⟩:=sR (w.enter p k o) (w.enterx x (m c rfl) k) (l.grow (n ds c rfl rfl));refine⟨α',j,⟨?_,b.tup,b.frz⟩,i,yT (eY (b.at ?_)) f⟩
  .obtain⟨t,e⟩:=b.pre;exact⟨_,by rw[e,aA]⟩
  .rw[<-w.len,é (à _),sub_self];rfl
theorem DC: ∀ a  S ,(zP a S).1.length=a.length
 |[],S=>rfl
 |.val d::a,S=>by show(d::(zP a S).1).length=_;rw[lC,DC a S];rfl
 |.new ds::a,S=>by show(_::(zP a _).1).length=_;rw[lC,DC a _];rfl
end
section
variable{b c:Expr}{g h:Rho->Sto->R Er}{pos:Pos}
def zD:MR X W [] (λ_ S=>.ok [] S):=⟨_,Lx,λα a S σ H Q wd sl q=>q.here wd .nil⟩
def zB(n:yI X W a f)(s:MR X W es af)(hs:q8 X a es:=by rfl):MR X W (a::es) (λi S=>(f i S).bind λp m=>(af i m).bind λps v=>.ok (p::ps) v):=by
 obtain⟨M,n,E⟩:=n;obtain⟨L,s,B⟩:=s;refine⟨_,Eb n s hs,λα i S σ H Q wd sl q=>E α i S σ H _ wd sl (q.bind λu p m o D P k J w G=>B o i m σ D _ J (sl.ext k) ?_)⟩;have d:Post X.g W α H _ Q:=G
 cases z:af i m with
 |ok ps v=>
  rw[z]at d;intro T e t j r y;refine d _ e t (k.trans j) r (ArgsE.cons (DenE.ext j w) (λN b I A F=>?_) (ArgsE.back (λb h=>k.free h) y));subst I A;obtain⟨⟨c,O,C,K,_⟩,_⟩:=w;cases C;have:=ArgsE.nones y _ F;rw[K]at this;cases this
 |exc c fs v=>rw[z]at d;exact λe t j r=>d e t (k.trans j) r
 |no=>rw[z]at d;exact d
def wR(rs:List Er)(S:Sto):R Er:=if rs.length<=sizeLine then .ok (.val (.tup (zP rs S).1)) (zP rs S).2 else .no
def kI(rs:List Er)(S:Sto):R Er:=if rs.length<=sizeLine then .ok (.new (zP rs S).1) (zP rs S).2 else .no
def yN(h:MR X W es af):yI X W (.Tuple es d pos) (λb S=>(af b S).bind wR):=by
 obtain⟨t,h,k⟩:=h;refine⟨_,N6 h,λα b S σ H Q wd sl q=>k α b S σ H _ wd sl (q.bind λA e v j z y d m c i=>?_)⟩;have a:Post X.g W α H (if e.length<=sizeLine then R.ok _ (zP e v).2 else R.no) Q:=i;split at a
 .rename_i o;obtain⟨n,f,w,u,s⟩:=sR m d c;exact⟨by rw[ArgsE.length c];exact o,λp r=>(a.shift f).newt u r s⟩
 .exact a.elim
def yY(h:MR X W es af):yI X W (.List es pos) (λb S=>(af b S).bind kI):=by
 obtain⟨t,h,k⟩:=h;refine⟨_,N7 h,λα b S σ H Q wd sl q=>k α b S σ H _ wd sl (q.bind λA d v j z y i m c f=>?_)⟩;have a:Post X.g W α H (if d.length<=sizeLine then R.ok _ (zP d v).2 else R.no) Q:=f;split at a
 .rename_i o;obtain⟨n,e,w,u,s⟩:=sR m i c;exact⟨by rw[ArgsE.length c];exact o,λp r=>(a.shift e).newl u r s⟩
 .exact a.elim
inductive ArgsX(K:R0)(α:B9)(H:Hp):List Er->List V->Prop
 |nil:ArgsX K α H [] []
 |cons {r v rs vs}:DenX K α H r v->ArgsX K α H rs vs->ArgsX K α H (r::rs) (v::vs)
theorem ArgsE.x{K:R0}: ∀{rs vs},ArgsE K H0 α H rs vs->ArgsX K α H rs vs
 |_,_,.nil=>.nil
 |_,_,.cons a _ l=>.cons a.1 (ArgsE.x l)
def pY(X:Cx)(W:XW)(r:List V->Hp->VK->Prop)(F:List Er->Sto->R Er):Prop:= ∀b a α S H Q,Wd X.g α S H->ArgsX X.K α H b a->Post X.g W α H (F b S) Q->r a H Q
def yW{id:String}{p:Pos}(j:CallR X (.builtin id) r)(i:pY X W r F)(u:Gl X x)(w:X.mg x=none)(v:bootBuiltins x=some (.builtin id))(b:MR X W (e::es) af)
  (hn:x≠"__name__":=by decide) (hdb:(x==("__debug__"))=false:=by decide)
  (he:q8 X e es:=by rfl) (hpl:q9 X pos es:=by rfl):yI X W (.Call (.Name x p) (e::es) [] pos) (λa S=>(af a S).bind F):=by
 obtain⟨t,b,k⟩:=b;exact⟨_,Ma j u w v b hn hdb he hpl,λα a S σ H Q wd sl q=>k α a S σ H _ wd sl (q.bind λs m y c n z h o f d=>i m s c y n Q o (ArgsE.x f) (d.shift h))⟩
def jH{p:Pos}(j:CallR X (.type T) r)(i:pY X W r F)(u:Gl X x)(w:X.mg x=none)(v:bootBuiltins x=some (.type T))(b:MR X W (e::es) af)
  (hn:x≠"__name__":=by decide) (hdb:(x==("__debug__"))=false:=by decide)
  (he:q8 X e es:=by rfl) (hpl:q9 X pos es:=by rfl):yI X W (.Call (.Name x p) (e::es) [] pos) (λa S=>(af a S).bind F):=by
 obtain⟨t,b,k⟩:=b;exact⟨_,RH j u w v b hn hdb he hpl,λα a S σ H Q wd sl q=>k α a S σ H _ wd sl (q.bind λs m y c n z h o f d=>i m s c y n Q o (ArgsE.x f) (d.shift h))⟩
def UG(X:Cx)(W:XW)(r:V->List V->Hp->VK->Prop)(F:Er->List Er->Sto->R Er):Prop:= ∀p d x c α S b H Q a,Wd X.g α S H->Ext a b α H->DenX X.K α H p x->ArgsE X.K b α H d c->Post X.g W a b (F p d S) Q->r x c H Q
def TyM(X:Cx)(T:String)(a:Er->Sto->Bool):Prop:= ∀p x α S H,Wd X.g α S H->DenX X.K α H p x->a p S=true->zET X.K T x H
def Ek{id:String}{apos:Pos}(K:PlainAttrs T)(h:Slot T name id)(i:typeOf (.builtin id)=pure (.type "method_descriptor"))(J:Uv X id r)(L:UG X W r F)(C:TyM X T ty)
  (n:yI X W a f) (m:MR X W (e::es) af)
  (hbase:attributeBase a name X.env (eval a X.env)=eval a X.env:=by rfl)
  (hfew:((backTo pos (starEach (e::es) X.env)).all (λx=>!x.1)&&(backToKw pos (keywordEach [] X.env)).all (λx=>x.1.isSome)
   &&decide ((e::es).length+([]:List Keyword).length+(if([]:List Keyword).isEmpty then 0 else 1)<30))=true:=by rfl)
  (hline:(apos.endLine==pos.line)=true:=by rfl) (hs:q8 X e es:=by rfl) (hplain:q9 X pos es:=by rfl):
  yI X W (.Call (.Attribute a name apos) (e::es) [] pos) (λc S=>(f c S).bind λp d=>if ty p d=true then(af c d).bind λj w=>F p j w else .no):=by
 obtain⟨P,n,G⟩:=n;obtain⟨t,m,k⟩:=m;refine⟨_,zCN K h i J n m hbase hfew hline hs hplain,λα c S σ H Q wd sl q=>G α c S σ H _ wd sl (q.bind λu p d b o U A B z v=>?_)⟩;split at v
 .rename_i E;exact⟨C p u b d o B z.1 E,k b c d σ o _ B (sl.ext A) ((v.shift A).bind λN j w s M Y y I O D=>L p j u N s w o M Q b I y (z.1.ext y) O D)⟩
 .exact v.elim
def YJ{id:String}{apos:Pos}(o:PlainAttrs T)(c:Slot T name id)(e:typeOf (.builtin id)=pure (.type "method_descriptor"))(y:Uv X id r)(t:UG X W r F)(z:TyM X T ty)
  (j:yI X W a f) (hbase:attributeBase a name X.env (eval a X.env)=eval a X.env:=by rfl) (hline:(apos.endLine==pos.line)=true:=by rfl):
  yI X W (.Call (.Attribute a name apos) [] [] pos) (λi S=>(f i S).bind λp d=>if ty p d=true then F p [] d else .no):=by
 obtain⟨A,j,w⟩:=j;refine⟨_,O2 o c e y j hbase hline,λα i S σ H Q wd sl q=>w α i S σ H _ wd sl (q.bind λu p d b k B s n m h=>?_)⟩;split at h
 .rename_i v;exact⟨z p u b d k n m.1 v,t p [] u [] b d k k Q b n (Ext.refl _ _) m.1 .nil (h.shift s)⟩
 .exact h.elim
def gU:zBB X W none (λ_ S=>.ok none S):=⟨_,Us,λα a S σ H Q wd sl q=>q.here wd rfl⟩
noncomputable def RQ:Er->Sto->R (Option Int)
 |.val (.int i),S=>.ok (some i) S
 |_,_=>.no
def jB(d:yI X W a f):zBB X W (some a) (λc S=>(f c S).bind RQ):=by
 obtain⟨m,d,k⟩:=d;refine⟨_,Ut d,λα c S σ H Q wd sl q=>k α c S σ H _ wd sl (q.bind λu p r i o n h j e b=>?_)⟩;unfold RQ at b;split at b
 .exact⟨_,wG e.1,(b.shift h).here j rfl⟩
 .exact b.elim
def Sl3(X:Cx)(W:XW)(r:V->Option Int->Option Int->Hp->VK->Prop)(F:Er->Option Int->Option Int->Sto->R Er):Prop:= ∀p lo hi x α S H Q,Wd X.g α S H->DenX X.K α H p x->Post X.g W α H (F p lo hi S) Q->r x lo hi H Q
def Mw{lo:Option Expr}(M:SlR X r)(L:Sl3 X W r F)(e:yI X W a f)(j:zBB X W lo lf)(o:zBB X W hi hf):
  yI X W (.Subscript a (.Slice lo hi none p2) pos) (λb S=>(f b S).bind λp k=>(lf b k).bind λl s=>(hf b s).bind λu t=>F p l u t):=by
 obtain⟨ta,e,D⟩:=e;obtain⟨Z,j,G⟩:=j;obtain⟨Y,o,z⟩:=o
 refine⟨_,Mc M e j o,λα b S σ H Q wd sl q=>D α b S σ H _ wd sl (q.bind λu p k h B e1 d P y J=>G h b k σ B _ P (sl.ext d) ((J.shift d).bind λK l s i N e2 c I U E=>
  z i b s σ N _ I ((sl.ext d).ext c) ((E.shift c).bind λA m t n O e3 v w T C=>?_)))⟩
 cases U;cases T;exact L p K A u n t O Q w ((y.1.ext c).ext v) (C.shift v)
end
inductive Fl where
 |next (ρ:Rho)|ret (r:Er)|brk (ρ:Rho)|cont (ρ:Rho)
abbrev AX:=Rho->Sto->R Er
abbrev AY:=Rho->Sto->R Fl
abbrev AZ:=Rho->Sto->R Bool
def PostS(g:Gm)(W:XW)(α:B9)(H:Hp)(D:Ends):R Fl->Prop
 |.ok (.next ρ) S=> ∀σ α' H',Ext α H α' H'->Wd g α' S H'->Slots g.K α' H' ρ σ->D.nx σ H'
 |.ok (.ret r) S=> ∀v α' H',Ext α H α' H'->Wd g α' S H'->DenE g.K H α' H' r v->D.rt v H'
 |.ok (.brk ρ) S=> ∀σ α' H',Ext α H α' H'->Wd g α' S H'->Slots g.K α' H' ρ σ->D.bk σ H'
 |.ok (.cont ρ) S=> ∀σ α' H',Ext α H α' H'->Wd g α' S H'->Slots g.K α' H' ρ σ->D.ct σ H'
 |.exc c fs S=> ∀α' H',Ext α H α' H'->Wd g α' S H'->W c fs S α' H'
 |.no=>False
section
def PostS.shift(x:Ext α H α' H'): ∀{m},PostS g W α H D m->PostS g W α' H' D m
 |.ok (.next ρ) S,q=>λσ a e d f i=>q σ a e (x.trans d) f i
 |.ok (.ret r) S,q=>λv a e d f j=>q v a e (x.trans d) f (j.back λb h=>x.free h)
 |.ok (.brk ρ) S,q=>λσ a e d f i=>q σ a e (x.trans d) f i
 |.ok (.cont ρ) S,q=>λσ a e d f i=>q σ a e (x.trans d) f i
 |.exc c fs S,q=>λa e d f=>q a e (x.trans d) f
 |.no,q=>q
def PostS.expr[Dn β τ]{k:β->Sto->R Fl}(q:PostS g W α H D (m.bind k))
  (f: ∀u b h a e,m=.ok b h->Ext α H a e->Wd g a h e->Dn.d g H a h e b u->PostS g W α H D (k b h)->Q' u e):Post g W α H m Q':=by
 cases m with
 |ok b S=>exact λu a e x w d=>f u b S a e rfl x w d q
 |exc c fs S=>exact q
 |no=>exact q
def PostS.stmt(q:PostS g W α H D (m.bind k))
  (hn: ∀e S σ a b,m=.ok (.next e) S->Ext α H a b->Wd g a S b->Slots g.K a b e σ->PostS g W α H D (k (.next e) S)->D'.nx σ b)
  (hr: ∀r S v a b,m=.ok (.ret r) S->Ext α H a b->Wd g a S b->DenE g.K H a b r v->PostS g W α H D (k (.ret r) S)->D'.rt v b)
  (hb: ∀e S σ a b,m=.ok (.brk e) S->Ext α H a b->Wd g a S b->Slots g.K a b e σ->PostS g W α H D (k (.brk e) S)->D'.bk σ b)
  (hc: ∀e S σ a b,m=.ok (.cont e) S->Ext α H a b->Wd g a S b->Slots g.K a b e σ->PostS g W α H D (k (.cont e) S)->D'.ct σ b):PostS g W α H D' m:=by
 cases m with
 |ok fl S=>
  cases fl with
  |next e=>exact λσ a b x w s=>hn e S σ a b rfl x w s q
  |ret r=>exact λv a b x w d=>hr r S v a b rfl x w d q
  |brk e=>exact λσ a b x w s=>hb e S σ a b rfl x w s q
  |cont e=>exact λσ a b x w s=>hc e S σ a b rfl x w s q
 |exc c fs S=>exact q
 |no=>exact q
end
def Lg(X:Cx)(W:XW)(st:Stmt)(F:AY):Prop:=
 ∃t,PS X st t/\ ∀α a S σ H D,Wd X.g α S H->Slots X.K α H a σ->PostS X.g W α H D (F a S)->t D σ H
def UH(X:Cx)(W:XW)(st:List Stmt)(F:AY):Prop:=
 ∃t,PSs X st t/\ ∀α a S σ H D,Wd X.g α S H->Slots X.K α H a σ->PostS X.g W α H D (F a S)->t D σ H
noncomputable def zL(F G:AY):AY:=λb S=>(F b S).bind λc a=>match c with
 |.next ρ'=>G ρ' a
 |.ret r=>.ok (.ret r) a
 |.brk ρ'=>.ok (.brk ρ') a
 |.cont ρ'=>.ok (.cont ρ') a
section
variable{X:Cx}{W:XW}{st:Stmt}{as:List Stmt}{F:AY}{g:AX}{e c:Expr}{pos:Pos}
def xA:UH X W [] (λa S=>.ok (.next a) S):=⟨_,Ua,λα a S σ H D wd sl q=>q σ α H (Ext.refl α H) wd sl⟩
def zK(h:Lg X W st F):UH X W [st] F:=let ⟨t,h,k⟩:=h;⟨t,Ub h,k⟩
def zC(n:Lg X W st F)(m:UH X W sts G):UH X W (st::sts) (zL F G):=by
 obtain⟨t,n,o⟩:=n;obtain⟨u,m,w⟩:=m;refine⟨_,Lm n m,λα s S σ H D wd sl q=>o α s S σ H _ wd sl (q.stmt ?_ ?_ ?_ ?_)⟩
 .intro f k b a i e d h j c;exact w a f k b i D h j (PostS.shift d c)
 .intro r k v a i e d h p c;exact c v a i d h p
 .intro f k b a i e d h j c;exact c b a i d h j
 .intro f k b a i e d h j c;exact c b a i d h j
def zW(a:yI X W e f):Lg X W (.Return (some e) pos) (λb S=>(f b S).bind λr d=>.ok (.ret r) d):=by obtain⟨t,a,k⟩:=a;exact⟨_,L3 a,λα b S σ H D wd sl q=>k α b S σ H _ wd sl (q.expr λu r d c n e j m i h=>h u c n j m i)⟩
def YK:Lg X W st (λ_ _=>.no):=⟨_,Ln,λα a S σ H D wd sl q=>q.elim⟩
def xH(b:yI X W e f)(hs:swapsWith e none pos.line X.env=pure false:=by rfl):Lg X W (.Expr e pos) (λa S=>(f a S).bind λ_ h=>.ok (.next a) h):=by obtain⟨t,b,k⟩:=b;exact⟨_,Uc b hs,λα a S σ H D wd sl q=>k α a S σ H _ wd sl (q.expr λu r h c m e d j n i=>i σ c m d j (sl.ext d))⟩
def wA(i:MQ X W c tf)(j:UH X W as F)(m:UH X W bs G):Lg X W (.If c as bs pos) (λa S=>(tf a S).bind λk d=>if k=true then F a d else G a d):=by
 obtain⟨w,i,v⟩:=i;obtain⟨z,j,r⟩:=j;obtain⟨y,m,t⟩:=m;refine⟨_,zBR i j m,λα a S σ H D wd sl q=>v α a S σ H _ wd sl (q.expr λu p d b o e h n s f=>?_)⟩;cases s
 cases u with
 |true=>rw[iP rfl]at f ⊢; exact r b a d σ o D n (sl.ext h) (PostS.shift h f)
 |false=>rw[iN xF0]at f ⊢; exact t b a d σ o D n (sl.ext h) (PostS.shift h f)
instance:Dn Rho St:=⟨λg _ α' _ H' a σ=>Slots g.K α' H' a σ,λ_ q=>q⟩
def B4(X:Cx)(W:XW)(tg:Expr)(gf:MV->Rho->Sto->R Rho):Prop:=
 ∃t,PG X tg t/\ ∀α a S σ H d v Q,Wd X.g α S H->Slots X.K α H a σ->Den X.K α H d v->Post X.g W α H (gf d a S) Q->t v σ H Q
def Vm(X:Cx)(W:XW)(a:Q0)(gf:List MV->Rho->Sto->R Rho):Prop:=
 ∃t,zBA X a t/\ ∀α d S σ H c b Q,Wd X.g α S H->Slots X.K α H d σ->DenL X.K α H c b->Post X.g W α H (gf c d S) Q->t b σ H Q
noncomputable def yX(i:Nat):MV->Rho->Sto->R Rho:=λd a S=>.ok (a.set i (some d)) S
def zY(i)(e:X.N.Nodup)(hi:X.N[i]? =some x:=by rfl)(b:Loc X.env.scope x:=by first |exact Or.inl rfl|exact Or.inr rfl)(c:z3 X x:=by first |exact .inl rfl|exact .inr rfl|assumption):
  B4 X W (.Name x pos) (yX i):=⟨_,Dz e hi b c,λα f S σ H d v Q wd sl a q=>Post.here q wd (sl.set a)⟩
noncomputable def gV:List MV->Rho->Sto->R Rho
 |[],ρ,S=>.ok ρ S
 |_,_,_=>.no
noncomputable def zV(e:MV->Rho->Sto->R Rho)(c:List MV->Rho->Sto->R Rho):List MV->Rho->Sto->R Rho
 |d::ds,ρ,S=>(e d ρ S).bind λa b=>c ds a b
 |_,_,_=>.no
def vX:Vm X W [] gV:=⟨_,Ea,λα e S σ H a c Q wd sl b q=>by
 cases a with
 |nil=>exact⟨b.isnil,Post.here q wd sl⟩
 |cons d a=>exact q.elim⟩
def jC(h:B4 X W e g1)(c:Vm X W es g2)(hs:(assignEach (e::es) X.env).map (·.2)=assign e X.env::(assignEach es X.env).map (·.2):=by rfl):Vm X W (e::es) (zV g1 g2):=by
 obtain⟨A,h,j⟩:=h;obtain⟨z,c,y⟩:=c;refine⟨_,XS h c hs,λα m S σ H f B Q wd sl w q=>?_⟩
 cases f with
 |nil=>exact q.elim
 |cons d f=>
  obtain⟨v,r,rfl,a,l⟩:=w.uncons;refine⟨v,r,rfl,j α m S σ H d v _ wd sl a (Post.bind q λu p o b n e i t k s=>y b p o u n f r Q t k (l.ext i) (s.shift i))⟩
noncomputable def KB(n:Nat)(a:List MV->Rho->Sto->R Rho):MV->Rho->Sto->R Rho
 |.tup ds,ρ,S=>if ds.length=n then a ds ρ S else .no
 |_,_,_=>.no
def vY{k:Nat}(c:X.calm=true)(h:Vm X W es g2)
  (hn:(assignEach es X.env).length=n:=by rfl) (hst:(assignEach es X.env).findIdx? (·.1)=none:=by rfl):B4 X W (.Tuple es k pos) (KB n g2):=by
 obtain⟨t,h,k⟩:=h;refine⟨_,Lp c h hn hst,λα e S σ H d v Q wd sl f q=>?_⟩;unfold KB at q;split at q
 .split at q
  .rename_i i;obtain⟨a,b,rfl,s,l⟩:=wD f;exact⟨a,b,rfl,s,by rw[l.length];exact i,k α e S σ H _ b Q wd sl l q⟩
  .exact q.elim
 .exact q.elim
noncomputable def bD(r:Er)(S:Sto):R MV:=match r with
 |.val d=>.ok d S
 |.new ds=>.ok (.loc S.length) (S++[.lst ds])
def aO{g:Gm}(w:Wd g α S H)(x:Ext α0 H0 α H)(d:DenE g.K H0 α H r v):
  ∃a b α',bD r S=.ok a b/\Ext α0 H0 α' H/\Ex0 α H α' H/\Wd g α' b H/\Den g.K α' H a v:=by
 cases r with
 |val a=>exact⟨a,S,α,rfl,x,⟨⟨[],by simp⟩,λ_ _ h=>h,λ_ _ _ h=>h⟩,w,d.1⟩
 |new ds=>
  obtain⟨⟨c,k,rfl,j,e,i⟩,f⟩:=d;exact⟨_,_,_,rfl,w.enterx x (f c rfl) e,Ex0.grow α [c] H,w.enter j e i,eY (by rw[<-w.len,é (à _),sub_self];rfl)⟩
def UI(ρ:Rho)(i:Nat)(r:Er)(S:Sto):R Fl:=(bD r S).bind λd a=>.ok (.next (ρ.set i (some d))) a
def zI(i){a:Pos}(w:X.N.Nodup)(d:yI X W e f)(hi:X.N[i]? =some x:=by rfl)(z:Loc X.env.scope x:=by first |exact Or.inl rfl|exact Or.inr rfl)
  (hs:swapsWith e (some (.Name x a)) pos.line X.env=pure false:=by rfl) (hf:z3 X x:=by first |exact .inl rfl|exact .inr rfl|assumption):
  Lg X W (.Assign [.Name x a] e pos) (λb S=>(f b S).bind (UI b i)):=by
 obtain⟨t,d,k⟩:=d;refine⟨_,L9 w hi z d hs hf,λα b S σ H D wd sl q=>k α b S σ H _ wd sl (q.expr λu r E n o e h m j c=>?_)⟩;obtain⟨C,B,α',s,A,y,p,v⟩:=aO m h j;unfold UI at c;rw[s]at c;exact c _ α' o A p (((sl.ext h).ex0 y).set v)
def Vn(gf:MV->Rho->Sto->R Rho)(ρ:Rho)(r:Er)(S:Sto):R Fl:=(bD r S).bind λd c=>(gf d ρ c).bind λa b=>.ok (.next a) b
def FC(c:yI X W e f)(h:B4 X W tg gf)(hs:swapsWithSole [tg] e pos.line X.env=pure false:=by rfl)(hw:swappedStores [tg] e X.env=pure none:=by rfl)
  (h1:(assignEach [tg] X.env).map (·.2)=[assign tg X.env]:=by rfl):Lg X W (.Assign [tg] e pos) (λa S=>(f a S).bind (Vn gf a)):=by
 obtain⟨t,c,k⟩:=c;obtain⟨K,h,E⟩:=h;refine⟨_,L8 c h hs hw h1,λα a S σ H D wd sl q=>k α a S σ H _ wd sl (q.expr λu r O y z e m G v b=>?_)⟩;obtain⟨n,j,α',I,N,L,A,J⟩:=aO G m v;unfold Vn at b;rw[I]at b;have b:PostS X.g W α H D ((gf n a j).bind λs o=>.ok _ o):=b;exact E α' a j σ z n u _ A ((sl.ext m).ex0 L) J ((PostS.shift N b).expr λi w o d F P p C M B=>B i d F p C M)
structure Wk where
 ds:List MV
 gs:List (Nat×List MV)
def stay(gs:Y0)(S:Sto):Prop:= ∀p∈gs,S[p.1]? =some (.lst p.2)
def zCS(g:Gm)(J:It)(P:List Addr->Sto->Hp->Prop)(ds:U0):Prop:= ∀i α S H,P α S H->Wd g α S H->(i<ds.length->J.go i H/\ ∀x H',J.yld i H x H'->Ext α H α H'/\Wd g α S H'/\P α S H'/\ ∃d,ds[i]? =some d/\Den g.K α H' d x)/\(ds.length<=i->J.stop i H)
structure WkD(g:Gm)(α:B9)(S:Sto)(H:Hp)(k:Wk)(J:It)(P:List Addr->Sto->Hp->Prop):Prop where
 it:zCS g J P k.ds
 here:P α S H
 stays: ∀α1 S1 H1 α2 S2 H2,P α1 S1 H1->Ext α1 H1 α2 H2->Wd g α2 S2 H2->stay k.gs S2->P α2 S2 H2
 st:stay k.gs S
instance:Dn Wk It:=⟨λg _ α S H k J=> ∃P,WkD g α S H k J P,λ_ q=>q⟩
abbrev Tr(X:Cx)(W:XW)(tg iter:Expr)(f:Rho->Sto->R Wk):Prop:=Jd X W (PI X tg iter) f
variable{tg iter:Expr}
theorem MW:zCS X.g (Itl X.K a) (λα S H=> ∃b,SqL X.K H a b/\DenL X.K α H ds b) ds:=by
 intro i α S H ⟨b,s,l⟩ w;have h:=l.length;refine⟨λhi=>?_,λhi=>⟨b,s,by lia⟩⟩;have e:i<b.length:=by lia
 refine⟨⟨b,_,s,gE0 e⟩,λx H' y=>?_⟩;obtain⟨rfl,y⟩:=y;obtain⟨d,f,c⟩:=l.get (y b s);exact⟨Ext.refl _ _,w,⟨b,s,l⟩,d,f,c⟩
theorem Vo:zCS X.g (Itt X.K a) (λα S H=> ∃b,SqT X.K H a b/\DenL X.K α H ds b) ds:=by
 intro i α S H ⟨b,s,l⟩ w;have h:=l.length;refine⟨λhi=>?_,λhi=>⟨b,s,by lia⟩⟩;have e:i<b.length:=by lia
 refine⟨⟨b,_,s,gE0 e⟩,λx H' y=>?_⟩;obtain⟨rfl,y⟩:=y;obtain⟨d,f,c⟩:=l.get (y b s);exact⟨Ext.refl _ _,w,⟨b,s,l⟩,d,f,c⟩
def Vq:zCS X.g (zCP x) (λ_ _ _=>True) (x.map λc=>.str [c]):=by intro i α S H _ w;refine⟨λhi=>⟨show i<x.length by simpa using hi,λv H' y=>?_⟩,λhi=>by show x.length<=i;simpa using hi⟩;obtain⟨rfl,c,b,a⟩:=y;refine⟨Ext.refl _ _,w,trivial,.str [c],by rw[ï,b];rfl,?_⟩;rw[a];exact lV [c]
def Jf{lo:Int}:zCS X.g (zEP lo n) (λ_ _ _=>True) ((List.range n).map λk=>.int (lo+(k:Nat))):=by
 intro i α S H _ w;refine⟨λhi=>⟨show i<n by simpa using hi,λv H' y=>?_⟩,λhi=>by show n<=i;simpa using hi⟩;obtain⟨rfl,y⟩:=y;have a:=by simpa using hi
 refine⟨Ext.refl _ _,w,trivial,_,by rw[ï,getElem?_range a];rfl,?_⟩;rw[y];exact jV _
noncomputable def vM:Er->Sto->R Wk
 |.new ds,S=>.ok ⟨ds,[]⟩ S
 |.val (.scr ds),S=>.ok ⟨ds,[]⟩ S
 |.val (.loc l),S=>match S[l]? with
  |some (.lst ds)=>.ok ⟨ds,[(l,ds)]⟩ S
  |_=>.no
 |_,_=>.no
def dS:stay [] S:=λp h=>by simp at h
def yU(Z:yI X W iter f):Tr X W tg iter (λρ S=>(f ρ S).bind vM):=by
 obtain⟨t,Z,k⟩:=Z;refine⟨_,Ue Z,λα ρ S σ H Rc wd sl q=>k α ρ S σ H _ wd sl (q.bind λu p S1 aa H1 e x1 P Y z=>?_)⟩
 replace z:=z.shift x1
 unfold vM at z;split at z
 .rename_i S0 C;obtain⟨⟨b,r,rfl,E,h2,Q⟩,h4⟩:=Y;refine⟨b,rfl,⟨r,.of E⟩,z.here P ⟨λd A m=> ∃r,SqL X.K m b r/\DenL X.K d m C r/\m b=some (.lst r)/\b∉d,?_,⟨r,.of E,Q,E,h2⟩,?_,dS⟩⟩
  .intro i d A m ⟨j,B,w,v,I⟩ F;obtain⟨D,O⟩:=MW i d A m ⟨j,B,w⟩ F;refine⟨λhi=>⟨(D hi).1,λx H' y=>?_⟩,O⟩;obtain⟨J,N,j3,M⟩:=(D hi).2 x H' y;obtain⟨rfl,_⟩:=y;exact⟨J,N,⟨j,B,w,v,I⟩,M⟩
  .intro d A m G S3 H3 ⟨j,B,w,v,I⟩ x U _;exact⟨j,.of (x.keep b _ v I),w.ext x,x.keep b _ v I,x.out v I⟩
 .rename_i S0 C;obtain⟨a,r,rfl,s,l⟩:=MP Y.1;refine⟨a,rfl,⟨r,s.l⟩,z.here P ⟨λd A m=> ∃r,SqL X.K m a r/\DenL X.K d m C r/\SqF X.K m a r,?_,⟨r,s.l,l,s⟩,?_,dS⟩⟩
  .intro i d A m ⟨j,B,w,v⟩ F;obtain⟨D,O⟩:=MW i d A m ⟨j,B,w⟩ F;refine⟨λhi=>⟨(D hi).1,λx H' y=>?_⟩,O⟩;obtain⟨J,N,j3,M⟩:=(D hi).2 x H' y;obtain⟨rfl,_⟩:=y;exact⟨J,N,⟨j,B,w,v⟩,M⟩
  .intro d A m G S3 H3 ⟨j,B,w,v⟩ x U _;exact⟨j,(x.sqF v).l,w.ext x,x.sqF v⟩
 .rename_i S0 n;obtain⟨a,rfl,h⟩:=iL Y.1;obtain⟨o,E,h2⟩:=P.of h;rw[E]at z
  cases o with
  |lst C=>
   obtain⟨r,Q,l⟩:=h2;refine⟨a,rfl,⟨r,.of Q⟩,Post.here z P ⟨λd A m=> ∃r,SqL X.K m a r/\DenL X.K d m C r/\d[n]? =some a,?_,⟨r,.of Q,l,h⟩,?_,?_⟩⟩
   .intro i d A m ⟨j,B,w,v⟩ F;obtain⟨D,O⟩:=MW i d A m ⟨j,B,w⟩ F;refine⟨λhi=>⟨(D hi).1,λx H' y=>?_⟩,O⟩;obtain⟨J,N,j3,M⟩:=(D hi).2 x H' y;obtain⟨rfl,_⟩:=y;exact⟨J,N,⟨j,B,w,v⟩,M⟩
   .intro d A m G S3 H3 ⟨j,B,w,v⟩ x U hs;have L:=x.at v;have:=U.obj n a _ L (hs (n,C) (by simp));obtain⟨T,b1,b2⟩:=this;exact⟨T,.of b1,b2,L⟩
   .intro p hp;have:p=(n,C):=by simpa using hp
    subst this;exact E
  |dic C=>exact z.elim
  |ins c fs=>exact z.elim
  |rcd c fs=>exact z.elim
  |fdc _=>exact z.elim
 .exact z.elim
noncomputable def B5:Er->Sto->R Wk
 |.val (.tup ds),S=>.ok ⟨ds,[]⟩ S
 |_,_=>.no
def MX(c:yI X W iter f):Tr X W tg iter (λd S=>(f d S).bind B5):=by
 obtain⟨t,c,k⟩:=c;refine⟨_,M3 c,λα d S σ H Rc wd sl q=>k α d S σ H _ wd sl (q.bind λu p C o A e n y m b=>?_)⟩
 replace b:=b.shift n
 unfold B5 at b;split at b
 .rename_i B E;obtain⟨a,i,rfl,s,l⟩:=iK m.1;exact⟨a,rfl,⟨i,s⟩,b.here y ⟨_,Vo,⟨i,s,l⟩,λr G D w I F ⟨h,j,v⟩ x z _=>⟨h,x.sqT j,v.ext x⟩,dS⟩⟩
 .exact b.elim
noncomputable def itS:Er->Sto->R Wk
 |.val (.str x),S=>.ok ⟨x.map λc=>.str [c],[]⟩ S
 |_,_=>.no
def P8(b:yI X W iter f):Tr X W tg iter (λc S=>(f c S).bind itS):=by
 obtain⟨t,b,k⟩:=b;refine⟨_,O7 b,λα c S σ H Rc wd sl q=>k α c S σ H _ wd sl (q.bind λu p o j m e h i d a=>?_)⟩
 replace a:=a.shift h
 unfold itS at a;split at a
 .rename_i n x;exact⟨x,dR d.1,a.here (u:=zCP x) i ⟨_,Vq,trivial,λ_ _ _ _ _ _ _ _ _ _=>trivial,dS⟩⟩
 .exact a.elim
noncomputable def fP:List Er->Sto->R Wk
 |[.val (.int j)],S=>if -(2 ^ 62)<=j/\j<2 ^ 62 then .ok ⟨(List.range j.toNat).map λk=>.int (k:Nat),[]⟩ S else .no
 |_,_=>.no
variable{p:Pos}{a:Expr}
def RR{K:R0}(d:ArgsE K H0 α H [r] vs): ∃v,vs=[v]/\DenX K α H r v:=by
 cases d with
 |cons a n l=>cases l;exact⟨_,rfl,a.1⟩
def B6{K:R0}(d:ArgsE K H0 α H [r,r'] vs): ∃v u,vs=[v,u]/\DenX K α H r v/\DenX K α H r' u:=by
 cases d with
 |cons a n l=>obtain⟨u,rfl,b⟩:=RR l;exact⟨_,u,rfl,a.1,b⟩
def gI(s:Gl X "range")(u:X.mg "range"=none)(d:MR X W [a] af)(hs:starEach [a] X.env=[(false,eval a X.env)]:=by rfl):Tr X W tg (.Call (.Name "range" p) [a] [] pos) (λc S=>(af c S).bind fP):=by
 obtain⟨t,d,k⟩:=d;refine⟨_,Ih s u d hs,λα c S σ H Rc wd sl q=>k α c S σ H _ wd sl (q.bind λA w B o y e i r h b=>?_)⟩
 replace b:=b.shift i
 unfold fP at b;split at b
 .split at b
  .rename_i z j f;obtain⟨v,rfl,m⟩:=RR h;cases wG m;have:=Jf (X:=X) (lo:=0) (n:=j.toNat);simp only[Int.zero_add]at this;exact⟨j,rfl,f.1,f.2,b.here r ⟨_,this,trivial,λ_ _ _ _ _ _ _ _ _ _=>trivial,dS⟩⟩
  .exact b.elim
 .exact b.elim
open Classical in
noncomputable def kZ(gf:MV->Rho->Sto->R Rho)(a:AY)(gs:Y0):List MV->AY
 |[],ρ,S=>.ok (.next ρ) S
 |d::ds,ρ,S=>(gf d ρ S).bind λc e=>(a c e).bind λf b=>match f with
  |.next ρ'=>if stay gs b then kZ gf a gs ds ρ' b else .no
  |.cont ρ'=>if stay gs b then kZ gf a gs ds ρ' b else .no
  |.brk ρ'=>.ok (.next ρ') b
  |.ret r=>.ok (.ret r) b
open Classical in
def wH{Y:Rho->Sto->R Wk}{gf:MV->Rho->Sto->R Rho}(hp:PassesOwn ↑4 X.A X.env X.xe)(hc:X.calm=true)(hi:Tr X W tg iter Y)(hg:B4 X W tg gf)(hb:UH X W as F)
  (hs: ∀y,foldedSetIterable iter X.env y=pure y:=by intro _;rfl):Lg X W (.For tg iter as [] pos) (λZ S=>(Y Z S).bind λk S1=>kZ gf F k.gs k.ds Z S1):=by
 obtain⟨wi,hi,ki⟩:=hi;obtain⟨ag,hg,kg⟩:=hg;obtain⟨tb,hb,kb⟩:=hb;refine⟨_,M4 hp hc hi hg hb hs,λα Z S σ H D wd sl q=>ki α Z S σ H _ wd sl (q.expr λJ k S1 aa H1 e x1 w1 d1 q1=>?_)⟩;obtain⟨P,hP⟩:=d1;have af:=sl.ext x1
 replace q1:=PostS.shift x1 q1
 refine⟨λn m B E=>m=k.ds.length - n/\n<=k.ds.length/\ ∃b p G,Wd X.g b G E/\Slots X.K b E p B/\P b G E/\PostS X.g W b E D (kZ gf F k.gs (k.ds.drop n) p G),⟨_,rfl,zero_le _,aa,Z,S1,w1,af,hP.here,by simpa using q1⟩,?_⟩;rintro n m B E ⟨rfl,hn,b,p,G,w2,Q,p2,I⟩;obtain⟨i1,i2⟩:=hP.it n b G E p2 w2;by_cases s:n<k.ds.length
 .obtain⟨go,yl⟩:=i1 s;refine .inr ⟨go,λT z=> ∃h t U,Wd X.g h U z/\Slots X.K h z t T/\P h U z/\PostS X.g W h z D (kZ gf F k.gs (k.ds.drop (n+1)) t U),λT z ⟨h,t,U,h3⟩=>⟨k.ds.length - (n+1),by omega,rfl,s,h,t,U,h3⟩,λv z y=>?_⟩;obtain⟨x3,w3,p3,d,hd,dv⟩:=yl v z y;have N:k.ds.drop n=d::k.ds.drop (n+1):=by rw[Į s];have:=gE0 s;rw[hd]at this;rw[<-â this]
  rw[N]at I;unfold kZ at I
  replace I:=PostS.shift x3 I
  refine kg b p G B z d v _ w3 (Q.ext x3) dv (I.expr λab ae S4 u H4 e4 x4 w4 s4 q4=>?_);have p4: ∀a c H5,Ext u H4 a H5->Wd X.g a c H5->stay k.gs c->P a c H5:=λa c H5 o j C=>hP.stays b G z a c H5 p3 (x4.trans o) j C;refine kb u ae S4 ab H4 _ w4 s4 ((PostS.shift x4 q4).stmt ?_ ?_ ?_ ?_)
  .intro i c L a H5 e5 o j C O;have f:PostS X.g W u H4 D (if stay k.gs c then kZ gf F k.gs (k.ds.drop (n+1)) i c else .no):=O;split at f
   .rename_i M;exact⟨a,i,c,j,C,p4 a c H5 o j M,PostS.shift o f⟩
   .exact f.elim
  .intro r c v5 a H5 e5 o j d5 O;exact O v5 a H5 o j d5
  .intro i c L a H5 e5 o j C O;exact O L a H5 o j C
  .intro i c L a H5 e5 o j C O;have f:PostS X.g W u H4 D (if stay k.gs c then kZ gf F k.gs (k.ds.drop (n+1)) i c else .no):=O;split at f
   .rename_i M;exact⟨a,i,c,j,C,p4 a c H5 o j M,PostS.shift o f⟩
   .exact f.elim
 .have e:n=k.ds.length:=by omega
  subst e;refine .inl ⟨i2 (à _),?_⟩;rw[drop_length]at I;exact I B b E (Ext.refl _ _) w2 Q
noncomputable def jI(t:AZ)(b:AY):Nat->AY
 |0,_,_=>.no
 |n+1,ρ,S=>(t ρ S).bind λk c=>if k=true then(b ρ c).bind λd a=>match d with
   |.next ρ'=>jI t b n ρ' a
   |.cont ρ'=>jI t b n ρ' a
   |.brk ρ'=>.ok (.next ρ') a
   |.ret r=>.ok (.ret r) a
  else .ok (.next ρ) c
def vZ(N)(hp:PassesOwn ↑4 X.A X.env X.xe)(G:MQ X W c tf)(J:UH X W as F):Lg X W (.While c as [] pos) (λI S=>jI tf F N I S):=by
 obtain⟨tc,G,kc⟩:=G;obtain⟨tb,J,kb⟩:=J;refine⟨_,Lq hp G J,λα I S σ H D wd sl q=>⟨λm e t=> ∃b d C,Wd X.g b C t/\Slots X.K b t d e/\PostS X.g W b t D (jI tf F m d C),⟨N,α,I,S,wd,sl,q⟩,?_⟩⟩;rintro m e t ⟨b,d,C,Z,i,O⟩
 cases m with
 |zero=>exact O.elim
 |succ n=>
  refine kc b d C e t _ Z i (O.expr λu p S2 v P e2 E M d2 y=>?_);cases d2
  replace y:=PostS.shift E y
  cases u with
  |false=>rw[iN xF0]at y ⊢; exact y e v P (Ext.refl _ _) M (i.ext E)
  |true=>
   refine⟨λaa H3=> ∃T Y S3,_,λU H' h=>⟨n,Nat.lt_succ_self n,h⟩,kb v d S2 e P _ M (i.ext E) (y.stmt ?_ ?_ ?_ ?_)⟩
   .intro f B j a H5 L o k z s;exact⟨a,f,B,k,z,PostS.shift o s⟩
   .intro r B v5 a H5 L o k Q s;exact s v5 a H5 o k Q
   .intro f B j a H5 L o k z s;exact s j a H5 o k z
   .intro f B j a H5 L o k z s;exact⟨a,f,B,k,z,PostS.shift o s⟩
end
noncomputable def noX:R β->R β
 |.ok b S=>.ok b S
 |_=>.no
theorem jX(b:β)(S):noX (R.ok b S)=.ok b S:=rfl
def Post.bindY[Dn β τ][Dn γ υ]{g:Gm}{W:XW}{α α':B9}{H H':Hp}(x:Ext α H α' H'){m:R β}{k:β->Sto->R γ}{Q:υ->Hp->Prop}{i:τ->Hp->Prop}(q:Post g W α H ((noX m).bind k) Q)
  (f: ∀u b h a e,m=.ok b h->Ext α' H' a e->Wd g a h e->Dn.d g H' a h e b u->Post g W α H (k b h) Q->i u e):Post g W0 α' H' m i:=by
 cases m with
 |ok b S=>exact λu a e x w d=>f u b S a e rfl x w d q
 |exc c fs S=>exact q.elim
 |no=>exact q
theorem R.bind_assoc(m:R β)(k1)(a:γ->Sto->R δ):(m.bind k1).bind a=m.bind λb S=>(k1 b S).bind a:=by cases m<;>rfl
noncomputable def vN(nt:Nat)(a:Db)(ρ:Rho):Rho:=List.replicate nt none++a.map λi=>(ρ[i]?).join
open Classical in
def xM(gf:MV->Rho->Sto->R Rho)(cf:AZ)(ef:AX)(ρb:Rho)(gs:Y0):List MV->Sto->R (List MV)
 |[],S=>.ok [] S
 |d::ds,S=>(noX (gf d ρb S)).bind λa e=>(noX (cf a e)).bind λk b=>
  if k=true then(noX (ef a b)).bind λr f=>(bD r f).bind λy c=>if stay gs c then(xM gf cf ef ρb gs ds c).bind λout h=>.ok (y::out) h else .no
  else if stay gs b then xM gf cf ef ρb gs ds b else .no
theorem Jg{K:R0}(q:Slots K α H ρ σ)(nt)(idx)(τ)(a:τ.length=nt):Slots K α H (vN nt idx ρ) (τ++IE σ idx):=by
 refine⟨by unfold vN;rw[lA,lA,pV,lM,Ď,a],λi d e=>?_⟩;unfold vN at e;by_cases hi:i<nt
 .rw[á (by rw[Ď];exact hi),List.getElem?_replicate]at e;split at e<;>cases e
 .rw[é (by rw[Ď];lia),Ď,ï]at e
  cases z:idx[i - nt]? with
  |none=>rw[z]at e;cases e
  |some k=>
   rw[z]at e;have b:(ρ[k]?).join=some d:=â e
   cases c:ρ[k]? with
   |none=>rw[c]at b;cases b
   |some o=>
    rw[c]at b;have h:=b;subst h;obtain⟨v,j,f⟩:=q.slot k d c;refine⟨v,?_,f⟩;rw[é #[0],a];unfold IE;rw[ï,z];show some (σ[k]?).join=some _;rw[j];rfl
def Keeps(nt:Nat)(σ:St)(Q:St->Hp->Prop):St->Hp->Prop:=λa H'=>a.length=σ.length->(∀j,nt<=j->a[j]? =σ[j]?)->Q a H'
def zBC(nt:Nat)(X:Cx)(W:XW)(tg:Expr)(gf:MV->Rho->Sto->R Rho):Prop:=
 ∃t,PG X tg t/\ ∀α a S σ H d v Q,Wd X.g α S H->Slots X.K α H a σ->Den X.K α H d v->Post X.g W α H (gf d a S) (Keeps nt σ Q)->t v σ H Q
def Vr(nt:Nat)(X:Cx)(W:XW)(a:Q0)(gf:List MV->Rho->Sto->R Rho):Prop:=
 ∃t,zBA X a t/\ ∀α d S σ H c b Q,Wd X.g α S H->Slots X.K α H d σ->DenL X.K α H c b->Post X.g W α H (gf c d S) (Keeps nt σ Q)->t b σ H Q
section
variable{X:Cx}{W:XW}{pos:Pos}{nt:Nat}
theorem xB(i)(b:X.N.Nodup)(hi:X.N[i]? =some x:=by rfl)(e:Loc X.env.scope x:=by first |exact Or.inl rfl|exact Or.inr rfl)(a:z3 X x:=by first |exact .inl rfl|exact .inr rfl|assumption)(f:i<nt:=by decide):
  zBC nt X W (.Name x pos) (yX i):=⟨_,Dz b hi e a,λα h S σ H d v Q wd sl c q=>Post.here q wd (sl.set c) (by rw[ÿ]) λj k=>by rw[ĥ #[0]]⟩
def Mx:Vr nt X W [] gV:=⟨_,Ea,λα e S σ H a c Q wd sl b q=>by
 cases a with
 |nil=>exact⟨b.isnil,Post.here q wd sl rfl λ_ _=>rfl⟩
 |cons d a=>exact q.elim⟩
def Post.keeps{m:R Rho}(k:σ1.length=σ.length)(h: ∀j,nt<=j->σ1[j]? =σ[j]?)(q:Post g W α H m (Keeps nt σ Q)):Post g W α H m (Keeps nt σ1 Q):=by
 cases m with
 |ok b S=>exact λu a f x w d i n=>q u a f x w d (i.trans k) λj e=>(n j e).trans (h j e)
 |exc c fs S=>exact q
 |no=>exact q
def LK(j:zBC nt X W e g1)(f:Vr nt X W es g2)(hs:(assignEach (e::es) X.env).map (·.2)=assign e X.env::(assignEach es X.env).map (·.2):=by rfl):Vr nt X W (e::es) (zV g1 g2):=by
 obtain⟨B,j,b⟩:=j;obtain⟨A,f,z⟩:=f;refine⟨_,XS j f hs,λα n S σ H h C Q wd sl y q=>?_⟩
 cases h with
 |nil=>exact q.elim
 |cons d h=>
  obtain⟨v,r,rfl,a,l⟩:=y.uncons;refine⟨v,r,rfl,b α n S σ H d v _ wd sl a (Post.bind q λu p s c o e k w m t b i=>z c p s u o h r Q w m (l.ext k) (Post.keeps b i (t.shift k)))⟩
def Mz{k:Nat}(c:X.calm=true)(h:Vr nt X W es g2)
  (hn:(assignEach es X.env).length=n:=by rfl) (hst:(assignEach es X.env).findIdx? (·.1)=none:=by rfl):zBC nt X W (.Tuple es k pos) (KB n g2):=by
 obtain⟨t,h,k⟩:=h;refine⟨_,Lp c h hn hst,λα e S σ H d v Q wd sl f q=>?_⟩;unfold KB at q;split at q
 .split at q
  .rename_i i;obtain⟨a,b,rfl,s,l⟩:=wD f;exact⟨a,b,rfl,s,by rw[l.length];exact i,k α e S σ H _ b Q wd sl l q⟩
  .exact q.elim
 .exact q.elim
end
abbrev Na(X:Cx)(W:XW)(a:Q0)(f:AZ):Prop:=Jd X W (Iz X a) f
section
variable{X:Cx}{W:XW}{iter:Expr}{c:Expr}{pos:Pos}
def cS:Na X W [] (λ_ S=>.ok true S):=⟨_,Mi,λα a S σ H Q wd sl q=>q.here wd rfl⟩
def dU(h:MQ X W c tf):Na X W [c] tf:=let ⟨t,h,k⟩:=h;⟨t,Mj h,k⟩
open Classical in
def El{C:Cx->Prop}{af tg:Expr}{ab:Q0}{Z:Scope}{aj:Rho->Sto->R Wk}{cf:AZ}{ef:AX}{gf:MV->Rho->Sto->R Rho}(ao:Scope)(N:K0)(T:K0)(f:Db)
  (hi:Jd X W (zBU C X tg iter) aj) (hCx: ∀c a L fp pins σ,Inv X pins σ L a->C (yG X Z T f c a L fp))
  (hg: ∀C a p fp,([]++T++f.map λi=>(N[i]?).getD Str.empty).Nodup->zBC T.length (yG X Z T f C a p fp) W0 tg gf)
  (hc: ∀C a p fp,Na (yG X Z T f C a p fp) W0 ab cf) (he: ∀C a p fp,yI (yG X Z T f C a p fp) W0 af ef)
  (e1:X.env.scope=ao:=by rfl) (e2:X.N=N:=by rfl) (hB:JW ao N Z f=true:=by decide+kernel) (hN:([]++T++f.map λi=>(N[i]?).getD Str.empty).Nodup:=by decide+kernel)
  (hs: ∀y,foldedSetIterable iter X.env y=pure y:=by intro _;rfl):
  Jd (β:=Er) (τ:=V) X W (λt=>PE X (.ListComp af [⟨tg,iter,ab,0⟩] Z pos) t/\PU X (.ListComp af [⟨tg,iter,ab,0⟩] Z pos) t) (λz S=>(aj z S).bind λk S1=>if k.ds.length<1000000 then(xM gf cf ef (vN T.length f z) k.gs k.ds S1).bind λout F=>.ok (.new out) F else .no):=by
 obtain⟨wi,hi,ki⟩:=hi;subst e1 e2;have ay:(1000000:Nat)<sizeLine:=by rw[đ];decide
 have ar: ∃t,(∀C a p fp,PG (yG X Z T f C a p fp) tg t)/\ ∀α z S σ H d v Q,Wd X.g α S H->Slots X.K α H z σ->Den X.K α H d v->Post X.g W0 α H (gf d z S) (Keeps T.length σ Q)->t v σ H Q:=by refine⟨λv σ H Q=> ∃α z S d,Wd X.g α S H/\Slots X.K α H z σ/\Den X.K α H d v/\Post X.g W0 α H (gf d z S) (Keeps T.length σ Q),λC a p fp pins s σ H v u Q I r ⟨α,z,S,d,h1,h2,h3,h4⟩=>?_,λα z S σ H d v Q h1 h2 h3 h4=>⟨α,z,S,d,h1,h2,h3,h4⟩⟩;obtain⟨t,ht,kt⟩:=hg C a p fp hN;exact ht pins s σ H v u Q I r (kt α z S σ H d v Q h1 h2 h3 h4)
 obtain⟨az,ak,kg⟩:=ar;refine⟨_,⟨Vc T f hi hCx hB ak (λC a p fp=>(û (hc C a p fp)).1) (λC a p fp=>(û (he C a p fp)).1) hs,Vf T f hi hCx hB ak (λC a p fp=>(û (hc C a p fp)).1) (λC a p fp=>(û (he C a p fp)).1) hs⟩,λα z S σ H Q wd sl q=>ki α z S σ H _ wd sl (q.bind λJ k S1 aq p e1 x1 w1 d1 q1=>?_)⟩;obtain⟨P,hP⟩:=d1;split at q1
 .rename_i aw
  refine⟨λn m ys L=>m=k.ds.length - n/\n<=k.ds.length/\ys.length<=n/\ ∃A F,Ext α H A L/\Wd X.g A F L/\P A F L/\ ∃h,DenL X.K A L h ys/\Post X.g W α H ((xM gf cf ef (vN T.length f z) k.gs (k.ds.drop n) F).bind λo B=>.ok (Er.new (h++o)) B) Q,
   ⟨_,rfl,zero_le _,à _,aq,S1,x1,w1,hP.here,[],xL,by simpa using q1⟩,?_⟩
  rintro n m ys L ⟨rfl,hn,hy,A,F,x2,w2,p2,h,l,q2⟩;obtain⟨i1,i2⟩:=hP.it n A F L p2 w2;refine⟨by omega,?_⟩;by_cases E:n<k.ds.length
  .obtain⟨go,yl⟩:=i1 E;refine .inr ⟨go,by omega,λv H3 y τ O=>?_⟩;obtain⟨x3,w3,p3,d,hd,dv⟩:=yl v H3 y;have ae:k.ds.drop n=d::k.ds.drop (n+1):=by rw[Į E];have:=gE0 E;rw[hd]at this;rw[<-â this]
   rw[ae]at q2;unfold xM at q2;have au:=Jg (sl.ext (x2.trans x3)) T.length f τ O;refine kg A (vN T.length f z) F _ H3 d v _ w3 au dv ?_;rw[R.bind_assoc]at q2;refine q2.bindY (x2.trans x3) λM ai S4 ag H4 e4 x4 w4 s4 q4 aa av=>⟨⟨M.take T.length,?_,?_⟩,λC a fp=>?_⟩
   .refine ext_getElem? λj=>?_;have aF:M.length=T.length+f.length:=by rw[aa,lA,pV,O]
    by_cases hj:j<T.length
    .rw[á (by rw[lT];omega),Ē hj]
    .rw[av j (by omega),é (by omega),é (by rw[lT];omega),O,lT,min_eq_left (by omega)]
   .rw[lT,aa,lA,pV,O];omega
   have U:Ext α H ag H4:=(x2.trans x3).trans x4;have p4: ∀w Y H5,Ext ag H4 w H5->Wd X.g w Y H5->stay k.gs Y->P w Y H5:=λw Y H5 G w5 s5=>hP.stays A F H3 w Y H5 p3 (x4.trans G) w5 s5;rw[R.bind_assoc]at q4;refine(û (hc C a p fp)).2 ag ai S4 M H4 _ w4 s4 (q4.bindY U λb5 ax Y w H5 e5 G w5 d5 q5=>?_);cases d5
   cases b5 with
   |false=>
    rw[iN xF0]at q5 ⊢;split at q5
    .rename_i ah;exact⟨k.ds.length - (n+1),by omega,rfl,E,by omega,w,Y,U.trans G,w5,p4 w Y H5 G w5 ah,h,(l.ext (x3.trans x4)).ext G,q5⟩
    .exact q5.elim
   |true=>
    rw[iP rfl,R.bind_assoc]at q5;rw[iP rfl];refine(û (he C a p fp)).2 w ai Y M H5 _ w5 (s4.ext G) (q5.bindY (U.trans G) λy6 r6 S6 aD H6 e6 x6 w6 d6 q6=>?_);obtain⟨d',B,α',e7,x7,y7,w7,de⟩:=aO w6 x6 d6;rw[e7]at q6;have q6:Post X.g W α H ((if stay k.gs B then(xM gf cf ef (vN T.length f z) k.gs (k.ds.drop (n+1)) B).bind λout S4=>.ok (d'::out) S4 else .no).bind λo B=>.ok (Er.new (h++o)) B) Q:=q6;split at q6
    .rename_i ah;refine⟨k.ds.length - (n+1),by omega,rfl,E,by rw[lA,lS];omega,α',B,(U.trans G).trans x7,w7,p4 α' B H6 (G.trans x7) w7 ah,h++[d'],((l.ext (x3.trans x4)).ext (G.trans x7)).append (yT de xL),?_⟩;rw[R.bind_assoc]at q6;have e8:(λ(o:U0) (B:Sto)=>R.ok (Er.new ((h++[d'])++o)) B)=(λ(b:U0) S=>(R.ok (d'::b) S).bind λo B=>.ok (Er.new (h++o)) B):=by funext o B;show _=R.ok (Er.new (h++(d'::o))) B;rw[aA];rfl
     rw[e8];exact q6
    .exact q6.elim
  .have e:n=k.ds.length:=by omega
   subst e;rw[drop_length]at q2;have q3:Post X.g W α H (.ok (Er.new (h++[])) F) Q:=q2;rw[aN]at q3;exact .inl ⟨i2 (à _),λD hD=>(q3.shift x2).newl w2 hD l⟩
 .exact q1.elim
open Classical in
def wI{j tg:Expr}{m:Q0}{e:Scope}{f:Rho->Sto->R Wk}{cf:AZ}{ef:AX}{gf:MV->Rho->Sto->R Rho}(c:Scope)(N:K0)(T:K0)(a:Db)
  (hi:Tr X W tg iter f) (hcalm:X.calm=true)
  (hg: ∀C b d fp,([]++T++a.map λi=>(N[i]?).getD Str.empty).Nodup->zBC T.length (yG X e T a C b d fp) W0 tg gf)
  (hc: ∀C b d fp,Na (yG X e T a C b d fp) W0 m cf) (he: ∀C b d fp,yI (yG X e T a C b d fp) W0 j ef)
  (e1:X.env.scope=c:=by rfl) (e2:X.N=N:=by rfl) (hB:JW c N e a=true:=by decide+kernel) (hN:([]++T++a.map λi=>(N[i]?).getD Str.empty).Nodup:=by decide+kernel)
  (hs: ∀y,foldedSetIterable iter X.env y=pure y:=by intro _;rfl):
  yI X W (.ListComp j [⟨tg,iter,m,0⟩] e pos) (λn S=>(f n S).bind λk p=>if k.ds.length<1000000 then(xM gf cf ef (vN T.length a n) k.gs k.ds p).bind λout o=>.ok (.new out) o else .no):=let ⟨t,h,k⟩:=(El c N T a hi (λ_ _ _ _ _ _ _=>hcalm) hg hc he e1 e2 hB hN hs);⟨t,h.1,k⟩
open Classical in
def LL{x:Str}{d c:Pos}(i:Nat)(v:X.N.Nodup){n tg:Expr}{j:Q0}{o:Scope}{s:Rho->Sto->R Wk}{cf:AZ}{ef:AX}{gf:MV->Rho->Sto->R Rho}(m:Scope)(N:K0)(T:K0)(a:Db)
  (hi:Tr X W tg iter s) (hcalm:X.calm=true)
  (hg: ∀C b f fp,([]++T++a.map λi=>(N[i]?).getD Str.empty).Nodup->zBC T.length (yG X o T a C b f fp) W0 tg gf)
  (hc: ∀C b f fp,Na (yG X o T a C b f fp) W0 j cf) (he: ∀C b f fp,yI (yG X o T a C b f fp) W0 n ef)
  (z:X.env.scope=m:=by rfl) (e2:X.N=N:=by rfl) (hB:JW m N o a=true:=by decide+kernel) (hN:([]++T++a.map λi=>(N[i]?).getD Str.empty).Nodup:=by decide+kernel)
  (hs: ∀y,foldedSetIterable iter X.env y=pure y:=by intro _;rfl)
  (hi2:X.N[i]? =some x:=by rfl) (hx:Loc X.env.scope x:=by first |exact Or.inl rfl|exact Or.inr rfl)
  (hsw:swapsWith (.ListComp n [⟨tg,iter,j,0⟩] o pos) (some (.Name x d)) c.line X.env=pure true:=by with_unfolding_all rfl) (hf:z3 X x:=by first |exact .inl rfl|exact .inr rfl|assumption):
  Lg X W (.Assign [.Name x d] (.ListComp n [⟨tg,iter,j,0⟩] o pos) c) (λp S=>((s p S).bind λk B=>if k.ds.length<1000000 then(xM gf cf ef (vN T.length a p) k.gs k.ds B).bind λout L=>.ok (.new out) L else .no).bind (UI p i)):=by
 obtain⟨t,h,k⟩:=(El m N T a hi (λ_ _ _ _ _ _ _=>hcalm) hg hc he z e2 hB hN hs)
 refine⟨_,h.2 i x d c v hi2 hx hf hsw,λα p S σ H D wd sl q=>k α p S σ H _ wd sl (q.expr λu r B F f e A I E w=>?_)⟩;obtain⟨P,O,α',z,M,K,G,J⟩:=aO I A E;unfold UI at w;rw[z]at w;exact w _ α' f M G (((sl.ext A).ex0 K).set J)
end
mutual
def lo(n:Nat):MV->Prop
 |.loc l=>l<n
 |.tup ds=>sK n ds
 |.scr ds=>sK n ds
 |.obj _ _ ds=>sK n ds
 |_=>True
def sK(n:Nat):List MV->Prop
 |[]=>True
 |d::ds=>lo n d/\sK n ds
end
def loO(n:Nat):MO->Prop
 |.lst ds=>sK n ds
 |.dic kvs=> ∀p∈kvs,lo n p.1/\lo n p.2
 |.ins _ fs=> ∀p∈fs,lo n p.2
 |.rcd _ fs=> ∀p∈fs,lo n p.2
 |.fdc kvs=> ∀p∈kvs,lo n p.1/\lo n p.2
section
variable{K:R0}{α t:B9}{H:Hp}
mutual
theorem Den.back: ∀{d:MV}{v:V},Den K (α++t) H d v->lo α.length d->Den K α H d v
 |.non,_,q,_=>by cases iH q;exact DA
 |.bl _,_,q,_=>by cases sQ q;exact gP _
 |.int _,_,q,_=>by cases wQ q;exact jV _
 |.str _,_,q,_=>by cases jG q;exact lV _
 |.typ _,_,q,_=>by cases iI q;exact Eh _
 |.obj c ns ds,_,q,h=>by obtain⟨a,C,k,f,o,rfl,e,i,j,b,l⟩:=aK q;exact Vh e i j b (DenL.back l (by unfold lo at h;exact h))
 |.loc l,_,q,h=>by
  obtain⟨a,rfl,e⟩:=dQ q;have b:l<α.length:=by unfold lo at h;exact h
  rw[á b]at e;exact eY e
 |.tup ds,_,q,h=>by obtain⟨a,f,rfl,s,l⟩:=wD q;exact pW s (DenL.back l (by unfold lo at h;exact h))
 |.scr ds,_,q,h=>by obtain⟨a,f,rfl,s,l⟩:=aL q;exact Ei s (DenL.back l (by unfold lo at h;exact h))
theorem DenL.back: ∀{ds:U0}{vs:List V},DenL K (α++t) H ds vs->sK α.length ds->DenL K α H ds vs
 |[],_,q,_=>by rw[q.isnil];exact xL
 |d::ds,_,q,h=>by obtain⟨v,r,rfl,a,l⟩:=q.uncons;unfold sK at h;exact yT (Den.back a h.1) (DenL.back l h.2)
end
mutual
theorem Den.lo: ∀{d:MV}{v:V},Den K α H d v->lo α.length d
 |.non,_,q=>by unfold M.lo;trivial
 |.bl _,_,q=>by unfold M.lo;trivial
 |.int _,_,q=>by unfold M.lo;trivial
 |.str _,_,q=>by unfold M.lo;trivial
 |.typ _,_,q=>by unfold M.lo;trivial
 |.obj c ns ds,_,q=>by obtain⟨a,C,f,b,o,rfl,e,h,j,i,l⟩:=aK q;unfold M.lo;exact DenL.lo l
 |.loc l,_,q=>by obtain⟨a,rfl,e⟩:=dQ q;unfold M.lo;exact(gS.mp e).1
 |.tup ds,_,q=>by obtain⟨a,b,rfl,s,l⟩:=wD q;unfold M.lo;exact DenL.lo l
 |.scr ds,_,q=>by obtain⟨a,b,rfl,s,l⟩:=aL q;unfold M.lo;exact DenL.lo l
theorem DenL.lo: ∀{ds:U0}{vs:List V},DenL K α H ds vs->sK α.length ds
 |[],_,q=>by unfold sK;trivial
 |d::ds,_,q=>by obtain⟨v,r,rfl,a,l⟩:=q.uncons;unfold sK;exact⟨Den.lo a,DenL.lo l⟩
end
theorem DenK.back: ∀{fs gs},DenK K (α++t) H fs gs->(∀p∈fs,M.lo α.length p.1/\M.lo α.length p.2)->DenK K α H fs gs
 |_,_,.nil,_=>.nil
 |_,_,.cons k a l,h=>.cons k (a.back (h _ mF0).2) (DenK.back l λp b=>h p (mO _ b))
def KeyD.lo(h:KeyD k k'):M.lo n k:=by
 unfold KeyD at h;split at h
 .unfold M.lo;trivial
 .unfold M.lo;trivial
 .exact h.elim
theorem DenK.lo: ∀{fs gs},DenK K α H fs gs-> ∀p∈fs,M.lo α.length p.1/\M.lo α.length p.2
 |_,_,.nil=>λp h=>by simp at h
 |_,_,.cons k a l=>λp h=>(mC.mp h).elim (λe=>by subst e;exact⟨k.lo,a.lo⟩) (DenK.lo l p)
theorem DenN.back: ∀{fs xs},DenN K (α++t) H fs xs->(∀p∈fs,M.lo α.length p.1/\M.lo α.length p.2)->DenN K α H fs xs
 |_,_,.nil,_=>.nil
 |_,_,.cons k e a d r l,h=>.cons k e (a.back (h _ mF0).1) (d.back (h _ mF0).2) r (DenN.back l λp b=>h p (mO _ b))
theorem DenN.lo: ∀{fs xs},DenN K α H fs xs-> ∀p∈fs,M.lo α.length p.1/\M.lo α.length p.2
 |_,_,.nil=>λp h=>by simp at h
 |_,_,.cons k e a d r l=>λp h=>(mC.mp h).elim (λz=>by subst z;exact⟨a.lo,d.lo⟩) (DenN.lo l p)
theorem DenF.back: ∀{fs gs},DenF K (α++t) H fs gs->(∀p∈fs,M.lo α.length p.2)->DenF K α H fs gs
 |_,_,.nil,_=>.nil
 |_,_,.cons a l,h=>.cons (a.back (h _ mF0)) (DenF.back l λp b=>h p (mO _ b))
theorem DenF.lo: ∀{fs gs},DenF K α H fs gs-> ∀p∈fs,M.lo α.length p.2
 |_,_,.nil=>λp h=>by simp at h
 |_,_,.cons a l=>λp h=>(mC.mp h).elim (λe=>by subst e;exact a.lo) (DenF.lo l p)
def ObD.back(q:ObD g (α++t) H a o)(h:loO α.length o):ObD g α H a o:=by
 cases o with
 |lst ds=>obtain⟨d,b,l⟩:=q;exact⟨d,b,l.back h⟩
 |dic ds=>
  rcases q with⟨d,b,l⟩|⟨d,b,l⟩
  .exact .inl ⟨d,b,l.back h⟩
  .exact .inr ⟨d,b,l.back h⟩
 |ins c fs=>obtain⟨C,e,m,l,r⟩:=q;exact⟨C,e,m,l.back h,r⟩
 |rcd c fs=>obtain⟨C,f,e,m,b,l⟩:=q;exact⟨C,f,e,m,b,l.back h⟩
 |fdc kvs=>obtain⟨i,xs,b,l⟩:=q;exact⟨i,xs,b,l.back h⟩
def ObD.lo(q:ObD g α H a o):loO α.length o:=by
 cases o with
 |lst ds=>obtain⟨d,b,l⟩:=q;exact l.lo
 |dic ds=>
  rcases q with⟨d,b,l⟩|⟨d,b,l⟩
  .exact l.lo
  .exact l.lo
 |ins c fs=>obtain⟨C,e,m,l,r⟩:=q;exact l.lo
 |rcd c fs=>obtain⟨C,f,e,m,b,l⟩:=q;exact l.lo
 |fdc kvs=>obtain⟨h,xs,b,l⟩:=q;exact l.lo
end
def Em(S a:Sto):Prop:=↑0<=a.length/\ ∀l,l<↑0->a[l]? =S[l]? \/ ∃o,a[l]? =some o/\loO ↑0 o
open Classical in
noncomputable def bY(S:Sto)(r:Er)(a:Sto):R Er:=
 if Em S a then match r with
  |.val (.loc l)=>if l<S.length then .ok r (a.take S.length)else match a[l]? with
   |some (.lst ds)=>if sK S.length ds then .ok (.new ds) (a.take S.length)else .ok r a
   |_=>.ok r a
  |.val d=>if lo S.length d then .ok r (a.take S.length)else .ok r a
  |.new ds=>if sK S.length ds then .ok r (a.take S.length)else .ok r a
 else .ok r a
theorem Vs(E:Ext α H α1 H1)(P:Wd g α1 S1 H1)(M: ∃t,α2=α1++t)(X:Ext α H α2 H1)(T:Ext α2 H1 α3 H3)(k:Wd g α3 S3 H3)(d:DenE g.K H1 α3 H3 r v):
  ∃U Q α',bY S1 r S3=.ok U Q/\Ext α H α' H3/\Wd g α' Q H3/\DenE g.K H α' H3 U v:=by
 have f:=X.trans T;have c:=d.back λb h=>E.free h;unfold bY;by_cases F:Em S1 S3
 .rw[iP F];obtain⟨t,y⟩: ∃t,α3=α1++t:=by obtain⟨t,e⟩:=M;obtain⟨u,e'⟩:=T.pre;exact⟨_,by rw[e',e,aA]⟩
  have A:=P.len;have p:Ext α H α1 H3:=⟨⟨E.pre,f.tup,f.frz⟩,E.new,f.keep,f.has⟩
  have n:Wd g α1 (S3.take S1.length) H3:=by
   refine⟨by rw[lT,A,min_eq_left F.1],P.nd,λl a o B w=>?_⟩;have i:l<S1.length:=by rw[<-A];exact(gS.mp B).1
   rw[Ē i]at w;have N:α3[l]? =some a:=by rw[y,á (by rw[A];exact i)];exact B
   have q:=k.obj l a o N w;rw[y]at q;refine q.back ?_;rcases F.2 l i with e|⟨o',e,lo'⟩
   .rw[e]at w;exact(P.obj l a o B w).lo
   .rw[w]at e;cases e;rw[A];exact lo'
  have j: ∀d,lo S1.length d->Den g.K α3 H3 d v->DenE g.K H α1 H3 _ v:=λd hd q=>.val ((y▸q:Den g.K _ H3 d v).back (by rw[A];exact hd))
  cases r with
  |new L=>
   dsimp only;split
   .rename_i i;obtain⟨⟨b,D,rfl,B,w,h3⟩,Z⟩:=c;exact⟨_,_,α1,rfl,p,n,⟨b,D,rfl,B,λz=>w (by rw[y];exact Ę _ z),(y▸h3:DenL g.K _ H3 L D).back (by rw[A];exact i)⟩,Z⟩
   .exact⟨_,_,α3,rfl,f,k,c⟩
  |val mv=>
   have s:Den g.K α3 H3 mv v:=c.1
   cases mv with
   |loc l=>
    dsimp only;split
    .rename_i i;exact⟨_,_,α1,rfl,p,n,j _ (by unfold lo;exact i) s⟩
    .rename_i i;obtain⟨a,rfl,G⟩:=dQ s;split
     .rename_i L Y;split
      .rename_i I;obtain⟨D,B,w⟩:=k.obj l a _ G Y
       have C:a∉α1:=λz=>by
        obtain⟨m,S⟩:=getElem?_of_mem z;have J:m<α1.length:=(gS.mp S).1;have O:α3[m]? =some a:=by rw[y,á J];exact S
        obtain⟨u1,e1⟩:=gS.mp O;obtain⟨u2,e2⟩:=gS.mp G;have:=(getElem_inj k.nd).mp (e1.trans e2.symm)
        lia
       refine⟨_,_,α1,rfl,p,n,⟨a,D,rfl,B,C,(y▸w:DenL g.K _ H3 L D).back (by rw[A];exact I)⟩,λb e=>?_⟩;cases e;rcases f.new a (î G)with z|z
       .obtain⟨u,W⟩:=E.pre;exact absurd (by rw[W];exact Ę _ z) C
       .exact z
      .exact⟨_,_,α3,rfl,f,k,c⟩
     .exact⟨_,_,α3,rfl,f,k,c⟩
   |non=>dsimp only;split;(· rename_i i;exact⟨_,_,α1,rfl,p,n,j _ i s⟩);(· exact⟨_,_,α3,rfl,f,k,c⟩)
   |bl b=>dsimp only;split;(· rename_i i;exact⟨_,_,α1,rfl,p,n,j _ i s⟩);(· exact⟨_,_,α3,rfl,f,k,c⟩)
   |int b=>dsimp only;split;(· rename_i i;exact⟨_,_,α1,rfl,p,n,j _ i s⟩);(· exact⟨_,_,α3,rfl,f,k,c⟩)
   |str b=>dsimp only;split;(· rename_i i;exact⟨_,_,α1,rfl,p,n,j _ i s⟩);(· exact⟨_,_,α3,rfl,f,k,c⟩)
   |typ b=>dsimp only;split;(· rename_i i;exact⟨_,_,α1,rfl,p,n,j _ i s⟩);(· exact⟨_,_,α3,rfl,f,k,c⟩)
   |obj b b' b''=>dsimp only;split;(· rename_i i;exact⟨_,_,α1,rfl,p,n,j _ i s⟩);(· exact⟨_,_,α3,rfl,f,k,c⟩)
   |tup b=>dsimp only;split;(· rename_i i;exact⟨_,_,α1,rfl,p,n,j _ i s⟩);(· exact⟨_,_,α3,rfl,f,k,c⟩)
   |scr b=>dsimp only;split;(· rename_i i;exact⟨_,_,α1,rfl,p,n,j _ i s⟩);(· exact⟨_,_,α3,rfl,f,k,c⟩)
 .rw[iN F];exact⟨_,_,α3,rfl,f,k,c⟩
def Ba(g:Gm)(n:Nat)(F:List MV->Sto->R Er):Sp:=λb H Q _=> ∃α S a,Wd g α S H/\DenL g.K α H a b/\a.length=n/\Post g W0 α H (F a S) Q
def zS(n:Nat)(F:List MV->Sto->R Er)(rs:List Er)(S:Sto):R Er:=if rs.length=n then(noX (F (zP rs S).1 (zP rs S).2)).bind λr a=>bY S r a else .no
section
variable{X:Cx}{pos:Pos}
def RS(b:Ext α H α1 H1)(d:Wd X.g α1 S1 H1)(i:ArgsE X.K H α1 H1 rs vs)(q:Post X.g W α H (zS n F rs S1) Q):
  Ba X.g n F vs H1 Q E0:=by
 unfold zS at q;split at q
 .rename_i u;obtain⟨a,f,e,w,t⟩:=sR d b i;refine⟨a,_,_,w,t,by rw[DC];exact u,?_⟩
  cases z:F (zP rs S1).1 (zP rs S1).2 with
  |ok r S3=>
   rw[z]at q;intro v y j k h o;obtain⟨C,B,α',A,p,m,s⟩:=Vs b d e.pre f k h o;have q:Post X.g W α H (bY S1 r S3) Q:=q;rw[A]at q;exact q v α' j p m s
  |exc c fs S3=>rw[z]at q;exact q.elim
  |no=>rw[z]at q;exact q.elim
 .exact q.elim
def Vt{p:Pos}(G:FnOk X.prog X.w X.K X.mg X.base PZ k fa fd ps (Ba X.g n F))(j:Room k X.A)(s:Gl X x)(u:X.mg x=some (.ref fa))
  (hk:PySem.W.keepIn X.K (.ref fa)=true) (hb:Binds X.K fd ps []) (b:MR X W (e::es) af) (hdb:(x==("__debug__"))=false:=by decide)
  (he:q8 X e es:=by rfl) (hpl:q9 X pos es:=by rfl):
  yI X W (.Call (.Name x p) (e::es) [] pos) (λa S=>(af a S).bind λc d=>zS n F c d):=by
 obtain⟨t,b,o⟩:=b;refine⟨_,Um G j s u hk hb .nil Mg b hdb he hpl,λα a S σ H Q wd sl q=>o α a S σ H _ wd sl (q.bind λz c d m v y i r h f=>?_)⟩;rw[aN];exact RS i r h f
end
noncomputable def yH(N:K0)(ds:U0):Rho:=ds.map some++List.replicate (N.length - ds.length) none
noncomputable def yP:R Fl->R Er
 |.ok (.next _) S=>.ok (.val .non) S
 |.ok (.ret r) S=>.ok r S
 |.exc c fs S=>.exc c fs S
 |_=>.no
def YL{K:R0}(l:DenL K α H ds vs):Slots K α H (yH N ds) (start N vs):=by
 have a:=l.length;refine⟨?_,λi d e=>?_⟩
 .unfold start yH;rw[lA,lA,lM,lM,Ď,Ď,a]
 .unfold yH at e;by_cases hi:i<ds.length
  .rw[á (by simpa using hi),ï]at e
   cases z:ds[i]? with
   |none=>rw[z]at e;cases e
   |some d'=>
    rw[z]at e;obtain⟨v,f,b⟩:=l.at z;have c:=â (â e);subst c;refine⟨v,?_,b⟩;unfold start;rw[á (by rw[lM,a];exact hi),ï,f];rfl
  .rw[é (by simpa using hi),List.getElem?_replicate]at e;split at e<;>cases e
section
variable{K:R0}
def DE{st:Stmt}(Fb)(F:Fun K x qual st f fd)(y:FnScope N ps (zG st))
  (hbody: ∀ b  A  a  s  H  E ,Room k (A.deeper (envOfC qual (zG st) ↑1 f b))->
   UH (Bn PZ P w K mg base N qual (zG st) f b A a s H E).nox W0 (cR st) Fb):
  FnOk P w K mg base PZ (k+1) f fd ps (Ba ⟨K,mg,P,w⟩ ps.length λi S=>yP (Fb (yH N i) S)):=by
 refine F.ok y (λo H Q E h=>?_) (λb A a s H o Q E m h=>?_)
 .obtain⟨α,S,i,_,l,j,_⟩:=h;rw[l.length,j]
 .obtain⟨α,S,i,wd,l,j,q⟩:=h;obtain⟨t,u,n⟩:=hbody b A a s H E m;refine⟨t,u,n α _ S _ H _ wd (YL l) ?_⟩;dsimp only at q
  cases z:Fb _ S with
  |ok fl S'=>
   rw[z]at q
   cases fl with
   |next ρ=>exact λσ α' H' e d B=>q .non α' H' e d (DenE.val DA)
   |ret r=>exact λv α' H' e d p=>q v α' H' e d p
   |brk ρ=>exact q.elim
   |cont ρ=>exact q.elim
  |exc c fs S'=>rw[z]at q;exact λα' H' e d=>q α' H' e d
  |no=>rw[z]at q;exact q
end
inductive Vw where
 |fl (v:V)|tp (ds:U0)|ls (ds:U0)
noncomputable def bZ(S:Sto):Er->Option (List MV)
 |.new ds=>some ds
 |.val (.scr ds)=>some ds
 |.val (.loc l)=>match S[l]? with
  |some (.lst ds)=>some ds
  |_=>none
 |_=>none
def UJ(S:Sto):Er->Option Vw
 |.val .non=>some (.fl .non)
 |.val (.bl b)=>some (.fl (.bl b))
 |.val (.int i)=>some (.fl (.int i))
 |.val (.str x)=>some (.fl (.str (bW x)))
 |.val (.tup ds)=>some (.tp ds)
 |.val (.typ _)=>none
 |.val (.obj _ _ _)=>none
 |r=>(bZ S r).map .ls
noncomputable def LM(e:MV->MV->Option Bool):List MV->List MV->Option (List Bool)
 |d::ds,f::fs=>(e d f).bind λk=>(LM e ds fs).map (k::·)
 |_,_=>some []
def P9(e:MV->MV->Option Bool):Vw->Vw->Option Bool
 |.fl x,.fl y=>some (Uy x y)
 |.tp ds,.tp es=>(LM e ds es).map λbs=>bs.all id&&ds.length==es.length
 |.ls ds,.ls es=>if ds.length=es.length then(LM e ds es).map λbs=>bs.all id else some false
 |_,_=>some false
theorem Bw(e)(ds es):P9 e (.tp ds) (.tp es)=(LM e ds es).map λbs=>bs.all id&&ds.length==es.length:=rfl
theorem Bx(e)(ds es):P9 e (.ls ds) (.ls es)=if ds.length=es.length then(LM e ds es).map λbs=>bs.all id else some false:=rfl
def eqv(S:Sto):Nat->MV->MV->Option Bool
 |0,_,_=>none
 |n+1,a,b=>(UJ S (.val a)).bind λx=>(UJ S (.val b)).bind λy=>P9 (eqv S n) x y
def KS(S:Sto)(n:Nat)(a b:Er):Option Bool:=(UJ S a).bind λx=>(UJ S b).bind λy=>P9 (eqv S n) x y
section
variable{X:Cx}{α:B9}{S:Sto}{H:Hp}
def AA{K:R0}(f:g.K=K)(wd:Wd g α S H)(e:bZ S r=some ds)(d:DenX K α H r x): ∃a c,x=.ref a/\SqL K H a c/\DenL K α H ds c:=by
 subst f;unfold bZ at e;split at e
 .cases e;obtain⟨b,c,rfl,h,_,l⟩:=d;exact⟨b,c,rfl,.of h,l⟩
 .cases e;obtain⟨a,c,rfl,s,l⟩:=MP d;exact⟨a,c,rfl,s.l,l⟩
 .rename_i n;obtain⟨a,rfl,h⟩:=iL d;split at e
  .rename_i es i;cases e;obtain⟨c,j,l⟩:=wd.obj n a _ h i;exact⟨a,c,rfl,.of j,l⟩
  .cases e
 .cases e
def uU(e:UJ S r=some (.fl y))(d:DenX X.K α H r x):x=y/\sN y=true:=by
 unfold UJ at e;split at e
 .cases e;exact⟨rA d,rfl⟩
 .cases e;exact⟨JY d,rfl⟩
 .cases e;exact⟨wG d,rfl⟩
 .cases e;exact⟨dR d,rfl⟩
 .cases e
 .cases e
 .cases e
 .cases z:bZ S r<;>rw[z]at e<;>cases e
def uV(e:UJ S r=some (.tp ds))(d:DenX X.K α H r x): ∃a b,x=.ref a/\SqT X.K H a b/\DenL X.K α H ds b:=by
 unfold UJ at e;split at e
 .cases e
 .cases e
 .cases e
 .cases e
 .cases e;exact iK d
 .cases e
 .cases e
 .cases z:bZ S r<;>rw[z]at e<;>cases e
def uW(wd:Wd X.g α S H)(e:UJ S r=some (.ls ds))(d:DenX X.K α H r x): ∃a b,x=.ref a/\SqL X.K H a b/\DenL X.K α H ds b:=by
 unfold UJ at e;split at e
 .cases e
 .cases e
 .cases e
 .cases e
 .cases e
 .cases e
 .cases e
 .cases z:bZ S r with
  |none=>rw[z]at e;cases e
  |some es=>rw[z]at e;cases e;exact AA rfl wd z d
theorem DF: ∀{ds es}{bs},LM e ds es=some bs->bs.length=min ds.length es.length
 |[],_,_,h=>by simp[LM]at h;subst h;simp
 |_::_,[],_,h=>by simp[LM]at h;subst h;simp
 |d::ds,f::fs,bs,h=>by
  unfold LM at h
  cases z:e d f with
  |none=>rw[z]at h;cases h
  |some k=>
   rw[z]at h
   cases a:LM e ds fs with
   |none=>simp[a]at h
   |some cs=>
    simp[a]at h;subst h;simp[DF a]
theorem UK: ∀{ds es}{bs}{j}{d f},LM e ds es=some bs->ds[j]? =some d->es[j]? =some f->e d f=some (bs.getD j true)
 |[],_,_,_,_,_,h,h1,_=>by simp at h1
 |_::_,[],_,_,_,_,h,_,h2=>by simp at h2
 |d::ds,f::fs,bs,j,d',f',h,h1,h2=>by
  unfold LM at h
  cases z:e d f with
  |none=>rw[z]at h;cases h
  |some k=>
   rw[z]at h
   cases a:LM e ds fs with
   |none=>simp[a]at h
   |some cs=>
    simp[a]at h;subst h
    cases j with
    |zero=>simp at h1 h2;subst h1 h2;simpa using z
    |succ j=>simpa using UK a (by simpa using h1) (by simpa using h2)
def range_all{bs:N0}(h:bs.length=n):(List.range n).all (λj=>bs.getD j true)=bs.all id:=by
 subst h;rw[Bool.eq_iff_iff,õ,õ];constructor
 .intro h x b;obtain⟨i,hi,rfl⟩:=getElem_of_mem b;have:=h i (Ą.mpr hi);simpa [ć,hi]using this
 .intro h i hi;have a:=Ą.mp hi;have:=h bs[i] (getElem_mem a);simpa [ć,a]using this
variable{pins:M0}{σ:St}{s:ĺ}
def GE(I:↑2)(h:SqL X.K H a xs)(h':SqT X.K H a ys):False:=by obtain⟨_,_,f,_⟩:=I.list h;obtain⟨_,_,pt,_⟩:=I.tuple h';obtain⟨o,n,e,c,_,_⟩:=f;obtain⟨i,d,b,_⟩:=pt;rw[e]at d;cases d;rw[c]at b;exact absurd b (by simp)
theorem Nb(I:↑2)(wd:Wd X.g α S H)(G: ∀d f v k,Den X.K α H d v->Den X.K α H f v->e d f=some k->k=true)
  (ha:UJ S a=some p) (hb:UJ S b=some q) (da:DenX X.K α H a x) (db:DenX X.K α H b x) (h:P9 e p q=some k):k=true:=by
 have C: ∀{ds es:U0}{vs:List V}{bs:N0},DenL X.K α H ds vs->DenL X.K α H es vs->LM e ds es=some bs->bs.all id=true:=by
  intro ds es vs bs j c z;rw[õ];intro k F;obtain⟨i,hi,rfl⟩:=getElem_of_mem F;have O:=DF z;have D:i<ds.length:=by lia
  have A:i<es.length:=by lia
  obtain⟨v,L,J⟩:=j.at (gE0 D);obtain⟨N,B,M⟩:=c.at (gE0 A);rw[L]at B;cases B;have:=G _ _ _ _ J M (UK z (gE0 D) (gE0 A));simpa [ć,hi]using this
 cases p with
 |fl y=>
  obtain⟨rfl,u⟩:=uU ha da
  cases q with
  |fl z=>obtain⟨rfl,r⟩:=uU hb db;cases h;exact Mn u
  |tp ds=>obtain⟨a,vs,rfl,_⟩:=uV hb db;exact absurd u xF0
  |ls ds=>obtain⟨a,vs,rfl,_⟩:=uW wd hb db;exact absurd u xF0
 |tp ds=>
  obtain⟨E,vs,rfl,o,j⟩:=uV ha da
  cases q with
  |fl z=>obtain⟨rfl,r⟩:=uU hb db;exact absurd r xF0
  |tp es=>
   obtain⟨t,w,n,m,c⟩:=uV hb db;cases n;cases I.tuple_inj o m;rw[Bw]at h
   cases z:LM e ds es with
   |none=>rw[z]at h;cases h
   |some bs=>
    rw[z]at h;cases h;show(bs.all id&&ds.length==es.length)=true;rw[C j c z, <-j.length, <-c.length];simp
  |ls es=>obtain⟨t,w,n,m,c⟩:=uW wd hb db;cases n;exact(GE I m o).elim
 |ls ds=>
  obtain⟨E,vs,rfl,o,j⟩:=uW wd ha da
  cases q with
  |fl z=>obtain⟨rfl,r⟩:=uU hb db;exact absurd r xF0
  |tp es=>obtain⟨t,w,n,m,c⟩:=uV hb db;cases n;exact(GE I o m).elim
  |ls es=>
   obtain⟨t,w,n,m,c⟩:=uW wd hb db;cases n;cases I.list_inj o m;rw[Bx]at h;rw[iP (by rw[<-j.length, <-c.length])]at h
   cases z:LM e ds es with
   |none=>rw[z]at h;cases h
   |some bs=>rw[z]at h;cases h;exact C j c z
theorem MY(I:↑2)(wd:Wd X.g α S H): ∀ n  d f  v  k ,Den X.K α H d v->Den X.K α H f v->eqv S n d f=some k->k=true
 |0,_,_,_,_,_,_,h=>by cases h
 |n+1,d,f,v,k,h1,h2,h=>by
  unfold eqv at h
  cases a:UJ S _ with
  |none=>rw[a]at h;cases h
  |some p=>
   cases b:UJ S _ with
   |none=>rw[a,b]at h;cases h
   |some q=>
    rw[a,b]at h;exact Nb I wd (MY I wd n) a b h1 h2 h
def GF(q: ∀d f x y u v k,Den X.K α H d x->Den X.K α H f y->RelV x u->RelV y v->e d f=some k->SeqAt.EqAt A s u v k)
      (l1:DenL X.K α H ds vs) (l2:DenL X.K α H es us) (r1:Vals vs its) (r2:Vals us its2) (z:LM e ds es=some bs):
  ∀j  b  (a:j<its2.toArray.size),SeqAt.EqAt A s its.toArray[j] its2.toArray[j] (bs.getD j true):=by
 intro j b a;have c:j<vs.length:=by rw[r1.length];simpa using b
 have h:j<us.length:=by rw[r2.length];simpa using a
 obtain⟨d,n,B⟩:=l1.get (gE0 c);obtain⟨f,p,t⟩:=l2.get (gE0 h);obtain⟨u,m,i⟩:=r1.get (gE0 c);obtain⟨v,C,o⟩:=r2.get (gE0 h);have r:its.toArray[j]=u:=by have:its[j]? =some (its[j]'(by simpa using b)):=gE0 _;rw[m]at this;simpa using(â this).symm
 have w:its2.toArray[j]=v:=by have:its2[j]? =some (its2[j]'(by simpa using a)):=gE0 _;rw[C]at this;simpa using(â this).symm
 rw[r,w];exact q d f _ _ u v _ B t i o (UK z n p)
theorem IH(I:↑2)(wd:Wd X.g α S H): ∀ n  A  d f  x y  u v  k ,A.units+n<cLine->Den X.K α H d x->Den X.K α H f y->RelV x u->RelV y v->eqv S n d f=some k->SeqAt.EqAt A s u v k
 |0,_,_,_,_,_,_,_,_,_,_,_,_,_,h=>by cases h
 |n+1,A,d,f,x,y,u,v,k,hu,h1,h2,rx,ry,h=>by
  have i:A.units<cLine:=by lia
  have t:=h;unfold eqv at h
  cases J:UJ S _ with
  |none=>rw[J]at h;cases h
  |some p=>
   cases r:UJ S _ with
   |none=>rw[J,r]at h;cases h
   |some q=>
    rw[J,r]at h;have h:P9 _ p q=some k:=h;have U:=λd f x y u v k a b c Y e=>IH I wd n A.in1 d f x y u v k #[0] a b c Y e
    cases p with
    |fl x'=>
     obtain⟨rfl,O⟩:=uU J h1
     cases q with
     |fl y'=>obtain⟨rfl,N⟩:=uU r h2;cases h;exact O1 rx ry O N
     |tp es=>
      obtain⟨b,M,rfl,w,B⟩:=uV r h2;cases ry;cases h;obtain⟨o,_,pt,_⟩:=I.tuple w;exact(JX rx O pt i).2.1
     |ls es=>
      obtain⟨b,M,rfl,w,B⟩:=uW wd r h2;cases ry;cases h;obtain⟨o,_,D,_⟩:=I.list w;exact(RN rx O D.isList i).2.1
    |tp ds=>
     obtain⟨a,vs,rfl,Q,C⟩:=uV J h1;cases rx;obtain⟨o,E,pt,_⟩:=I.tuple Q
     cases q with
     |fl y'=>obtain⟨rfl,N⟩:=uU r h2;cases h;exact(JX ry N pt i).1
     |tp es=>
      obtain⟨b,M,rfl,w,B⟩:=uV r h2;cases ry;by_cases m:a=b
      .subst m;rw[MY I wd _ d f _ k h1 h2 t];exact SeqAt.EqAt.same _
      .obtain⟨j,F,P,_⟩:=I.tuple w;rw[Bw]at h
       cases z:LM _ ds es with
       |none=>rw[z]at h;cases h
       |some bs=>
        rw[z]at h;cases h;have:=SeqAt.RcAt.tuples pt P i (GF U C B E F z);have G:=DF z;rw[range_all (by rw[G];simp[<-E.length, <-F.length,C.length,B.length])]at this;have Z:(o.toArray.size==j.toArray.size)=(ds.length==es.length):=by simp[<-E.length, <-F.length,C.length,B.length]
        rw[Z]at this;exact SeqAt.EqAt.of_refs m this
     |ls es=>
      obtain⟨b,M,rfl,w,B⟩:=uW wd r h2;cases ry;cases h;obtain⟨j,_,D,_⟩:=I.list w;exact SeqAt.EqAt.tuple_list pt D.isList i
    |ls ds=>
     obtain⟨a,vs,rfl,Q,C⟩:=uW wd J h1;cases rx;obtain⟨o,E,D,_⟩:=I.list Q
     cases q with
     |fl y'=>obtain⟨rfl,N⟩:=uU r h2;cases h;exact(RN ry N D.isList i).1
     |tp es=>
      obtain⟨b,M,rfl,w,B⟩:=uV r h2;cases ry;cases h;obtain⟨j,_,pt,_⟩:=I.tuple w;exact SeqAt.EqAt.list_tuple D.isList pt i
     |ls es=>
      obtain⟨b,M,rfl,w,B⟩:=uW wd r h2;cases ry;by_cases m:a=b
      .subst m;rw[MY I wd _ d f _ k h1 h2 t];exact SeqAt.EqAt.same _
      .obtain⟨j,F,L,_⟩:=I.list w;rw[Bx]at h;by_cases G:ds.length=es.length
       .rw[iP G]at h
        cases z:LM _ ds es with
        |none=>rw[z]at h;cases h
        |some bs=>
         rw[z]at h;cases h;have W:o.toArray.size=j.toArray.size:=by simp[<-E.length, <-F.length,C.length,B.length,G]
         have:=SeqAt.RcAt.lists D.isList L.isList W i (GF U C B E F z);have T:=DF z;rw[range_all (by rw[T];simp[<-E.length,C.length,G])]at this;exact SeqAt.EqAt.of_refs m this
       .rw[iN G]at h;cases h;exact SeqAt.EqAt.of_refs m (SeqAt.RcAt.lists_lengths D.isList L.isList (by simpa [<-E.length, <-F.length,C.length,B.length]using G) i)
theorem B7{E:Around->ĺ->Ļ->Ļ->Bool->Prop}{tr:Bool->Bool}
  (hff: ∀x y u v,RelV x u->RelV y v->sN x=true->sN y=true->E A s u v (tr (Uy x y)))
  (hfl: ∀x v l m,RelV x v->sN x=true->s.heap.IsList l m->A.units<cLine->E A s v (.ref l) (tr false)/\E A s (.ref l) v (tr false))
  (hft: ∀x v l m,RelV x v->sN x=true->s.heap.IsTuple l m->A.units<cLine->E A s v (.ref l) (tr false)/\E A s (.ref l) v (tr false))
  (hlt: ∀l b m i,s.heap.IsList l m->s.heap.IsTuple b i->A.units<cLine->E A s (.ref l) (.ref b) (tr false)/\E A s (.ref b) (.ref l) (tr false))
  (htt: ∀ l b  m i  e ,s.heap.IsTuple l m->s.heap.IsTuple b i->A.units<cLine->(∀j  T  (B:j<i.size),SeqAt.EqAt A.in1 s m[j] i[j] (e j))->E A s (.ref l) (.ref b) (tr ((List.range (min m.size i.size)).all e&&m.size==i.size)))
  (hll: ∀ l b  m i  e ,s.heap.IsList l m->s.heap.IsList b i->m.size=i.size->A.units<cLine->(∀j  T  (B:j<i.size),SeqAt.EqAt A.in1 s m[j] i[j] (e j))->E A s (.ref l) (.ref b) (tr ((List.range m.size).all e)))
  (hln: ∀ l b  m i ,s.heap.IsList l m->s.heap.IsList b i->(m.size !=i.size)=true->A.units<cLine->E A s (.ref l) (.ref b) (tr false))
  (I:↑2) (wd:Wd X.g α S H) (n)     (hu:A.units+(n+1)<cLine) (T:DenX X.K α H a x) (B:DenX X.K α H b y) (rx:RelV x u) (ry:RelV y v) (h:KS S n a b=some k):E A s u v (tr k):=by
 have o:A.units<cLine:=by lia
 unfold KS at h
 cases N:UJ S a with
 |none=>rw[N]at h;cases h
 |some p=>
  cases w:UJ S b with
  |none=>rw[N,w]at h;cases h
  |some q=>
   rw[N,w]at h;have h:P9 _ p q=some k:=h;have he:=λd f x y u v k a b c d' e=>IH I wd n A.in1 d f x y u v k #[0] a b c d' e
   cases p with
   |fl x'=>
    obtain⟨rfl,U⟩:=uU N T
    cases q with
    |fl y'=>obtain⟨rfl,Q⟩:=uU w B;cases h;exact hff _ _ _ _ rx ry U Q
    |tp es=>
     obtain⟨b,P,rfl,C,D⟩:=uV w B;cases ry;cases h;obtain⟨t,_,pt,_⟩:=I.tuple C;exact(hft _ _ _ _ rx U pt o).1
    |ls es=>
     obtain⟨b,P,rfl,C,D⟩:=uW wd w B;cases ry;cases h;obtain⟨t,_,G,_⟩:=I.list C;exact(hfl _ _ _ _ rx U G.isList o).1
   |tp ds=>
    obtain⟨a,vs,rfl,Y,F⟩:=uV N T;cases rx;obtain⟨t,J,pt,_⟩:=I.tuple Y
    cases q with
    |fl y'=>obtain⟨rfl,Q⟩:=uU w B;cases h;exact(hft _ _ _ _ ry Q pt o).2
    |tp es=>
     obtain⟨b,P,rfl,C,D⟩:=uV w B;cases ry;obtain⟨r,L,W,_⟩:=I.tuple C;rw[Bw]at h
     cases z:LM _ ds es with
     |none=>rw[z]at h;cases h
     |some bs=>
      rw[z]at h;cases h;have:=htt _ _ _ _ _ pt W o (GF he F D J L z);have M:=DF z;rw[range_all (by rw[M];simp[<-J.length, <-L.length,F.length,D.length])]at this;have e3:(t.toArray.size==r.toArray.size)=(ds.length==es.length):=by simp[<-J.length, <-L.length,F.length,D.length]
      rw[e3]at this;exact this
    |ls es=>
     obtain⟨b,P,rfl,C,D⟩:=uW wd w B;cases ry;cases h;obtain⟨r,_,G,_⟩:=I.list C;exact(hlt _ _ _ _ G.isList pt o).2
   |ls ds=>
    obtain⟨a,vs,rfl,Y,F⟩:=uW wd N T;cases rx;obtain⟨t,J,G,_⟩:=I.list Y
    cases q with
    |fl y'=>obtain⟨rfl,Q⟩:=uU w B;cases h;exact(hfl _ _ _ _ ry Q G.isList o).2
    |tp es=>
     obtain⟨b,P,rfl,C,D⟩:=uV w B;cases ry;cases h;obtain⟨r,_,pt,_⟩:=I.tuple C;exact(hlt _ _ _ _ G.isList pt o).1
    |ls es=>
     obtain⟨b,P,rfl,C,D⟩:=uW wd w B;cases ry;obtain⟨r,L,O,_⟩:=I.list C;rw[Bx]at h;by_cases M:ds.length=es.length
     .rw[iP M]at h
      cases z:LM _ ds es with
      |none=>rw[z]at h;cases h
      |some bs=>
       rw[z]at h;cases h;have hs:t.toArray.size=r.toArray.size:=by simp[<-J.length, <-L.length,F.length,D.length,M]
       have:=hll _ _ _ _ _ G.isList O.isList hs o (GF he F D J L z);have Z:=DF z;rw[range_all (by rw[Z];simp[<-J.length,F.length,M])]at this;exact this
     .rw[iN M]at h;cases h;exact hln _ _ _ _ G.isList O.isList (by simpa [<-J.length, <-L.length,F.length,D.length]using M) o
def Q1(I:↑2)(wd:Wd X.g α S H)(n)(m:A.units+(n+1)<cLine)(o:DenX X.K α H a x)(j:DenX X.K α H b y)(i:RelV x u)(f:RelV y v)(h:KS S n a b=some k):SeqAt.RcAt A s u v k:=
 B7 (tr:=id) (λ_ _ _ _ a b c d=>(Mm a b c d).1) (λ_ _ _ _ a b c d=>⟨(RN a b c d).2.2.2.1,(RN a b c d).2.2.1⟩) (λ_ _ _ _ a b c d=>⟨(JX a b c d).2.2.2.1,(JX a b c d).2.2.1⟩)
  (λ_ _ _ _ a b c=>⟨SeqAt.RcAt.list_tuple a b c,SeqAt.RcAt.tuple_list b a c⟩) (λ_ _ _ _ _ a b c d=>SeqAt.RcAt.tuples a b c d) (λ_ _ _ _ _ a b c d e=>SeqAt.RcAt.lists a b c d e) (λ_ _ _ _ a b c d=>SeqAt.RcAt.lists_lengths a b c d)
  I wd n m o j i f h
def Q2(I:↑2)(wd:Wd X.g α S H)(n)(m:A.units+(n+1)<cLine)(o:DenX X.K α H a x)(j:DenX X.K α H b y)(i:RelV x u)(f:RelV y v)(h:KS S n a b=some k):SeqAt.RcNeAt A s u v (!k):=
 B7 (λ_ _ _ _ a b c d=>(Mm a b c d).2) (λ_ _ _ _ a b c d=>⟨(RN a b c d).2.2.2.2.2,(RN a b c d).2.2.2.2.1⟩) (λ_ _ _ _ a b c d=>⟨(JX a b c d).2.2.2.2.2,(JX a b c d).2.2.2.2.1⟩)
  (λ_ _ _ _ a b c=>⟨SeqAt.RcNeAt.list_tuple a b c,SeqAt.RcNeAt.tuple_list b a c⟩) (λ_ _ _ _ _ a b c d=>SeqAt.RcNeAt.tuples a b c d) (λ_ _ _ _ _ a b c d e=>SeqAt.RcNeAt.lists a b c d e) (λ_ _ _ _ a b c d=>SeqAt.RcNeAt.lists_lengths a b c d)
  I wd n m o j i f h
theorem En{α β:Type}: ∀{a c:List α}{b d:List β},a.length=b.length->c.length=d.length->a.zip b=c.zip d->a=c/\b=d
 |[],[],[],[],_,_,_=>⟨rfl,rfl⟩
 |[],_::_,[],_::_,_,_,e=>by simp at e
 |_::_,[],_::_,[],_,_,e=>by simp at e
 |x::a,y::c,z::b,w::d,h1,h2,e=>by simp only[ĩ,List.cons.injEq,Prod.mk.injEq]at e;obtain⟨rfl,rfl⟩:=En (by simpa using h1) (by simpa using h2) e.2;exact⟨by rw[e.1.1],by rw[e.1.2]⟩
mutual
theorem Den.inj(I:↑2)(wd:Wd X.g α S H): ∀{d f:MV}{v:V},Den X.K α H d v->Den X.K α H f v->d=f
 |.non,f,v,h,h'=>by cases iH h;cases f<;>first |rfl|(have:=sQ h';cases this;done)|(have:=wQ h';cases this;done)|(have:=jG h';cases this;done)|(have:=iI h';cases this;done)|(obtain⟨_,_,e,_⟩:=wD h';cases e;done)|(obtain⟨_,_,e,_⟩:=aL h';cases e;done)|(obtain⟨_,e,_⟩:=dQ h';cases e;done)|(obtain⟨_,_,_,_,_,e,_⟩:=aK h';cases e;done)
 |.bl b,f,v,h,h'=>by cases sQ h;cases f<;>first |(have:=sQ h';cases this;rfl;done)|(have:=iH h';cases this;done)|(have:=wQ h';cases this;done)|(have:=jG h';cases this;done)|(have:=iI h';cases this;done)|(obtain⟨_,_,e,_⟩:=wD h';cases e;done)|(obtain⟨_,_,e,_⟩:=aL h';cases e;done)|(obtain⟨_,e,_⟩:=dQ h';cases e;done)|(obtain⟨_,_,_,_,_,e,_⟩:=aK h';cases e;done)
 |.int b,f,v,h,h'=>by cases wQ h;cases f<;>first |(have:=wQ h';cases this;rfl;done)|(have:=iH h';cases this;done)|(have:=sQ h';cases this;done)|(have:=jG h';cases this;done)|(have:=iI h';cases this;done)|(obtain⟨_,_,e,_⟩:=wD h';cases e;done)|(obtain⟨_,_,e,_⟩:=aL h';cases e;done)|(obtain⟨_,e,_⟩:=dQ h';cases e;done)|(obtain⟨_,_,_,_,_,e,_⟩:=aK h';cases e;done)
 |.str b,f,v,h,h'=>by cases jG h;cases f<;>first |(have:=jG h';rw[GA (V.str.inj this)];done)|(have:=iH h';cases this;done)|(have:=sQ h';cases this;done)|(have:=wQ h';cases this;done)|(have:=iI h';cases this;done)|(obtain⟨_,_,e,_⟩:=wD h';cases e;done)|(obtain⟨_,_,e,_⟩:=aL h';cases e;done)|(obtain⟨_,e,_⟩:=dQ h';cases e;done)|(obtain⟨_,_,_,_,_,e,_⟩:=aK h';cases e;done)
 |.typ b,f,v,h,h'=>by cases iI h;cases f<;>first |(have:=iI h';cases this;rfl;done)|(have:=iH h';cases this;done)|(have:=sQ h';cases this;done)|(have:=wQ h';cases this;done)|(have:=jG h';cases this;done)|(obtain⟨_,_,e,_⟩:=wD h';cases e;done)|(obtain⟨_,_,e,_⟩:=aL h';cases e;done)|(obtain⟨_,e,_⟩:=dQ h';cases e;done)|(obtain⟨_,_,_,_,_,e,_⟩:=aK h';cases e;done)
 |.tup ds,f,v,h,h'=>by
  obtain⟨a,Q,rfl,i,A⟩:=wD h
  cases f with
  |tup es=>
   obtain⟨q,r,j,w,t⟩:=wD h';cases j;cases I.tuple_inj i w;rw[DenL.inj I wd A t]
  |scr es=>obtain⟨q,r,j,w,t⟩:=aL h';cases j;exact(GE I w.l i).elim
  |loc l=>
   obtain⟨q,j,k⟩:=dQ h';cases j;obtain⟨G,p,E,u⟩:=wd.mem (î k);rcases i with(i|⟨o,i⟩)|⟨o,its,n,i,_⟩
   .rw[p]at i;exact absurd (â i) (E _)
   .rw[p]at i;exact(let ⟨_,z⟩:=u _ _ (â i);by cases z)
   .have:=(I.bs a o (I.mod.kin a o i)).2;rw[p]at this;cases this
  |non=>cases iH h'
  |bl b=>cases sQ h'
  |int b=>cases wQ h'
  |str b=>cases jG h'
  |typ b=>cases iI h'
  |obj c ns es=>
   obtain⟨q,C,L,r,M,j,k,_⟩:=aK h';cases j;rcases i with(i|⟨o,i⟩)|⟨o,its,n,i,_⟩
   .rw[k]at i;cases i
   .rw[k]at i;cases i
   .have:=(I.bs a o (I.mod.kin a o i)).2;rw[k]at this;cases this
 |.scr ds,f,v,h,h'=>by
  obtain⟨a,Q,rfl,i,A⟩:=aL h
  cases f with
  |scr es=>
   obtain⟨q,r,j,w,t⟩:=aL h';cases j;cases I.list_inj i.l w.l;rw[DenL.inj I wd A t]
  |tup es=>obtain⟨q,r,j,w,t⟩:=wD h';cases j;exact(GE I i.l w).elim
  |loc l=>
   obtain⟨q,j,k⟩:=dQ h';cases j;obtain⟨G,p,E,u⟩:=wd.mem (î k);rcases i with⟨o,i⟩|⟨o,its,n,i,_⟩
   .rw[p]at i;exact(let ⟨_,z⟩:=u _ _ (â i);by cases z)
   .have:=(I.bs a o (I.mod.kin a o i)).2;rw[p]at this;cases this
  |non=>cases iH h'
  |bl b=>cases sQ h'
  |int b=>cases wQ h'
  |str b=>cases jG h'
  |typ b=>cases iI h'
  |obj c ns es=>
   obtain⟨q,C,L,r,M,j,k,_⟩:=aK h';cases j;rcases i with⟨o,i⟩|⟨o,its,n,i,_⟩
   .rw[k]at i;cases i
   .have:=(I.bs a o (I.mod.kin a o i)).2;rw[k]at this;cases this
 |.loc l,f,v,h,h'=>by
  obtain⟨a,rfl,F⟩:=dQ h;obtain⟨G,p,E,u⟩:=wd.mem (î F)
  cases f with
  |loc m=>
   obtain⟨q,j,k⟩:=dQ h';cases j;by_cases D:l=m
   .rw[D]
   .exact absurd rfl (wd.ne F k D)
  |tup es=>
   obtain⟨q,r,j,i,t⟩:=wD h';cases j;rcases i with(i|⟨o,i⟩)|⟨o,its,n,i,_⟩
   .rw[p]at i;exact absurd (â i) (E _)
   .rw[p]at i;exact(let ⟨_,z⟩:=u _ _ (â i);by cases z)
   .have:=(I.bs a o (I.mod.kin a o i)).2;rw[p]at this;cases this
  |scr es=>
   obtain⟨q,r,j,i,t⟩:=aL h';cases j;rcases i with⟨o,i⟩|⟨o,its,n,i,_⟩
   .rw[p]at i;exact(let ⟨_,z⟩:=u _ _ (â i);by cases z)
   .have:=(I.bs a o (I.mod.kin a o i)).2;rw[p]at this;cases this
  |non=>cases iH h'
  |bl b=>cases sQ h'
  |int b=>cases wQ h'
  |str b=>cases jG h'
  |typ b=>cases iI h'
  |obj c ns es=>
   obtain⟨q,C,L,r,M,j,k,_⟩:=aK h';cases j;rw[p]at k;exact(let ⟨_,z⟩:=u _ _ (â k);by cases z)
 |.obj c ns ds,f,v,h,h'=>by
  obtain⟨a,C,L,r,M,rfl,k,Y,N,O,A⟩:=aK h
  cases f with
  |obj c' ns' es=>
   obtain⟨q,C2,P,T,W,j,y,U,B,J,t⟩:=aK h';cases j;rw[k]at y;injection y with y
   injection y with _ y
   injection y with e1 j e3
   subst e1;rw[N]at B;cases B;obtain⟨rfl,rfl⟩:=En O J e3;rw[DenL.inj I wd A t]
  |tup es=>
   obtain⟨q,r,j,i,t⟩:=wD h';cases j;rcases i with(i|⟨o,i⟩)|⟨o,its,n,i,_⟩
   .rw[k]at i;cases i
   .rw[k]at i;cases i
   .have:=(I.bs a o (I.mod.kin a o i)).2;rw[k]at this;cases this
  |scr es=>
   obtain⟨q,r,j,i,t⟩:=aL h';cases j;rcases i with⟨o,i⟩|⟨o,its,n,i,_⟩
   .rw[k]at i;cases i
   .have:=(I.bs a o (I.mod.kin a o i)).2;rw[k]at this;cases this
  |loc l=>
   obtain⟨q,j,F⟩:=dQ h';cases j;obtain⟨G,p,E,u⟩:=wd.mem (î F);rw[p]at k;exact(let ⟨_,z⟩:=u _ _ (â k);by cases z)
  |non=>cases iH h'
  |bl b=>cases sQ h'
  |int b=>cases wQ h'
  |str b=>cases jG h'
  |typ b=>cases iI h'
theorem DenL.inj(I:↑2)(wd:Wd X.g α S H): ∀{ds fs:U0}{vs:List V},DenL X.K α H ds vs->DenL X.K α H fs vs->ds=fs
 |[],fs,vs,h,h'=>by
  cases h.isnil
  cases fs with
  |nil=>rfl
  |cons f fs=>obtain⟨_,_,e,_⟩:=h'.uncons;cases e
 |d::ds,fs,vs,h,h'=>by
  obtain⟨v,r,rfl,a,l⟩:=h.uncons
  cases fs with
  |nil=>cases h'.isnil
  |cons f fs=>
   obtain⟨i,j,e,b,c⟩:=h'.uncons;cases e;rw[Den.inj I wd a b,DenL.inj I wd l c]
end
end
inductive LexR(A:Around)(s:ĺ):List Ļ->List Ļ->Bool->Prop
 |nn:LexR A s [] [] false
 |nc (x xs):LexR A s [] (x::xs) true
 |cn (y ys):LexR A s (y::ys) [] false
 |eq {y x ys xs k}:SeqAt.EqAt A s y x true->LexR A s ys xs k->LexR A s (y::ys) (x::xs) k
 |ne {y x ys xs k}:SeqAt.EqAt A s y x false->(∀(prog:ļ)(w:World)(E Q:VP),Q (.bool k) s->wpAny (model prog w) A (richCompare .Lt y x) Q E s)->LexR A s (y::ys) (x::xs) k
section
open PySem.SeqAt
open PySem.AutoSeq1 (wpAny_loadPart')
open PySem.MeetsSeq PySem.MeetsSeq2 PySem.MeetsSeq3
theorem By(l b)(its its2)(n n2)(dd dd2)(sl sl2)(k):
  Meets (Builtin.«tuple.__lt__» ⟨[.ref l,.ref b],[]⟩)
   (λA R s=>s.heap.get? l=some {cls:=.type "tuple",dict:=dd,data:=.seq its n,slots:=sl}/\s.heap.get? b=some {cls:=.type "tuple",dict:=dd2,data:=.seq its2 n2,slots:=sl2}/\
    LexR A.in1 s its.toList its2.toList k/\R (.ok (.ret (.bool k))) s):=
 .of_wp λprog w A R s h=>by
  obtain⟨p,g,d,o,os⟩:=s;obtain⟨t,r,i,h⟩:=h;have u:=AutoSeq1.sub_tuple_tuple
  wp_walk using wpAny_loadPart' t,wpAny_loadPart' r,wpAny_forIn_list _ (λrest b j=>b.1=none/\j=⟨p,g,d,o,os⟩/\ ∃(vs ws:A0),rest=vs.zip ws/\
   LexR A.in1 ⟨p,g,d,o,os⟩ vs ws k/\vs.length+its2.size=ws.length+its.size) _
  case turn=>
   rintro⟨y,x⟩ rest b j ⟨f,rfl,vs,ws,c,e,a⟩
   cases e with
   |nn=>rw[zip_nil_left]at c;cases c
   |nc x xs=>rw[zip_nil_left]at c;cases c
   |cn y ys=>rw[List.zip_nil_right]at c;cases c
   |@eq y' x' ys xs k' he hr=>
    rw[ĩ]at c;injection c with hyx hrest
    injection hyx with hy i
    subst hy i;simp only[lC]at a;refine wB (he prog w _ _ ?_)
    wp_walk
    exact⟨rfl,rfl,_,_,hrest,hr,by lia⟩
   |@ne y' x' ys xs k' he hr=>
    rw[ĩ]at c;injection c with hyx hrest
    injection hyx with hy i
    subst hy i;refine wB (he prog w _ _ ?_);have m:=hr prog w
    wp_walk using m
    exact⟨_,rfl,by simpa using h⟩
  case fin=>
   rintro⟨v,z⟩ j ⟨f,rfl,vs,ws,c,e,a⟩;simp only at f;subst f
   have q:k=decide (its.size<its2.size):=by
    cases e with
    |nn=>simp only[ç]at a;exact(dF0 #[0]).symm
    |nc x xs=>simp only[ç,lC]at a;exact(dT0 #[0]).symm
    |cn y ys=>simp only[ç,lC]at a;exact(dF0 #[0]).symm
    |eq he hr=>rw[ĩ]at c;cases c
    |ne he hr=>rw[ĩ]at c;cases c
   rw[q]at h
   wp_walk
   exact⟨_,rfl,by simpa [Builtin.Tuple.tupleCompareSizes]using h⟩
  case h=>
   exact⟨rfl,rfl,_,_,rfl,i,by simp;lia⟩
end
def Nc(y:IsTup s.heap l its)(v:IsTup s.heap b its2)(u:LexR A.in1 s its.toList its2.toList k)(o:A.units<cLine)(prog)(w)(E Q)(h:Q (.bool k) s):
  wpAny (model prog w) A (richCompare .Lt (.ref l) (.ref b)) Q E s:=by
 obtain⟨⟨p,z,m,sl⟩,j,q,n,t⟩:=id y;obtain⟨⟨i,c,_,e⟩,a,f,r,d⟩:=id v;subst q t f d
 exact richCompare_meets_room ⟨_,j,rfl⟩ ⟨_,a,rfl⟩ PySem.F.slot_tuple_lt PySem.F.entry_tuple_lt (PySem.F.args_tuple_lt_2 _ _) (By l b its its2 n r z c sl e k)
  ⟨j,a,u,show Value.bool k≠Value.notImplemented/\Q _ s from⟨(λx=>nomatch x),h⟩⟩ o
noncomputable def Bz(e l:MV->MV->Option Bool):List MV->List MV->Option Bool
 |[],[]=>some false
 |[],_::_=>some true
 |_::_,[]=>some false
 |d::ds,f::fs=>(e d f).bind λk=>if k=true then Bz e l ds fs else l d f
def LN(S:Sto):Nat->MV->MV->Option Bool
 |0,_,_=>none
 |n+1,.int i,.int j=>some (decide (i<j))
 |n+1,.str x,.str y=>some (decide (x<y))
 |n+1,.tup ds,.tup es=>Bz (eqv S n) (LN S n) ds es
 |_,_,_=>none
section
variable{X:Cx}
theorem Nd(m: ∀d f x y u v k,Den X.K α H d x->Den X.K α H f y->RelV x u->RelV y v->e d f=some k->SeqAt.EqAt A s u v k)
  (hl: ∀d f x y u v k,Den X.K α H d x->Den X.K α H f y->RelV x u->RelV y v->l d f=some k-> ∀ prog  w  E Q ,Q (.bool k) s->wpAny (model prog w) A (richCompare .Lt u v) Q E s):
  ∀{ds fs}{vs us}{i c}{k},DenL X.K α H ds vs->DenL X.K α H fs us->Vals vs i->Vals us c->Bz e l ds fs=some k->LexR A s i c k
 |[],[],_,_,_,_,k,l1,l2,r1,r2,h=>by cases l1.isnil;cases l2.isnil;cases r1;cases r2;cases h;exact .nn
 |[],f::fs,_,_,_,_,k,l1,l2,r1,r2,h=>by
  cases l1.isnil;obtain⟨v,r,rfl,a,l⟩:=l2.uncons;cases r1
  cases r2 with
  |cons a b=>cases h;exact .nc _ _
 |d::ds,[],_,_,_,_,k,l1,l2,r1,r2,h=>by
  cases l2.isnil;obtain⟨v,r,rfl,a,l⟩:=l1.uncons;cases r2
  cases r1 with
  |cons a b=>cases h;exact .cn _ _
 |d::ds,f::fs,_,_,_,_,k,l1,l2,r1,r2,h=>by
  obtain⟨v,r,rfl,a,j⟩:=l1.uncons;obtain⟨p,q,rfl,n,o⟩:=l2.uncons
  cases r1 with
  |cons b1 c1=>
   cases r2 with
   |cons b2 c2=>
    unfold Bz at h
    cases z:e d f with
    |none=>rw[z]at h;cases h
    |some kk=>
     rw[z]at h;have h:(if kk=true then Bz e l ds fs else l d f)=some k:=h
     cases kk with
     |true=>
      exact .eq (m d f _ _ _ _ _ a n b1 b2 z) (Nd m hl j o c1 c2 h)
     |false=>
      exact .ne (m d f _ _ _ _ _ a n b1 b2 z) (hl d f _ _ _ _ _ a n b1 b2 h)
theorem Ca(I:↑2)(wd:Wd X.g α S H): ∀ n  A  d f  x y  u v  k ,A.units+n<cLine->Den X.K α H d x->Den X.K α H f y->RelV x u->RelV y v->LN S n d f=some k->
  ∀ prog  w  E Q ,Q (.bool k) s->wpAny (model prog w) A (richCompare .Lt u v) Q E s
 |0,_,_,_,_,_,_,_,_,_,_,_,_,_,h=>by cases h
 |n+1,A,d,f,x,y,u,v,k,hu,h1,h2,rx,ry,h=>by
  intro prog w E Q m;unfold LN at h;split at h
  .cases h
  .cases h;cases wQ h1;cases wQ h2;obtain⟨t,rfl⟩:=rx;obtain⟨p,rfl⟩:=ry;exact(PyProof.Rows.lt_int m:wpAny _ A _ Q E s)
  .cases h;cases jG h1;cases jG h2;obtain⟨t,rfl⟩:=rx;obtain⟨p,rfl⟩:=ry;refine(PySem.P.lt_str ?_:wpAny _ A _ Q E s);exact m
  .rename_i J L es F;obtain⟨a,N,rfl,B,q⟩:=wD h1;obtain⟨b,M,rfl,C,G⟩:=wD h2;cases rx;cases ry;obtain⟨r,D,pt,_⟩:=I.tuple B;obtain⟨o,z,i,_⟩:=I.tuple C;cases F;refine Nc pt i ?_ #[0] prog w E Q m
   exact Nd (λd f x y u v k a b c j e=>IH I wd n A.in1 d f x y u v k (show A.units+1+n<cLine by lia) a b c j e)
    (λd f x y u v k a b c j e=>Ca I wd n A.in1 d f x y u v k (show A.units+1+n<cLine by lia) a b c j e) q G D z h
  .cases h
end
section
variable{X:Cx}{b c e:Expr}{es:Q0}{f h:AX}
noncomputable def B8(C:Int->Int->Prop)[∀i j,Decidable (C i j)](g:Int->Int->Int):Er->Er->Sto->R Er
 |.val (.int i),.val (.int j),S=>if C i j then .ok (.val (.int (g i j))) S else .no
 |_,_,_=>.no
noncomputable def ibF(g:Int->Int->Bool):Er->Er->Sto->R Er
 |.val (.int i),.val (.int j),S=>.ok (.val (.bl (g i j))) S
 |_,_,_=>.no
def Cc[∀i j,Decidable (C i j)]{g:Int->Int->Int}(h: ∀i j,C i j->C' i j):YH X W (rI C' λi j=>.int (g i j)) (B8 C g):=by
 intro p q x y α S H Q wd d b a;unfold B8 at a;split at a
 .split at a
  .rename_i c;exact⟨_,_,wG d,wG b,h _ _ c,Post.val a wd (jV _)⟩
  .exact a.elim
 .exact a.elim
def Vu{g:Int->Int->Int}:YH X W (zER λi j=>.int (g i j)) (B8 (λ_ _=>True) g):=by
 intro p q x y α S H Q wd c b a;unfold B8 at a;split at a
 .rw[iP trivial]at a;exact⟨_,_,wG c,wG b,Post.val a wd (jV _)⟩
 .exact a.elim
abbrev GH:=B8 (λ_ _=>True) λi j=>i - j
def AB(e:yI X W a f)(d:yI X W b g):yI X W (.BinOp a .Sub b pos) (λc S=>(f c S).bind λp h=>(g c h).bind λq i=>GH p q i):=RP M7 Vu e d
def Cd(_ j:Int):Prop:=0<j/\j.natAbs.log2<9000
instance(i j:Int):Decidable (Cd i j):=inferInstanceAs (Decidable (_/\_))
abbrev bQ:=B8 Cd λi j=>i / j
theorem Nf:OpR X (binaryOp .FloorDiv) (rI Cd λi j=>.int (i / j)):=zES λi j _ _ _ _ _ a q=>by have e:=Int.fdiv_eq_ediv_of_nonneg i (Int.le_of_lt a.1);refine floordiv_int (by have:=a.1;lia) ?_ (.inl (PyProof.noPylong_of_log2 a.2));rw[e];exact q
def xZ(m:yI X W a f)(e:yI X W b g):yI X W (.BinOp a .FloorDiv b pos) (λc S=>(f c S).bind λp k=>(g c k).bind λq d=>bQ p q d):=RP Nf (Cc λi j h=>h) m e
abbrev jK:=B8 (λ_ j=>0<j) λi j=>i % j
def yO(m:yI X W a f)(e:yI X W b g):yI X W (.BinOp a .Mod b pos) (λc S=>(f c S).bind λp k=>(g c k).bind λq d=>jK p q d):=RP M8 (Cc λi j h=>h) m e
def Jh(i j:Int):Prop:=0<=j/\(Builtin.Int.intBits i:Int) * j<=2 ^ 27
instance(i j:Int):Decidable (Jh i j):=inferInstanceAs (Decidable (_/\_))
abbrev KU:=B8 Jh λi j=>i ^ j.toNat
def Vv:OpR X (binaryOp .Pow) (rI Jh λi j=>.int (i ^ j.toNat)):=zES λ_ _ _ _ _ _ _ a q=>pow_int a.1 a.2 q
def MZ(m:yI X W a f)(e:yI X W b g):yI X W (.BinOp a .Pow b pos) (λc S=>(f c S).bind λp k=>(g c k).bind λq d=>KU p q d):=RP Vv (Cc λi j h=>h) m e
def shlC(i j:Int):Prop:=0<=j/\j<=1000000/\i.natAbs<2 ^ 64
instance(i j:Int):Decidable (shlC i j):=inferInstanceAs (Decidable (_/\_/\_))
noncomputable def XN(S:Sto):Er->Option (List MV)
 |.new ds=>some ds
 |.val (.loc l)=>match S[l]? with
  |some (.lst ds)=>some ds
  |_=>none
 |_=>none
def UL(wd:Wd X.g α S H)(e:XN S r=some ds)(d:DenX X.K α H r x): ∃a c,x=.ref a/\H a=some (.lst c)/\DenL X.K α H ds c:=by
 unfold XN at e;split at e
 .cases e;obtain⟨b,c,rfl,h,_,l⟩:=d;exact⟨b,c,rfl,h,l⟩
 .rename_i n;obtain⟨a,rfl,h⟩:=iL d;split at e
  .rename_i es f;cases e;obtain⟨c,i,l⟩:=wd.obj n a _ h f;exact⟨a,c,rfl,i,l⟩
  .cases e
 .cases e
def Eo(p q:Er)(S:Sto):R Er:=match XN S p,XN S q with
 |some x,some y=>if x.length+y.length<=sizeLine then .ok (.new (x++y)) S else .no
 |_,_=>.no
def jL:Er->Er->Sto->R Er
 |.val (.int i),.val (.int j),S=>.ok (.val (.int (i+j))) S
 |.val (.str x),.val (.str y),S=>if x.length+y.length<=sizeLine then .ok (.val (.str (x++y))) S else .no
 |.val (.tup x),.val (.tup y),S=>if x.length+y.length<=sizeLine then .ok (.val (.tup (x++y))) S else .no
 |p,q,S=>Eo p q S
def Ng:OpR X (binaryOp .Add) (λx y H Q=> ∃a b p,x=.ref a/\y=.ref b/\SqT X.K H a []/\SqT X.K H b p/\Q (.ref b) H):=by
 intro pins s σ H x y v u Q I C z h;obtain⟨a,b,p,rfl,rfl,w,B,q⟩:=h;cases C;cases z;obtain⟨r,J,p1,_⟩:=I.tuple w;obtain⟨m,M,p2,_⟩:=I.tuple B;have E:=J.nil_iff.mpr rfl;subst E;obtain⟨⟨D,L,k,sl⟩,j,t,n,G⟩:=id p1;obtain⟨⟨o,f,_,i⟩,c,e,A,d⟩:=id p2;subst t G e d
 exact concat_meets ⟨_,j,rfl⟩ ⟨_,c,rfl⟩ noFill_tuple_add seq_tuple_add PySem.F.slot_tuple_add PySem.F.entry_tuple_add (PySem.F.args_tuple_add_2 _ _)
  (tuple_addW0 a b _ _ n A L f sl i rfl) ⟨j,c,⟨.ref b,H,I,rfl,q⟩⟩
def xN(C:yI X W a f)(E:yI X W b g):yI X W (.BinOp a .Add b pos) (λz S=>(f z S).bind λp F=>(g z F).bind λq K=>jL p q K):=by
 refine RP (M6.or (Bh.or (O3.or (Uu.or Ng)))) ?_ C E;intro p q x y α S H Q wd o j c;unfold jL at c;split at c
 .exact .inl ⟨_,_,wG o,wG j,Post.val c wd (jV _)⟩
 .split at c
  .rename_i h;refine .inr (.inl ⟨_,_,dR o,dR j,by rw[gT];exact h,?_⟩);rw[GB];exact Post.val c wd (lV _)
  .exact c.elim
 .split at c
  .rename_i w A h;obtain⟨i,n,rfl,s,d⟩:=iK o;obtain⟨k,m,rfl,u,e⟩:=iK j;by_cases B:n=[]
   .subst B;have t:=d.length;refine .inr (.inr (.inr (.inr ⟨i,k,m,rfl,rfl,s,u,?_⟩)));have:w=[]:=by cases w with |nil=>rfl|cons _ _=>simp at t
    subst this;exact Post.val c wd (pW u e)
   .refine .inr (.inr (.inr (.inl ⟨i,k,n,m,rfl,rfl,s,u,B,by rw[d.length,e.length];exact h,λr=>?_,λr p v=>Post.newt c wd v (d.append e)⟩)));subst r;have t:=e.length;have:A=[]:=by cases A with |nil=>rfl|cons _ _=>simp at t
    subst this;rw[aN]at c;exact Post.val c wd (pW s d)
  .exact c.elim
 .unfold Eo at c;split at c
  .rename_i L G I J;split at c
   .rename_i h;obtain⟨i,n,rfl,r,d⟩:=UL wd I o;obtain⟨k,m,rfl,D,e⟩:=UL wd J j;exact .inr (.inr (.inl ⟨i,k,n,m,rfl,rfl,r,D,by rw[d.length,e.length];exact h,λp v=>Post.newl c wd v (d.append e)⟩))
   .exact c.elim
  .exact c.elim
def mulC(i j:Int):Prop:=(-(2 ^ 64)<i/\i<2 ^ 64)\/(-(2 ^ 64)<j/\j<2 ^ 64)\/(i.natAbs.log2<4000/\j.natAbs.log2<4000)
theorem Ep(h:i.natAbs.log2<4000):Builtin.Int.intBits i<=2 ^ 20:=by unfold Builtin.Int.intBits;split<;>lia
def mulC.ok(h:mulC i j):IntMulOk i j:=by
 rcases h with h|h|⟨h1,h2⟩
 .exact CMul.ok (.inl h)
 .exact CMul.ok (.inr h)
 .exact .of_bits (Ep h1) (Ep h2)
def Vx:OpR X (binaryOp .Mult) (rI mulC λi j=>.int (i * j)):=zES λ_ _ _ _ _ _ _ a q=>mul_int q a.ok
instance(i j:Int):Decidable (mulC i j):=inferInstanceAs (Decidable (_\/_\/_))
def C4(p:Er)(k:Int)(S:Sto):R Er:=match XN S p with
 |some x=>if 0<=k/\k<100000/\x.length * k.toNat<=sizeLine then .ok (.new (List.replicate k.toNat x).flatten) S else .no
 |none=>.no
def vH:Er->Er->Sto->R Er
 |.val (.int i),.val (.int j),S=>if mulC i j then .ok (.val (.int (i * j))) S else .no
 |.val (.str x),.val (.int k),S=>if 0<=k/\k<1000/\x.length<=1000 then .ok (.val (.str (QC x k))) S else .no
 |p,.val (.int k),S=>C4 p k S
 |_,_,_=>.no
theorem DenL.rep{K:R0}(l:DenL K α H ds vs): ∀k:Nat,DenL K α H (List.replicate k ds).flatten (List.replicate k vs).flatten
 |0=>xL
 |k+1=>by rw[Ĺ];exact l.append (DenL.rep l k)
theorem iM(m:yI X W a f)(t:yI X W b g):yI X W (.BinOp a .Mult b pos) (λj S=>(f j S).bind λp u=>(g j u).bind λq r=>vH p q r):=by
 refine RP (Vx.or (Bu.or O4)) ?_ m t;intro p q x y α S H Q wd h e c;unfold vH at c;split at c
 .split at c
  .rename_i d;exact .inl ⟨_,_,wG h,wG e,d,Post.val c wd (jV _)⟩
  .exact c.elim
 .split at c
  .rename_i d;exact .inr (.inl ⟨_,_,dR h,wG e,d.1,d.2.1,d.2.2,Post.val c wd (lV _)⟩)
  .exact c.elim
 .unfold C4 at c;split at c
  .rename_i w n;split at c
   .rename_i d;obtain⟨k,o,rfl,v,i⟩:=UL wd n h;exact .inr (.inr ⟨k,_,o,rfl,wG e,v,by lia,by lia,by rw[i.length];exact d.2.2,λp s=>Post.newl c wd s (i.rep _)⟩)
   .exact c.elim
  .exact c.elim
 .exact c.elim
noncomputable def zR:Nat:=40
def rE(p q:Er)(S:Sto):R Er:=match KS S zR p q with
 |some k=>.ok (.val (.bl k)) S
 |none=>.no
def II(p q:Er)(S:Sto):R Er:=match KS S zR p q with
 |some k=>.ok (.val (.bl !k)) S
 |none=>.no
theorem Nh(i:X.A.units+64<cLine):OpR X (compareOp .Eq) (λx y H Q=> ∃α S p q k,Wd X.g α S H/\DenX X.K α H p x/\DenX X.K α H q y/\KS S zR p q=some k/\Q (.bl k) H):=by intro pins s σ H x y v u Q I a b h;obtain⟨α,S,p,q,k,wd,f,c,e,d⟩:=h;exact Q1 I wd zR (by unfold zR;lia) f c a b e X.prog X.w _ _ ⟨.bl k,H,I,rfl,d⟩
theorem Ni(i:X.A.units+64<cLine):OpR X (compareOp .NotEq) (λx y H Q=> ∃α S p q k,Wd X.g α S H/\DenX X.K α H p x/\DenX X.K α H q y/\KS S zR p q=some k/\Q (.bl (!k)) H):=by intro pins s σ H x y v u Q I a b h;obtain⟨α,S,p,q,k,wd,f,c,e,d⟩:=h;exact Q2 I wd zR (by unfold zR;lia) f c a b e X.prog X.w _ _ ⟨.bl (!k),H,I,rfl,d⟩
def Es:YH X W (λx y H Q=> ∃α S p q k,Wd X.g α S H/\DenX X.K α H p x/\DenX X.K α H q y/\KS S zR p q=some k/\Q (.bl k) H) rE:=by
 intro p q x y α S H Q wd c b a;unfold rE at a;split at a
 .rename_i k e;exact⟨α,S,p,q,k,wd,c,b,e,Post.val a wd (gP _)⟩
 .exact a.elim
def Et:YH X W (λx y H Q=> ∃α S p q k,Wd X.g α S H/\DenX X.K α H p x/\DenX X.K α H q y/\KS S zR p q=some k/\Q (.bl (!k)) H) II:=by
 intro p q x y α S H Q wd c b a;unfold II at a;split at a
 .rename_i k e;exact⟨α,S,p,q,k,wd,c,b,e,Post.val a wd (gP _)⟩
 .exact a.elim
def C5(d:X.A.units+64<cLine)(j:yI X W a f)(h:yI X W b g):yI X W (.Compare a [.Eq] [b] pos) (λc S=>(f c S).bind λp i=>(g c i).bind λq e=>rE p q e):=MU (Nh d) Es j h
def gF(d:X.A.units+64<cLine)(j:yI X W a f)(h:yI X W b g):MQ X W (.Compare a [.Eq] [b] pos) (λc S=>((f c S).bind λp i=>(g c i).bind λq e=>rE p q e).bind jW):=rC (Nh d) Es j h
def Nj(d:X.A.units+64<cLine)(j:yI X W a f)(h:yI X W b g):yI X W (.Compare a [.NotEq] [b] pos) (λc S=>(f c S).bind λp i=>(g c i).bind λq e=>II p q e):=MU (Ni d) Et j h
def NA(d:X.A.units+64<cLine)(j:yI X W a f)(h:yI X W b g):MQ X W (.Compare a [.NotEq] [b] pos) (λc S=>((f c S).bind λp i=>(g c i).bind λq e=>II p q e).bind jW):=rC (Ni d) Et j h
def C6:Er->Er->Sto->R Er
 |.val d,.val f,S=>match LN S zR d f with
  |some k=>.ok (.val (.bl k)) S
  |none=>.no
 |_,_,_=>.no
theorem Q3(m:X.A.units+64<cLine):OpR X (compareOp .Lt) (λx y H Q=> ∃α S d f k,Wd X.g α S H/\Den X.K α H d x/\Den X.K α H f y/\LN S zR d f=some k/\Q (.bl k) H):=by intro pins s σ H x y v u Q I a b h;obtain⟨α,S,d,f,k,wd,j,c,e,i⟩:=h;exact Ca I wd zR X.A d f x y v u k (by unfold zR;lia) j c a b e X.prog X.w _ _ ⟨.bl k,H,I,rfl,i⟩
def Vy:YH X W (λx y H Q=> ∃α S d f k,Wd X.g α S H/\Den X.K α H d x/\Den X.K α H f y/\LN S zR d f=some k/\Q (.bl k) H) C6:=by
 intro p q x y α S H Q wd c b a;unfold C6 at a;split at a
 .split at a
  .rename_i k e;exact⟨α,S,_,_,k,wd,c,b,e,Post.val a wd (gP _)⟩
  .exact a.elim
 .exact a.elim
def Nk(d:X.A.units+64<cLine)(j:yI X W a f)(h:yI X W b g):MQ X W (.Compare a [.Lt] [b] pos) (λc S=>((f c S).bind λp i=>(g c i).bind λq e=>C6 p q e).bind jW):=rC (Q3 d) Vy j h
noncomputable def UM:Er->Er->Sto->R Er
 |.val .non,.val .non,S=>.ok (.val (.bl true)) S
 |_,.val .non,S=>.ok (.val (.bl false)) S
 |_,_,_=>.no
noncomputable def NB:Er->Er->Sto->R Er
 |.val .non,.val .non,S=>.ok (.val (.bl false)) S
 |_,.val .non,S=>.ok (.val (.bl true)) S
 |_,_,_=>.no
theorem YM(d:DenX X.K α H p x)(n:p≠.val .non):decide (x=.non)=false:=by
 cases p with
 |new ds=>obtain⟨b,a,rfl,_⟩:=d;rfl
 |val m=>
  cases m with
  |non=>exact absurd rfl n
  |bl b=>cases JY d;rfl
  |int b=>cases wG d;rfl
  |str b=>cases dR d;rfl
  |typ b=>cases Mp d;rfl
  |obj b b' b''=>obtain⟨_,_,_,_,_,rfl,_⟩:=P5 d;rfl
  |tup b=>obtain⟨_,_,rfl,_⟩:=iK d;rfl
  |scr b=>obtain⟨_,_,rfl,_⟩:=MP d;rfl
  |loc b=>obtain⟨_,rfl,_⟩:=iL d;rfl
def Vz:YH X W (λx y H Q=>y=.non/\Q (.bl (decide (x=.non))) H) UM:=by
 intro p q x y α S H Q wd d c a;unfold UM at a;split at a
 .cases rA d;exact⟨rA c,Post.val a wd (gP _)⟩
 .rename_i f e b;rw[YM d (λz=>by first |exact b z|exact b z rfl|exact b _ z|exact b rfl z)];exact⟨rA c,Post.val a wd (gP _)⟩
 .exact a.elim
def Nl:YH X W (λx y H Q=>y=.non/\Q (.bl (!decide (x=.non))) H) NB:=by
 intro p q x y α S H Q wd d c a;unfold NB at a;split at a
 .cases rA d;exact⟨rA c,Post.val a wd (gP _)⟩
 .rename_i f e b;rw[YM d (λz=>by first |exact b z|exact b z rfl|exact b _ z|exact b rfl z)];exact⟨rA c,Post.val a wd (gP _)⟩
 .exact a.elim
def Nn(e:yI X W a f)(d:yI X W b g):MQ X W (.Compare a [.Is] [b] pos) (λc S=>((f c S).bind λp h=>(g c h).bind λq i=>UM p q i).bind jW):=rC N1 Vz e d
def YN(e:yI X W a f)(d:yI X W b g):MQ X W (.Compare a [.IsNot] [b] pos) (λc S=>((f c S).bind λp h=>(g c h).bind λq i=>NB p q i).bind jW):=rC Ug Nl e d
def getL(ds:U0):Er->Sto->R Er
 |.val (.int i),S=>match uT ds i with |some d=>.ok (.val d) S|none=>.no
 |_,_=>.no
def xK:Er->Er->Sto->R Er
 |.val (.str x),.val (.int i),S=>if x.length<=sizeLine then match uT x i with |some c=>.ok (.val (.str [c])) S|none=>.no else .no
 |.val (.tup ds),q,S=>getL ds q S
 |p,q,S=>match bZ S p with |some ds=>getL ds q S|none=>.no
def Wa{K:R0}(l:DenL K α H ds vs)(e:uT ds i=some d): ∃v,uT vs i=some v/\Den K α H d v:=by
 unfold uT at e ⊢;rw[l.length]
 cases z:XM ds.length i with
 |none=>rw[z]at e;cases e
 |some j=>
  rw[z]at e;obtain⟨v,b,a⟩:=l.at e;exact⟨v,b,a⟩
def zO(w:yI X W a f)(A:yI X W b g)(hs:FX b:=by exact λ_ _=>rfl):yI X W (.Subscript a b pos) (λt S=>(f t S).bind λp B=>(g t B).bind λq D=>xK p q D):=by
 refine Mq N9 ?_ w A hs;intro p q x y α S H Q wd s o c;have j: ∀{ds:U0}{vs:List V}{i:Int}{d:MV},DenL X.K α H ds vs->uT ds i=some d->Post X.g W α H _ Q-> ∃v,uT vs i=some v/\Q v H:=λl e c=>by obtain⟨v,k,h⟩:=Wa l e;exact⟨v,k,Post.val c wd h⟩
 unfold xK at c;split at c
 .split at c
  .rename_i z;split at c
   .rename_i u e;refine .inr (.inr ⟨_,_,u,dR s,wG o,by rw[gT];exact z,by rw[Vd];exact e,?_⟩);exact Post.val c wd (lV [u])
   .exact c.elim
  .exact c.elim
 .unfold getL at c;split at c
  .split at c
   .rename_i d e;obtain⟨m,vs,rfl,r,n⟩:=iK s;obtain⟨v,k,h⟩:=j n e c;exact .inr (.inl ⟨m,vs,_,v,rfl,wG o,r,k,h⟩)
   .exact c.elim
  .exact c.elim
 .split at c
  .rename_i ds C;unfold getL at c;split at c
   .split at c
    .rename_i d e;obtain⟨m,vs,rfl,r,n⟩:=AA rfl wd C s;obtain⟨v,k,h⟩:=j n e c;exact .inl ⟨m,vs,_,v,rfl,wG o,r,k,h⟩
    .exact c.elim
   .exact c.elim
  .exact c.elim
end
def QE{lo:O0}(e:IsTup s.heap t its)(hs:s.heap.IsSliceOf sl vl vu .none)(pl:IsPart vl lo)(f:IsPart vu hi)
  (h0:HT.sIx its.size 0 lo=0) (h1:HT.sIx its.size its.size hi=its.size) (h:Q (.ref t) s):wpAny (model prog w) A (getItem (.ref t) (.ref sl)) Q E s:=by
 have c:s.TypeIs (.ref sl) "slice":=by obtain⟨os,d,b,_⟩:=id hs;exact⟨os,d,b⟩
 have a:=e.typeIs;unfold getItem
 try with_reducible refine ú ?_
 first |refine wB _|skip
 refine wB (wpAny_sequenceKey a ↑3 ?_);refine wB (ô a ė (ð ė a entry_tuple_getitem ?_ (args_tuple_getitem _ _)));show wpAny _ _ (Builtin.Tuple.tupleItemsOf _ >>= _) _ _ s;refine wB (tupleItemsOf_ e (wB (į c ?_)));refine wB (HT.sliceApplied_gen hs pl f ?_);show wpAny _ _ (if _=true then _ else _) _ _ s;rw[iP (by rw[h0,h1];simp)];refine wB (wB (į a (wP ?_)));refine wB (Ģ ?_)
 first
  |exact wP ⟨_,rfl,wP h⟩
  |exact wB _
  |exact wB _
section
variable{e:Expr}{h:AX}
def Wb:SlR X (λx lo hi H Q=> ∃a xs,x=.ref a/\SqT X.K H a xs/\HT.sIx xs.length 0 lo=0/\HT.sIx xs.length xs.length hi=xs.length/\Q (.ref a) H):=by
 intro pins s σ H x v vl o lo hi sl Q I e f m i h;obtain⟨a,xs,rfl,k,j,n,q⟩:=h;cases e;obtain⟨c,r,d,p⟩:=I.tuple k;have b:c.toArray.size=xs.length:=by rw[sA];exact r.length.symm
 exact⟨_,_,PyProof.Rows.slot_tuple_getitem.lookup,d.typeIs,QE d f m i (by rw[b];exact j) (by rw[b];exact n) ⟨.ref a,H,I,rfl,q⟩⟩
def fQ:Er->Option Int->Option Int->Sto->R Er
 |.val (.str x),lo,hi,S=>if x.length<=sizeLine then .ok (.val (.str (aG x lo hi))) S else .no
 |.val (.tup ds),lo,hi,S=>.ok (.val (.tup (aG ds lo hi))) S
 |p,lo,hi,S=>match bZ S p with |some ds=>.ok (.new (aG ds lo hi)) S|none=>.no
def Ji{lo:O0}(a:HT.sIx ds.length 0 lo=0)(b:HT.sIx ds.length ds.length hi=ds.length):aG ds lo hi=ds:=by unfold aG;rw[a,b];simp
def dB{lo:Option Expr}(r:yI X W a f)(v:zBB X W lo lf)(n:zBB X W hi hf):yI X W (.Subscript a (.Slice lo hi none p2) pos) (λk S=>(f k S).bind λp y=>(lf k y).bind λl t=>(hf k t).bind λu w=>fQ p l u w):=by
 refine Mw (O6.or (Ux.or (N8.or Wb))) ?_ r v n;intro p lo hi x α S H Q wd j b;unfold fQ at b;split at b
 .split at b
  .rename_i s;exact .inl ⟨_,dR j,s,Post.val b wd (lV _)⟩
  .exact b.elim
 .rename_i _ _ _ q;obtain⟨i,c,rfl,h,d⟩:=iK j;by_cases hw:HT.sIx c.length 0 lo=0/\HT.sIx c.length c.length hi=c.length
  .have e:=Ji (by rw[<-d.length];exact hw.1) (by rw[<-d.length];exact hw.2);rw[e]at b;exact .inr (.inr (.inr ⟨i,c,rfl,h,hw.1,hw.2,Post.val b wd (pW h d)⟩))
  .exact .inr (.inr (.inl ⟨i,c,rfl,h,hw,λp m=>Post.newt b wd m (d.cut lo hi)⟩))
 .split at b
  .rename_i q o;obtain⟨i,c,rfl,h,d⟩:=AA rfl wd o j;exact .inr (.inl ⟨i,c,rfl,h,λp m=>Post.newl b wd m (d.cut lo hi)⟩)
  .exact b.elim
theorem DenL.pick{K:R0}(l:DenL K α H ds vs): ∀a:List Nat,DenL K α H (a.filterMap (ds[·]?)) (a.filterMap (vs[·]?))
 |[]=>xL
 |i::a=>by
  cases z:ds[i]? with
  |none=>
   have c:vs[i]? =none:=by rw[ĭ,l.length];exact ĭ.mp z
   rw[Ĳ z,Ĳ c];exact DenL.pick l a
  |some d=>
   obtain⟨v,e,b⟩:=l.at z;rw[Ĵ z,Ĵ e];exact yT b (DenL.pick l a)
theorem Vals.pick(r:Vals xs us): ∀a:List Nat,Vals (a.filterMap (xs[·]?)) (a.filterMap (us[·]?))
 |[]=>.nil
 |i::a=>by
  cases z:xs[i]? with
  |none=>rw[Ĳ z,Ĳ (r.none_of z)];exact Vals.pick r a
  |some d=>
   obtain⟨v,c,b⟩:=r.get z;rw[Ĵ z,Ĵ c];exact .cons b (Vals.pick r a)
end
section
variable{X:Cx}{W:XW}{a b c e:Expr}{g h:AX}
def YO(S:Sto)(n:Nat)(d:MV):List MV->Option (List Bool)
 |[]=>some []
 |y::ys=>(eqv S n y d).bind λk=>(YO S n d ys).map (k::·)
section
variable{α:B9}{S:Sto}{H:Hp}{pins:M0}{σ:St}{s:ĺ}
def Wc(X:Cx)(α:B9)(S:Sto)(H:Hp)(n:Nat)(d:MV)(u:Ļ):Bool:=open Classical in decide (∃y x,Den X.K α H y x/\RelV x u/\eqv S n y d=some true)
open Classical in
def We(I:↑2)(wd:Wd X.g α S H){n:Nat}{d y:MV}{x:V}{u:Ļ}{k:Bool}(b:Den X.K α H y x)(r:RelV x u)(e:eqv S n y d=some k):Wc X α S H n d u=k:=by
 unfold Wc
 cases k with
 |true=>exact dT0 ⟨y,x,b,r,e⟩
 |false=>
  refine dF0 λ⟨h,i,a,f,c⟩=>?_;have ex:=r.inj f;subst ex;rw[b.inj I wd a]at e;rw[e]at c;cases c
theorem GI(I:↑2)(wd:Wd X.g α S H)(b:A.units+n<cLine)(m:Den X.K α H d x)(h:RelV x v): ∀{c}{vs}{us}{bs},DenL X.K α H c vs->Vals vs us->YO S n d c=some bs->
  us.map (Wc X α S H n d)=bs/\ ∀u∈us,SeqAt.EqAt A s u v (Wc X α S H n d u)
 |[],_,_,bs,l,r,e=>by cases l.isnil;cases r;cases e;exact⟨rfl,λu b=>by cases b⟩
 |y::c,_,_,bs,l,r,e=>by
  obtain⟨t,w,rfl,i,o⟩:=l.uncons
  cases r with
  |cons r1 r2=>
   unfold YO at e
   cases z:eqv S n y d with
   |none=>rw[z]at e;cases e
   |some k=>
    rw[z]at e
    cases f:YO S n d c with
    |none=>simp[f]at e
    |some cs=>
     simp[f]at e;subst e;obtain⟨q,p⟩:=GI I wd b m h o r2 f;have j:=We I wd i r1 z;refine⟨by rw[ã,q,j],λu a=>?_⟩;rcases mC.mp a with rfl|a
     .rw[j];exact IH I wd n A y d _ _ _ _ k b i m r1 h z
     .exact p u a
end
theorem any_map{us:A0}{f:Ļ->Bool}(h:us.map f=bs):us.toArray.any f=bs.any id:=by subst h;simp[List.any_map]
def itemsOf(S:Sto):Er->Option (List MV)
 |.val (.tup ds)=>some ds
 |r=>bZ S r
def GK(wd:Wd X.g α S H)(e:itemsOf S r=some ds)(d:DenX X.K α H r x): ∃a b,x=.ref a/\(SqL X.K H a b\/SqT X.K H a b)/\DenL X.K α H ds b:=by
 unfold itemsOf at e;split at e
 .cases e;obtain⟨a,b,rfl,s,l⟩:=iK d;exact⟨a,b,rfl,.inr s,l⟩
 .obtain⟨a,b,rfl,s,l⟩:=AA rfl wd e d;exact⟨a,b,rfl,.inl s,l⟩
def IK(a:Bool)(p q:Er)(S:Sto):R Er:=match p with
 |.val d=>match itemsOf S q with
  |some ys=>match YO S zR d ys with
   |some bs=>.ok (.val (.bl (if a=true then !bs.any id else bs.any id))) S
   |none=>.no
  |none=>.no
 |.new _=>.no
def KC(a:Bool):Er->Er->Sto->R Er
 |.val (.str [c]),.val (.str y),S=>.ok (.val (.bl (if a=true then !decide (c∈y)else decide (c∈y)))) S
 |p,q,S=>IK a p q S
abbrev Np(X:Cx)(a:Bool):R2:=λx y H Q=> ∃α S d q b bs,Wd X.g α S H/\Den X.K α H d x/\DenX X.K α H q y/\itemsOf S q=some b/\YO S zR d b=some bs/\Q (.bl (if a=true then !bs.any id else bs.any id)) H
theorem Q4(z:X.A.units+64<cLine):OpR X (compareOp .In) (Np X false):=by
 intro pins s σ H x y v u Q I j o h;obtain⟨α,S,d,q,B,bs,wd,n,p,t,m,k⟩:=h;obtain⟨a,C,rfl,b,l⟩:=GK wd t p;cases o;rcases b with b|b
 .obtain⟨c,r,f,_⟩:=I.list b;obtain⟨i,e⟩:=GI I wd (A:=X.A.in1) (by show X.A.units+1+zR<cLine;unfold zR;lia) n j l r m;refine SeqAt.in_listAt _ f.isList (λw hw=>e w (by simpa using hw)) ⟨.bl _,H,I,rfl,?_⟩;rw[any_map i];exact k
 .obtain⟨c,r,f,_⟩:=I.tuple b;obtain⟨i,e⟩:=GI I wd (A:=X.A.in1) (by show X.A.units+1+zR<cLine;unfold zR;lia) n j l r m;refine SeqAt.in_tupleAt _ f (λw hw=>e w (by simpa using hw)) ⟨.bl _,H,I,rfl,?_⟩;rw[any_map i];exact k
theorem Jj(z:X.A.units+64<cLine):OpR X (compareOp .NotIn) (Np X true):=by
 intro pins s σ H x y v u Q I j o h;obtain⟨α,S,d,q,B,bs,wd,n,p,t,m,k⟩:=h;obtain⟨a,C,rfl,b,l⟩:=GK wd t p;cases o;rcases b with b|b
 .obtain⟨c,r,f,_⟩:=I.list b;obtain⟨i,e⟩:=GI I wd (A:=X.A.in1) (by show X.A.units+1+zR<cLine;unfold zR;lia) n j l r m;refine SeqAt.notIn_listAt _ f.isList (λw hw=>e w (by simpa using hw)) ⟨.bl _,H,I,rfl,?_⟩;rw[any_map i];exact k
 .obtain⟨c,r,f,_⟩:=I.tuple b;obtain⟨i,e⟩:=GI I wd (A:=X.A.in1) (by show X.A.units+1+zR<cLine;unfold zR;lia) n j l r m;refine SeqAt.notIn_tupleAt _ f (λw hw=>e w (by simpa using hw)) ⟨.bl _,H,I,rfl,?_⟩;rw[any_map i];exact k
def LO:YH X W (λx y H Q=>(∃i j,x=.str i/\y=.str j/\Q (.bl (if neg=true then !(!(Builtin.Str.occurrences j i 0 j.length 1).isEmpty)else !(Builtin.Str.occurrences j i 0 j.length 1).isEmpty)) H)\/Np X neg x y H Q) (KC neg):=by
 intro p q x y α S H Q wd c b a;unfold KC at a;split at a
 .refine .inl ⟨_,_,dR c,dR b,?_⟩;rw[<-Ve,PySem.StrLaws.found_one];exact Post.val a wd (gP _)
 .unfold IK at a;split at a
  .rename_i d _;split at a
   .rename_i f h;split at a
    .rename_i bs e;exact .inr ⟨α,S,_,q,f,bs,wd,c,b,h,e,Post.val a wd (gP _)⟩
    .exact a.elim
   .exact a.elim
  .exact a.elim
def OpR.imp{f:Ļ->Ļ->Sem Ļ}(h:OpR X f r)(i: ∀x y H Q,r' x y H Q->r x y H Q):OpR X f r':=λpins s σ H x y v u Q I b a q=>h pins s σ H x y v u Q I b a (i x y H Q q)
def Nq(a:X.A.units+64<cLine):OpR X (compareOp .In) (λx y H Q=>(∃i j,x=.str i/\y=.str j/\Q (.bl (if false =true then !(!(Builtin.Str.occurrences j i 0 j.length 1).isEmpty)else !(Builtin.Str.occurrences j i 0 j.length 1).isEmpty)) H)\/Np X false x y H Q):=
 OpR.imp (Ij.or (Q4 a)) λx y H Q q=>q.imp (λq=>q) λq=>q
def RT(a:X.A.units+64<cLine):OpR X (compareOp .NotIn) (λx y H Q=>(∃i j,x=.str i/\y=.str j/\Q (.bl (if true =true then !(!(Builtin.Str.occurrences j i 0 j.length 1).isEmpty)else !(Builtin.Str.occurrences j i 0 j.length 1).isEmpty)) H)\/Np X true x y H Q):=
 OpR.imp (TR.or (Jj a)) λx y H Q q=>q.imp (λq=>q) λq=>q
def C7(d:X.A.units+64<cLine)(k:yI X W a f)(h:yI X W b g)(i:behindInMarks .In b=false:=by with_unfolding_all rfl):yI X W (.Compare a [.In] [b] pos) (λc S=>(f c S).bind λp j=>(g c j).bind λq e=>KC false p q e):=MU (Nq d) LO k h i
def C8(d:X.A.units+64<cLine)(k:yI X W a f)(h:yI X W b g)(i:behindInMarks .In b=false:=by with_unfolding_all rfl):MQ X W (.Compare a [.In] [b] pos) (λc S=>((f c S).bind λp j=>(g c j).bind λq e=>KC false p q e).bind jW):=rC (Nq d) LO k h i
def Nr(d:X.A.units+64<cLine)(k:yI X W a f)(h:yI X W b g)(i:behindInMarks .NotIn b=false:=by with_unfolding_all rfl):yI X W (.Compare a [.NotIn] [b] pos) (λc S=>(f c S).bind λp j=>(g c j).bind λq e=>KC true p q e):=MU (RT d) LO k h i
def sS(d:X.A.units+64<cLine)(k:yI X W a f)(h:yI X W b g)(i:behindInMarks .NotIn b=false:=by with_unfolding_all rfl):MQ X W (.Compare a [.NotIn] [b] pos) (λc S=>((f c S).bind λp j=>(g c j).bind λq e=>KC true p q e).bind jW):=rC (RT d) LO k h i
def sU{K:R0}(d:ArgsX K α H [r] vs): ∃v,vs=[v]/\DenX K α H r v:=by
 cases d with
 |cons a l=>cases l;exact⟨_,rfl,a⟩
def C9{K:R0}(d:ArgsX K α H [r,r'] vs): ∃v u,vs=[v,u]/\DenX K α H r v/\DenX K α H r' u:=by
 cases d with
 |cons a l=>obtain⟨u,rfl,b⟩:=sU l;exact⟨_,u,rfl,a,b⟩
def rF:List Er->Sto->R Er
 |[.val (.str x)],S=>if x.length<=sizeLine then .ok (.val (.int x.length)) S else .no
 |[r],S=>match itemsOf S r with |some ds=>.ok (.val (.int ds.length)) S|none=>.no
 |_,_=>.no
def dW:pY X W (λxs H Q=>(∃z,xs=[.str z]/\z.length<=sizeLine/\Q (.int z.length) H)\/ ∃p f,xs=[.ref p]/\(SqL X.K H p f\/SqT X.K H p f)/\Q (.int f.length) H) rF:=by
 intro m n α S H Q wd d b;unfold rF at b;split at b
 .split at b
  .rename_i j;obtain⟨v,rfl,c⟩:=sU d;cases dR c;refine .inl ⟨_,rfl,by rw[gT];exact j,?_⟩;exact Post.val b wd (jV _)
  .exact b.elim
 .split at b
  .rename_i k e;obtain⟨v,rfl,c⟩:=sU d;obtain⟨a,i,rfl,h,l⟩:=GK wd e c;refine .inr ⟨a,i,rfl,h,?_⟩;rw[l.length];exact Post.val b wd (jV _)
  .exact b.elim
 .exact b.elim
def wC:CallR X (.builtin "len") (λxs H Q=>(∃z,xs=[.str z]/\z.length<=sizeLine/\Q (.int z.length) H)\/ ∃p a,xs=[.ref p]/\(SqL X.K H p a\/SqT X.K H p a)/\Q (.int a.length) H):=UA.or TZ
noncomputable def uX:List MV->Option (List Bool)
 |[]=>some []
 |.bl b::r=>(uX r).map (b::·)
 |_::_=>none
theorem IL{K:R0}: ∀{ds}{bs}{vs},uX ds=some bs->DenL K α H ds vs->vs=bs.map V.bl
 |[],_,_,e,l=>by cases e;exact l.isnil
 |d::r,bs,_,e,l=>by
  cases d with
  |bl b=>
   unfold uX at e
   cases z:uX r with
   |none=>rw[z]at e;cases e
   |some cs=>
    rw[z]at e;cases e;obtain⟨v,f,rfl,a,c⟩:=l.uncons;rw[sQ a,IL z c];rfl
  |_=>cases e
def Wf:List Er->Sto->R Er
 |[r],S=>match (bZ S r).bind uX with |some bs=>.ok (.val (.bl (bs.all id))) S|none=>.no
 |_,_=>.no
def Nt:List Er->Sto->R Er
 |[r],S=>match (bZ S r).bind uX with |some bs=>.ok (.val (.bl (bs.any id))) S|none=>.no
 |_,_=>.no
def Q5(h:X.calm=true):pY X W (λxs H Q=> ∃(a:Addr)(bs:N0),xs=[.ref a]/\SqL X.K H a (bs.map V.bl)/\X.calm=true/\Q (.bl (bs.all id)) H) Wf:=by
 intro i k α S H Q wd d b;unfold Wf at b;split at b
 .split at b
  .rename_i bs e;obtain⟨v,rfl,f⟩:=sU d
   cases z:bZ S _ with
   |none=>rw[z]at e;cases e
   |some ds=>
    rw[z]at e;obtain⟨c,j,rfl,s,l⟩:=AA rfl wd z f;refine⟨c,bs,rfl,?_,h,Post.val b wd (gP _)⟩;rw[<-IL e l];exact s
  .exact b.elim
 .exact b.elim
def UO(S:Sto):Er->Option String
 |.val .non=>some "NoneType"
 |.val (.bl _)=>some "bool"
 |.val (.int _)=>some "int"
 |.val (.str _)=>some "str"
 |.val (.tup _)=>some "tuple"
 |.val (.typ _)=>none
 |.val (.obj _ _ _)=>none
 |r=>(bZ S r).map λ_=>"list"
noncomputable def Wg(t T:String):Bool:=t==T || (t=="bool"&&T=="int")
noncomputable def known(T:String):Bool:=T=="int" || T=="bool" || T=="str" || T=="tuple" || T=="list"
def UP:List Er->Sto->R Er
 |[r,.val (.typ T)],S=>match UO S r with
  |some t=>if known T=true then .ok (.val (.bl (Wg t T))) S else .no
  |none=>.no
 |_,_=>.no
theorem mR(K)(c:t="NoneType"\/t="bool"\/t="int"\/t="str"\/t="tuple"\/t="list")(b:known T=true):PySem.W.kitOne K (.type t) (.type T)=some (Wg t T):=by
 have a:T="int"\/T="bool"\/T="str"\/T="tuple"\/T="list":=by
  unfold known at b;simp only[Bool.or_eq_true,beq_iff_eq]at b;rcases b with(((h|h)|h)|h)|h
  .exact .inl h
  .exact .inr (.inl h)
  .exact .inr (.inr (.inl h))
  .exact .inr (.inr (.inr (.inl h)))
  .exact .inr (.inr (.inr (.inr h)))
 rcases c with rfl|rfl|rfl|rfl|rfl|rfl<;>rcases a with rfl|rfl|rfl|rfl|rfl<;>kernel_rfl
def Nu:CallR X (.builtin "isinstance") (λxs H Q=> ∃α S r x t T,xs=[x,.ty T]/\Wd X.g α S H/\DenX X.K α H r x/\UO S r=some t/\known T=true/\Q (.bl (Wg t T)) H):=by
 intro pins s σ H xs B Q I p h;obtain⟨α,S,r,x,t,T,rfl,wd,d,b,e,q⟩:=h;obtain⟨u,A,rfl,f,v⟩:=vals2 p;cases v;have c: ∀n,EP X pins σ Q _ {s with toks:=n}:=λn=>⟨.bl _,H,I.tok _,rfl,q⟩
 unfold UO at b;split at b
 .cases b;cases rA d;cases f;exact PySem.W.kia_one PySem.W.kitx_none I.kIn True.intro (mR X.K (.inl rfl) e) (λz=>nomatch z) c
 .cases b;cases JY d;cases f;exact PySem.W.kia_one PySem.W.kitx_bool I.kIn True.intro (mR X.K (.inr (.inl rfl)) e) (λz=>nomatch z) c
 .cases b;cases wG d;obtain⟨t,rfl⟩:=f;exact PySem.W.kia_one PySem.W.kitx_int I.kIn True.intro (mR X.K (.inr (.inr (.inl rfl))) e) (λz=>nomatch z) c
 .cases b;cases dR d;obtain⟨t,rfl⟩:=f;exact PySem.W.kia_one PySem.W.kitx_str I.kIn True.intro (mR X.K (.inr (.inr (.inr (.inl rfl)))) e) (λz=>nomatch z) c
 .cases b;obtain⟨a,y,rfl,k,l⟩:=iK d;cases f;obtain⟨i,w,p1,_⟩:=I.tuple k;obtain⟨o,m,j,_⟩:=p1;exact PySem.W.kia_one PySem.W.kitx_tuple I.kIn ⟨o,m,j⟩ (mR X.K (.inr (.inr (.inr (.inr (.inl rfl))))) e) (λz=>nomatch z) c
 .cases b
 .cases b
 .cases z:bZ S r with
  |none=>rw[z]at b;cases b
  |some ds=>
   rw[z]at b;cases b;obtain⟨a,y,rfl,k,l⟩:=AA rfl wd z d;cases f;obtain⟨i,w,p1,_⟩:=I.list k;obtain⟨o,m,j,_⟩:=p1.isList;exact PySem.W.kia_one PySem.W.kitx_list I.kIn ⟨o,m,j⟩ (mR X.K (.inr (.inr (.inr (.inr (.inr rfl))))) e) (λz=>nomatch z) c
def Q6:pY X W (λxs H Q=> ∃α S r x t T,xs=[x,.ty T]/\Wd X.g α S H/\DenX X.K α H r x/\UO S r=some t/\known T=true/\Q (.bl (Wg t T)) H) UP:=by
 intro h i α S H Q wd d a;unfold UP at a;split at a
 .split at a
  .rename_i t e;split at a
   .rename_i c;obtain⟨v,u,rfl,b,f⟩:=C9 d;cases Mp f;exact⟨α,S,_,v,t,_,rfl,wd,b,e,c,Post.val a wd (gP _)⟩
   .exact a.elim
  .exact a.elim
 .exact a.elim
def AC:List Er->Sto->R Er
 |[.val (.tup ds)],S=>.ok (.val (.tup ds)) S
 |[r],S=>match bZ S r with |some ds=>.ok (.val (.tup ds)) S|none=>.no
 |_,_=>.no
def GL:pY X W (λxs H Q=> ∃p i,xs=[.ref p]/\((SqL X.K H p i/\ ∀l,H l=none->Q (.ref l) (jS H l (.tup i)))\/(SqT X.K H p i/\Q (.ref p) H))) AC:=by
 intro m n α S H Q wd d b;unfold AC at b;split at b
 .obtain⟨v,rfl,f⟩:=sU d;obtain⟨a,h,rfl,c,l⟩:=iK f;exact⟨a,h,rfl,.inr ⟨c,Post.val b wd (pW c l)⟩⟩
 .split at b
  .rename_i k e;obtain⟨v,rfl,f⟩:=sU d;obtain⟨a,h,rfl,c,l⟩:=AA rfl wd e f;exact⟨a,h,rfl,.inl ⟨c,λp j=>Post.newt b wd j l⟩⟩
  .exact b.elim
 .exact b.elim
def RU:List Er->Sto->R Er
 |[r],S=>match itemsOf S r with |some ds=>.ok (.new ds) S|none=>.no
 |_,_=>.no
def Eu:pY X W (λxs H Q=> ∃p c,xs=[.ref p]/\(SqL X.K H p c\/SqT X.K H p c)/\ ∀l,H l=none->Q (.ref l) (jS H l (.lst c))) RU:=by
 intro m n α S H Q wd d b;unfold RU at b;split at b
 .split at b
  .rename_i k e;obtain⟨v,rfl,h⟩:=sU d;obtain⟨a,i,rfl,f,l⟩:=GK wd e h;exact⟨a,i,rfl,f,λp j=>Post.newl b wd j l⟩
  .exact b.elim
 .exact b.elim
def cA:bootBuiltins "len"=some (.builtin "len"):=by decide+kernel
def Q7:bootBuiltins "all"=some (.builtin "all"):=by decide+kernel
def Nv:bootBuiltins "any"=some (.builtin "any"):=by decide+kernel
def QF:bootBuiltins "isinstance"=some (.builtin "isinstance"):=by decide+kernel
def Wh:bootBuiltins "bool"=some (.type "bool"):=by decide+kernel
def GM:bootBuiltins "tuple"=some (.type "tuple"):=by decide+kernel
def GN:bootBuiltins "list"=some (.type "list"):=by decide+kernel
end
noncomputable def Q8(n:Nat):List Nat:=(Nat.toDigits 10 n).map Char.toNat
def QG(i:Int):List Nat:=if i<0 then 45::Q8 i.natAbs else Q8 i.natAbs
def Nx(i):Str.ofString (toString i)=bW (QG i):=by
 have a:(Str.ofString (toString i)).cps.toList=QG i:=by
  unfold QG
  cases i with
  |ofNat m=>
   rw[iN (by have:(0:Int)<=Int.ofNat m:=Int.natCast_nonneg m;omega)];exact PySem.W.KIN.signs_num m
  |negSucc m=>
   rw[iP (Int.negSucc_lt_zero m),signs_ofString];show(String.toList ("-"++Nat.repr (m+1))).map Char.toNat=45::Q8 (m+1);rw[String.toList_append,ó,Nat.toList_repr];rfl
 have: ∀s:Str,s=bW s.cps.toList:=λs=>by cases s;simp[bW]
 rw[this (Str.ofString (toString i)),a]
section
variable{X:Cx}{a o:Expr}{es:Q0}{g h:AX}{pos apos:Pos}
def wF(p:Er)(S:Sto):Bool:=(bZ S p).isSome
def UQ:TyM X "list" wF:=by
 intro p x α S H wd d h;unfold wF at h
 cases z:bZ S p with
 |none=>rw[z]at h;cases h
 |some ds=>
  obtain⟨a,b,rfl,s,l⟩:=AA rfl wd z d;exact .inl ⟨rfl,b,s⟩
def strIdx(x y:Db):Option Nat:=(Builtin.Str.occurrences (bW x) (bW y) 0 (bW x).length 1).head?
noncomputable def GO(p:Er)(S:Sto)(G:List MV->Option (List MV)):R Er:=match p with
 |.val (.loc l)=>match S[l]? with
  |some (.lst ds)=>match G ds with
   |some es=>.ok (.val .non) (S.set l (.lst es))
   |none=>.no
  |_=>.no
 |_=>.no
def IM(wd:Wd X.g α S H)(s:Ext α0 H0 α H)(j:DenX X.K α H p x)(b:Post X.g W α0 H0 (GO p S G) Q):
  ∃a e c es,x=.ref a/\H a=some (.lst e)/\DenL X.K α H c e/\G c=some es/\ ∀d,DenL X.K α H es d->Q .non (jS H a (.lst d)):=by
 unfold GO at b;split at b
 .rename_i l;obtain⟨a,rfl,h⟩:=iL j;obtain⟨r,t,n⟩:=wd.of h;rw[t]at b
  cases r with
  |lst c=>
   obtain⟨e,f,m⟩:=n;have b:Post X.g W α0 H0 (match G c with |some es=>R.ok _ _|none=>R.no) Q:=b;split at b
   .rename_i es q;refine⟨a,e,c,es,rfl,f,m,q,λd k=>?_⟩;have i:=wd.writex h (Mo f) (o:=.lst d);exact(b.shift (s.trans i)).val (wd.write h (Mo f) ⟨d,yE,k.ext i⟩) DA
   .exact b.elim
  |dic _=>exact b.elim
  |ins _ _=>exact b.elim
  |rcd _ _=>exact b.elim
  |fdc _=>exact b.elim
 .exact b.elim
def tR:Er->List Er->Sto->R Er
 |p,[r],S=>(bD r S).bind λy b=>GO p b λa=>if a.length<sizeLine then some (a++[y])else none
 |_,_,_=>.no
def Jk:UG X W Ee tR:=by
 intro p o x I α S s H Q i wd A D f b
 match o,f,b with
 |[],_,b=>exact b.elim
 |_::_::_,_,b=>exact b.elim
 |[r],f,b=>
  cases f with
  |cons d n l=>
   cases l;obtain⟨G,F,α',E,z,w,q,C⟩:=aO wd A d;have b:Post X.g W i s ((bD r S).bind λy u=>GO p u λe=>if e.length<sizeLine then some _ else none) Q:=b;rw[E]at b
   have c:DenX X.K α' H p x:=by
    cases p with
    |val m=>exact Den.ex0 w D
    |new e=>exact b.elim
   obtain⟨a,v,e,es,rfl,B,j,h,k⟩:=IM q z c b;split at h
   .rename_i t;cases h;exact⟨a,v,_,rfl,rfl,B,by rw[j.length];exact t,k _ (j.append (yT C xL))⟩
   .cases h
def xR(ho:yI X W a f)(i:MR X W (e::es) af)
  (hbase:attributeBase a "append" X.env (eval a X.env)=eval a X.env:=by rfl)
  (hfew:((backTo pos (starEach (e::es) X.env)).all (λx=>!x.1)&&(backToKw pos (keywordEach [] X.env)).all (λx=>x.1.isSome)
   &&decide ((e::es).length+([]:List Keyword).length+(if([]:List Keyword).isEmpty then 0 else 1)<30))=true:=by rfl)
  (hline:(apos.endLine==pos.line)=true:=by rfl) (hs:q8 X e es:=by rfl) (hplain:q9 X pos es:=by rfl):
  yI X W (.Call (.Attribute a "append" apos) (e::es) [] pos) (λc S=>(f c S).bind λp b=>if wF p b=true then(af c b).bind λd h=>tR p d h else .no):=
 Ek PySem.F.plainAttrs_list PySem.F.slot_list_append PySem.F.type_list_append Ir Jk UQ ho i hbase hfew hline hs hplain
def Ny:Er->List Er->Sto->R Er
 |p,[],S=>GO p S λa=>some a.reverse
 |_,_,_=>.no
def Ce:UG X W XY Ny:=by
 intro p f x r α S m H Q c wd n o i b
 match f,i,b with
 |_::_,_,b=>exact b.elim
 |[],.nil,b=>
  have b:Post X.g W c m (GO p S λd=>some d.reverse) Q:=b;obtain⟨a,h,d,es,rfl,q,e,j,k⟩:=IM wd n o b;cases j;exact⟨a,h,rfl,rfl,q,k _ e.reverse⟩
def Cf(ho:yI X W a f)(c:attributeBase a "reverse" X.env (eval a X.env)=eval a X.env:=by rfl)(b:(apos.endLine==pos.line)=true:=by rfl):
  yI X W (.Call (.Attribute a "reverse" apos) [] [] pos) (λe S=>(f e S).bind λp d=>if wF p d=true then Ny p [] d else .no):=
 YJ PySem.F.plainAttrs_list PySem.F.slot_list_reverse PySem.F.type_list_reverse Br Ce UQ ho c b
def YQ(p q:Er)(d:MV)(ρ:Rho)(S:Sto):R Rho:=match p,q with
 |.val (.loc l),.val (.int k)=>match S[l]? with
  |some (.lst ds)=>match XM ds.length k with
   |some j=>.ok ρ (S.set l (.lst (ds.set j d)))
   |none=>.no
  |_=>.no
 |_,_=>.no
def Q9(ho:yI X W o f)(hi:yI X W i g)
  (ha: ∀v,assign (.Subscript o i pos) X.env v=(do
   let m <-holding [v] (eval o X.env);let s <-holding [v,m] (eval i X.env)
   standAt pos
   holding [v,m,s] (setItem m s v)
   release [v,m,s] []):=by intro _;rfl):B4 X W (.Subscript o i pos) (λd c S=>(f c S).bind λp A=>(g c A).bind λq F=>YQ p q d c F):=by
 obtain⟨to,ho,L⟩:=ho;obtain⟨ti,hi,O⟩:=hi;refine⟨_,Bd ho hi set_list ha,λα c S σ H d v Q wd sl T q=>L α c S σ H _ wd sl (q.bind λu p A t I e1 r P G M=>O t c A σ I _ P (sl.ext r) ((M.shift r).bind λu2 p2 F e N e2 n z Y b=>?_))⟩
 replace b:=b.shift n
 have C:=DenX.ext n G.1;unfold YQ at b;split at b
 .rename_i l k;obtain⟨a,rfl,h⟩:=iL C;cases wG Y.1;obtain⟨U,Z,J⟩:=z.of h;rw[Z]at b
  cases U with
  |lst ds=>
   obtain⟨E,w,D⟩:=J;have b:Post X.g W e N (match XM ds.length k with |some j=>R.ok c _|none=>R.no) Q:=b;split at b
   .rename_i j K;have y:=z.writex h (Mo w) (o:=.lst (E.set j v));have B:=((sl.ext r).ext n).ext y;exact⟨a,E,k,j,rfl,rfl,w,by rw[D.length];exact K,b σ e _ y (z.write h (Mo w) ⟨_,yE,(D.set ((T.ext r).ext n) j).ext y⟩) B⟩
   .exact b.elim
  |dic _=>exact b.elim
  |ins _ _=>exact b.elim
  |rcd _ _=>exact b.elim
  |fdc _=>exact b.elim
 .exact b.elim
end
def _root_.L2.Inv.turnedL{fp:B9}(I:↑2)(k: ∀b o,b∉fp->s.heap.get? b=some o->h'.get? b=some o)
  (hf: ∀b∈fp,DT X pins H b):Inv X pins σ H {s with heap:=h',toks:=t'}:=by
 have d: ∀b u,H b=some u->b∉fp:=λb u e z=>by rw[(hf b z).1]at e;cases e
 refine I.step (λb f=>⟨(hf b f).2.2.2.1,(hf b f).2.1,(hf b f).2.2.2.2.1,(hf b f).2.2.2.2.2⟩) (λb o _ _ a e _=>k b o a e) (λb o _ _ a e _=>⟨_,k b o a e⟩) (λ_ _ _ _ n=>n)
  (λb o a e=>⟨o,k b o a e⟩) (λ_ _ e=>e) (λ_ _ _ e=>e) (λb ps e=>⟨#[],by rw[e];simp⟩) (λm i=>?_) (λb u e=>?_) I.bare
 .obtain⟨o,es,j,h,r⟩:=i;exact⟨o,es,j,k _ o (λz=>(hf _ z).2.1 rfl) h,r⟩
 .refine(I.hok b u e).stay (λc v a q=>k c v ?_ q) (λ_ q=>q) λ_ _ q=>q;rcases a with z|z
  .rw[z];exact d b u e
  .exact d c _ z
def IsSub(k:Bool)(h:Heap)(a l:Addr)(i:Nat):Prop:=if k=true then h.IsListIter a l i else h.IsTupleIter a l i
def IsSeq(k:Bool)(h:Heap)(l:Addr)(a:B0):Prop:=if k=true then h.IsList l a else h.IsTuple l a
noncomputable def AD(k:Bool)(l:Addr):Obj:={cls:=.type (if k=true then "list_iterator" else "tuple_iterator"),data:=.fields #[.ref l,.int 0 0]}
def IsSub.mk'(e:h.get? it=some (AD k l)):IsSub k h it l 0:=by
 cases k with
 |true=>exact⟨_,e,rfl,rfl⟩
 |false=>exact⟨_,e,rfl,rfl⟩
def IsSub.there(x:IsSub k h it l i): ∃o,h.get? it=some o/\ ∀v,o.data≠.cell v:=by
 cases k with
 |true=>obtain⟨o,e,_,d⟩:=(x:h.IsListIter it l i);exact⟨o,e,λv z=>by rw[d]at z;cases z⟩
 |false=>obtain⟨o,e,_,d⟩:=(x:h.IsTupleIter it l i);exact⟨o,e,λv z=>by rw[d]at z;cases z⟩
def IsSub.move(x:IsSub k h it l i)(f: ∀o,h.get? it=some o->h'.get? it=some o):IsSub k h' it l i:=by
 cases k with
 |true=>obtain⟨o,e,r⟩:=(x:h.IsListIter it l i);exact⟨o,f o e,r⟩
 |false=>obtain⟨o,e,r⟩:=(x:h.IsTupleIter it l i);exact⟨o,f o e,r⟩
def IsSeq.move(x:IsSeq k h l its)(f: ∀o,h.get? l=some o->h'.get? l=some o):IsSeq k h' l its:=by
 cases k with
 |true=>obtain⟨o,e,r⟩:=(x:h.IsList l its);exact⟨o,f o e,r⟩
 |false=>obtain⟨o,e,r⟩:=(x:h.IsTuple l its);exact⟨o,f o e,r⟩
section
def AG(a:IsSeq k s.heap l its)(h:Q (.ref ↑1) {s with heap:=s.heap.push (AD k l)}):wpAny (model prog w) A (pyIter (.ref l)) Q E s:=by
 cases k with
 |true=>exact wpAny_pyIter_list a h
 |false=>exact wpAny_pyIter_tuple a h
def mY(c:IsSub k s.heap it l i)(j:IsSeq k s.heap l its)(h:its[i]? =some x)
  (hQ: ∀h',IsSub k h' it l (i+1)->Heap.SameBut it s.heap h'->Q x {s with heap:=h'}):wpAny (model prog w) A (Builtin.SmallTypes.nextOf (.ref it)) Q E s:=by
 cases k with
 |true=>exact wpAny_nextOf_list_item c j h hQ
 |false=>
  have a:=c;obtain⟨o,d,m,b⟩:=id a;obtain⟨p,e,_,n,f⟩:=(j:s.heap.IsTuple l its)
  refine wB (ô a.typeIs Ī (ð Ī a.typeIs F.entry_tuple_iterator_next ?_ (F.args_tuple_iterator_next_1 _)));show wpAny _ _ (field _ 0 >>= _) _ _ s;refine wB (ò d b rfl ?_);refine wB (ò d b rfl ?_);refine wB (Č e f ?_);simp only[Int.toNat_natCast,h];refine wB (wpAny_setField d b (by simp) (wP ⟨x,rfl,wP (hQ _ ?_ (Heap.SameBut.update ..))⟩));exact⟨_,Heap.get?_update_self _ d (Obj.isFreed_of_fields (Obj.data_mapFields b _)),(Obj.cls_mapFields ..).trans m,by rw[Obj.data_mapFields b];simp[rawInt]⟩
def GP(f:A.handled=none)(b:IsSub k s.heap it l i)(n:IsSeq k s.heap l its)(m:its[i]? =none)
  (hE: ∀h' e,Heap.ExtBut it s.heap h'->(∃o,h'.get? e=some o/\o.cls=.type "StopIteration")->E (.ref e) {s with heap:=h'}):wpAny (model prog w) A (Builtin.SmallTypes.nextOf (.ref it)) Q E s:=by
 cases k with
 |true=>exact wpAny_nextOf_list_end f b n m hE
 |false=>
  have a:=b;obtain⟨o,c,q,d⟩:=id a;obtain⟨r,h,_,p,j⟩:=(n:s.heap.IsTuple l its)
  refine wB (ô a.typeIs Ī (ð Ī a.typeIs F.entry_tuple_iterator_next ?_ (F.args_tuple_iterator_next_1 _)));show wpAny _ _ (field _ 0 >>= _) _ _ s;refine wB (ò c d (x:=.ref l) rfl ?_);refine wB (ò c d rfl ?_);refine wB (Č h j ?_);simp only[Int.toNat_natCast,m];refine wB (Ģ (wB (wpAny_setField c d (by simp) ?_)));refine wB ?_;refine wB (wpAny_newObj_type ?_ (by size_fits));refine wB (wpAny_of_eq (by first |rfl|(simp only[firstArgMember];rfl)) ?_);refine wpAny_newObj_type ?_ (by size_fits);simp only[raiseNew];refine wB (wpAny_handled ?_)
  first |rw[show A.in1.handled=none from f]|rw[f]
  refine wB (wP (wpAny_throw ?_));exact hE _ _ (((Heap.SameBut.update ..).extBut.push _).push _) ⟨_,è _ rfl,rfl⟩
end
structure ZipSt(k1 k2:Bool)(z TI TO i1 i2 l1 l2:Addr)(i:Nat)(h:Heap):Prop where
 z:IsZip h z TI TO .none
 ti:IsPair h TI (.ref i1) (.ref i2)
 to: ∃a b,IsPair h TO a b
 s1:IsSub k1 h i1 l1 i
 s2:IsSub k2 h i2 l2 i
structure Apart5(z TI TO i1 i2:Addr):Prop where
 TIz:TI≠z
 TOz:TO≠z
 i1z:i1≠z
 i2z:i2≠z
 TITO:TI≠TO
 TIi1:TI≠i1
 TIi2:TI≠i2
 TOi1:TO≠i1
 TOi2:TO≠i2
 i12:i1≠i2
section
variable{prog:ļ}{w:World}{A:Around}{s:ĺ}{TI TO:Addr}
def Off(l z TO b a:Addr):Prop:=l≠z/\l≠TO/\l≠b/\l≠a
def YR{Q:VP}(D:Apart5 z TI TO i1 i2)(o1:Off l1 z TO i1 i2)(o2:Off l2 z TO i1 i2)(st:ZipSt k1 k2 z TI TO i1 i2 l1 l2 i s.heap)(S:IsSeq k1 s.heap l1 xs)(Z:IsSeq k2 s.heap l2 ys)(hx:xs[i]? =some x)(hy:ys[i]? =some y)
  (hQ: ∀h',IsZip h' z TI TO (rawInt ↑1)->IsPair h' TO x y->IsSub k1 h' i1 l1 (i+1)->IsSub k2 h' i2 l2 (i+1)->IsPair h' ↑1 x y->
   (∀c o,c≠z->c≠TO->c≠i1->c≠i2->s.heap.get? c=some o->h'.get? c=some o)->Q (.ref ↑1) {s with heap:=h'}):
  wpAny (model prog w) A (Builtin.«zip.__next__» ⟨[.ref z],[]⟩) (λaa s'=> ∃v,aa=.done (.ret v)/\Q v s') E s:=by
 obtain⟨B,Y,⟨a,b,ab⟩,h1,h2⟩:=st;show wpAny _ _ (field (.ref z) 2 >>= _) _ _ _;refine wB (ò B rfl (x:=.bool false) rfl ?_);show wpAny _ _ (field (.ref z) 3 >>= _) _ _ _;refine wB (ò B rfl (x:=.ref TI) rfl (wB (Č Y rfl ?_)));show wpAny _ _ _ _ _ _;refine wB ?_;unfold Builtin.SmallTypes.ownedTupleIsFree;refine wB (ò B rfl (x:=.none) rfl (wP ?_));simp only[if_true];refine wB (Ģ (wB (ò B rfl (x:=.ref TO) rfl (wB (þ B (by simp) λha r j=>?_)))))
 replace r:IsZip ha z TI TO .ellipsis:=r
 refine wB ?_;simp only[zipIdx_cons,zipIdx_nil,forIn_cons,forIn_nil];refine wB (wB (wpAny_onRaise ?_));show wpAny _ _ _ _ _ _;refine wB (mY (h1.move λo e=>j.extBut _ _ D.i1z e) (S.move λo e=>j.extBut _ _ o1.1 e) hx λhb O m=>wP ?_);have H:IsPair hb TO a b:=m.extBut _ _ D.TOi1 (j.extBut _ _ D.TOz ab);refine wB (Č H rfl (wB (wpAny_updateSeq_pair H λhc t n=>wB (wpAny_letGo (wP ?_)))))
 replace t:IsPair hc TO x b:=t
 refine wB (wB (wpAny_onRaise ?_));show wpAny _ _ _ _ _ _;have N: ∀c o,c≠z->c≠TO->c≠i1->s.heap.get? c=some o->hc.get? c=some o:=λc o X J M e=>n.extBut _ _ J (m.extBut _ _ M (j.extBut _ _ X e));refine wB (mY (h2.move λo e=>N _ o D.i2z D.TOi2.symm D.i12.symm e) (Z.move λo e=>N _ o o2.1 o2.2.1 o2.2.2.1 e) hy λhd T h=>wP ?_);have F:IsPair hd TO x b:=h.extBut _ _ D.TOi2 t;refine wB (Č F rfl (wB (wpAny_updateSeq_pair F λd k f=>wB (wpAny_letGo (wP (wP ?_))))))
 replace k:IsPair d TO x y:=k
 refine wB (Č k rfl (wB (wpAny_newTuple ?_)));have I:d.objs.size=s.heap.objs.size:=by rw[f.1,h.1,n.1,m.1,j.1]
 have ze:IsZip d z TI TO .ellipsis:=f.extBut _ _ D.TOz.symm (h.extBut _ _ D.i2z.symm (n.extBut _ _ D.TOz.symm (m.extBut _ _ D.i1z.symm r)));have U: ∀c o,c≠z->c≠TO->c≠i1->c≠i2->s.heap.get? c=some o->d.get? c=some o:=λc o X J M n4 e=>f.extBut _ _ J (h.extBut _ _ n4 (N c o X J M e));have W:IsSub k1 d i1 l1 (i+1):=O.move λo e=>f.extBut _ _ D.TOi1.symm (h.extBut _ _ D.i12 (n.extBut _ _ D.TOi1.symm e));have L:IsSub k2 d i2 l2 (i+1):=T.move λo e=>f.extBut _ _ D.TOi2.symm e;have q:z<d.objs.size:=ä ze;show wpAny _ _ _ _ _ _;refine wB ?_;unfold Builtin.SmallTypes.ownedTupleHandOut;have zf:IsZip (d.push {cls:=.type "tuple",data:=.seq #[x,y]}) z TI TO .ellipsis:=hP0 _ ze;refine wB (þ zf (by simp) λae P G=>?_)
 replace P:IsZip ae z TI TO (rawInt d.objs.size):=P
 refine þ P (by simp) λp K C=>?_
 replace K:IsZip p z TI TO (rawInt d.objs.size):=K
 have up: ∀c o,c≠z->d.get? c=some o->p.get? c=some o:=λc o u e=>C.extBut _ _ u (G.extBut _ _ u (hP0 _ e));have tT:IsPair p d.objs.size x y:=C.extBut _ _ (ă q) (G.extBut _ _ (ă q) (è _ rfl));rw[I]at K tT;refine wP ⟨_,rfl,?_⟩;show Q (.ref d.objs.size) _;rw[I];exact hQ p K (up _ _ D.TOz k) (W.move λo e=>up _ o D.i1z e) (L.move λo e=>up _ o D.i2z e) tT λc o u c2 c3 c4 e=>up c o u (U c o u c2 c3 c4 e)
def Ew(W:A.handled=none)(D:Apart5 z TI TO i1 i2)(X:Off l1 z TO i1 i2)(T:Off l2 z TO i1 i2)(st:ZipSt k1 k2 z TI TO i1 i2 l1 l2 i s.heap)(r:IsSeq k1 s.heap l1 xs)(M:IsSeq k2 s.heap l2 ys)(y:xs[i]? =none\/ys[i]? =none)
  (hE: ∀h' e,(∀c o,c≠z->c≠TO->c≠i1->c≠i2->s.heap.get? c=some o->h'.get? c=some o)->(∃o,h'.get? e=some o/\o.cls=.type "StopIteration")->E (.ref e) {s with heap:=h'}):
  wpAny (model prog w) A (Builtin.«zip.__next__» ⟨[.ref z],[]⟩) Q E s:=by
 obtain⟨v,L,⟨a,b,P⟩,Y,h2⟩:=st;show wpAny _ _ (field (.ref z) 2 >>= _) _ _ _;refine wB (ò v rfl (x:=.bool false) rfl ?_);show wpAny _ _ (field (.ref z) 3 >>= _) _ _ _;refine wB (ò v rfl (x:=.ref TI) rfl (wB (Č L rfl ?_)));show wpAny _ _ _ _ _ _;refine wB ?_;unfold Builtin.SmallTypes.ownedTupleIsFree;refine wB (ò v rfl (x:=.none) rfl (wP ?_));simp only[if_true];refine wB (Ģ (wB (ò v rfl (x:=.ref TO) rfl (wB (þ v (by simp) λha n d=>?_)))))
 replace n:IsZip ha z TI TO .ellipsis:=n
 refine wB ?_;simp only[zipIdx_cons,zipIdx_nil,forIn_cons,forIn_nil];refine wB (wB (wpAny_onRaise ?_));show wpAny _ _ _ _ _ _
 cases O:xs[i]? with
 |none=>
  refine wB (GP W (Y.move λo e=>d.extBut _ _ D.i1z e) (r.move λo e=>d.extBut _ _ X.1 e) O λK e j J=>?_);obtain⟨U,f,m⟩:=J;have B:IsZip K z TI TO .ellipsis:=j _ _ D.i1z.symm n;have p:e≠z:=λq=>by subst q;rw[B]at f;cases f;simp at m
  exact þ B (by simp) λI _ k=>hE I e (λc o u _ N _ q=>k.extBut _ _ u (j _ _ N (d.extBut _ _ u q))) ⟨U,k.extBut _ _ p f,m⟩
 |some x=>
  have hy:ys[i]? =none:=by rcases y with h|h;(rw[O]at h;cases h);exact h
  refine wB (mY (Y.move λo e=>d.extBut _ _ D.i1z e) (r.move λo e=>d.extBut _ _ X.1 e) O λK aa j=>wP ?_);have F:IsPair K TO a b:=j.extBut _ _ D.TOi1 (d.extBut _ _ D.TOz P);refine wB (Č F rfl (wB (wpAny_updateSeq_pair F λI ab k=>wB (wpAny_letGo (wP ?_)))));refine wB (wB (wpAny_onRaise ?_));show wpAny _ _ _ _ _ _;have H: ∀c o,c≠z->c≠TO->c≠i1->s.heap.get? c=some o->I.get? c=some o:=λc o n1 n2 Z e=>k.extBut _ _ n2 (j.extBut _ _ Z (d.extBut _ _ n1 e));refine wB (GP W (h2.move λo e=>H _ o D.i2z D.TOi2.symm D.i12.symm e) (M.move λo e=>H _ o T.1 T.2.1 T.2.2.1 e) hy λhd e t J=>?_);obtain⟨U,f,m⟩:=J;have G:IsZip hd z TI TO .ellipsis:=t _ _ D.i2z.symm (k.extBut _ _ D.TOz.symm (j.extBut _ _ D.i1z.symm n));have p:e≠z:=λq=>by subst q;rw[G]at f;cases f;simp at m
  exact þ G (by simp) λS _ C=>hE S e (λc o u c2 N c4 q=>C.extBut _ _ u (t _ _ c4 (H c o u c2 N q))) ⟨U,C.extBut _ _ p f,m⟩
def Cg(k1 k2)(l1 l2)(xs ys):
  Meets (Builtin.«zip.__new__» ⟨[.type "zip",.ref l1,.ref l2],[]⟩) (λ_ R s=>IsSeq k1 s.heap l1 xs/\IsSeq k2 s.heap l2 ys/\
   R (.ok (.ret (.ref (↑1+4)))) {s with heap:=((((s.heap.push (AD k1 l1)).push (AD k2 l2)).push {cls:=.type "tuple",data:=.seq #[.ref ↑1,.ref (↑1+1)]}).push {cls:=.type "tuple",data:=.seq #[.none,.none]}).push {cls:=.type "zip",data:=.fields #[.none,.bool false,.bool false,.ref (↑1+2),.ref (↑1+3)]}}):=
 .of_wp λprog w A R s h=>by
  obtain⟨m,g,d,k,os⟩:=s;obtain⟨b,a,h⟩:=h;have i:=sub_zip;have c:IsSeq k1 _ l1 xs:=b;have f:IsSeq k2 (Shared.heap ⟨m.push (AD k1 l1),g,d,k,os⟩) l2 ys:=a.move λo e=>hP0 _ e;have j: ∀(h:Heap)(o:Obj),(h.push o).objs.size=h.objs.size+1:=λh o=>Ė ..;simp only[j]at h ⊢
  wp_walk using AG c,AG f
  exact⟨_,rfl,by simp only[j];exact h⟩
def YS(i:IsSeq k1 s.heap l1 xs)(f:IsSeq k2 s.heap l2 ys)
  (h: ∀h',ZipSt k1 k2 (↑1+4) (↑1+2) (↑1+3) ↑1 (↑1+1) l1 l2 0 h'->(∀c o,s.heap.get? c=some o->h'.get? c=some o)->Q (.ref (↑1+4)) {s with heap:=h'}):
  wpAny (model prog w) A (call (.type "zip") [.ref l1,.ref l2]) Q E s:=by
 refine callType_new F.called_zip ↑3 (F.typeCall_zip_2 _ _) (F.newCall_zip_2 _ _) (λd=>F.args_object_init_3 d _ _) F.entry_zip_new (Cg k1 k2 l1 l2 xs ys) ⟨i,f,?_⟩;have b: ∀(h:Heap)(o:Obj),(h.push o).objs.size=h.objs.size+1:=λh o=>Ė ..;have a: ∀(h:Heap)(o:Obj)(n:Nat),o.isFreed=false->h.objs.size=n->(h.push o).get? n=some o:=λh o n j e=>by subst e;exact è _ j
 have up: ∀(h:Heap)(o u:Obj)(n:Nat),h.get? n=some u->(h.push o).get? n=some u:=λh o u n e=>hP0 _ e;refine⟨⟨_,a _ _ _ rfl (by simp only[b]),rfl⟩,h _ ⟨a _ _ _ rfl (by simp only[b]),up _ _ _ _ (up _ _ _ _ (a _ _ _ rfl (by simp only[b]))),⟨.none,.none,up _ _ _ _ (a _ _ _ rfl (by simp only[b]))⟩,?_,?_⟩ λc o e=>up _ _ _ _ (up _ _ _ _ (up _ _ _ _ (up _ _ _ _ (up _ _ _ _ e))))⟩
 .exact IsSub.mk' (up _ _ _ _ (up _ _ _ _ (up _ _ _ _ (up _ _ _ _ (a _ _ _ rfl rfl)))))
 .exact IsSub.mk' (up _ _ _ _ (up _ _ _ _ (up _ _ _ _ (a _ _ _ rfl (by simp only[b])))))
end
theorem apart_new(n:Nat):Apart5 (n+4) (n+2) (n+3) n (n+1):=by constructor<;>(show(_:Nat)≠_;lia)
def QH(k:Bool)(K:R0)(H:Hp)(a:Addr)(xs:List V):Prop:=if k=true then SqL K H a xs else SqT K H a xs
def Itz(K:R0)(b e:Bool)(c d:Addr):It:=
 ⟨λi H=> ∃xs a x y,QH b K H c xs/\QH e K H d a/\xs[i]? =some x/\a[i]? =some y,
   λi H v H'=> ∃p x y,H p=none/\v=.ref p/\H'=jS H p (.tup [x,y])/\(∀xs,QH b K H c xs->xs[i]? =some x)/\ ∀a,QH e K H d a->a[i]? =some y,
   λi H=> ∃xs a,QH b K H c xs/\QH e K H d a/\(xs.length<=i\/a.length<=i)⟩
section
def _root_.L2.Inv.seqK(I:↑2)(h:QH k X.K H a xs): ∃b:List Ļ,Vals xs b/\IsSeq k s.heap a b.toArray/\xs.length<=sizeLine:=by
 cases k with
 |true=>obtain⟨b,r,p,z⟩:=I.list h;exact⟨b,r,p.isList,z⟩
 |false=>obtain⟨b,r,p,z⟩:=I.tuple h;exact⟨b,r,p,z⟩
def _root_.L2.Inv.seqK_inj(I:↑2)(h:QH k X.K H a xs)(h':QH k X.K H a ys):xs=ys:=by
 cases k with
 |true=>exact I.list_inj h h'
 |false=>exact I.tuple_inj h h'
def pZ(I:↑2)(h:QH k X.K H l xs)(a:DT X pins H b):l≠b:=by
 rintro rfl
 have c: ∀o,X.K.lookup l=some o->False:=λo e=>by
  have d:=I.mod.kin l o e;rcases a.2.2.2.1 with z|z
  .exact I.ok.noex l o d z
  .exact absurd (æ (ä d) (ì I.ok.bsz z)) (ģ _)
 cases k with
 |true=>
  rcases (h:SqL X.K H l xs)with(h|⟨o,h⟩)|⟨o,its,n,h,_⟩
  .rw[a.1]at h;cases h
  .rw[a.1]at h;cases h
  .exact c o h
 |false=>
  rcases (h:SqT X.K H l xs)with(h|⟨o,h⟩)|⟨o,its,n,h,_⟩
  .rw[a.1]at h;cases h
  .rw[a.1]at h;cases h
  .exact c o h
end
theorem Nz{K:R0}{TI TO i1 i2 l1 l2:Addr}(D:Apart5 z TI TO i1 i2):
  Turn P w K (.Tuple elts kt pt) (Itz K k1 k2 l1 l2) [z,TI,TO,i1,i2] z (λi h=>ZipSt k1 k2 z TI TO i1 i2 l1 l2 i h) where
 mem:=by simp
 obj:=λi h st b hb=>by
  obtain⟨hz,hTI,⟨a,b',hTO⟩,h1,h2⟩:=st;have hb':b=z\/b=TI\/b=TO\/b=i1\/b=i2:=by simpa using hb
  rcases hb' with rfl|rfl|rfl|rfl|rfl
  .exact⟨_,hz,λv q=>by cases q⟩
  .exact⟨_,hTI,λv q=>by cases q⟩
  .exact⟨_,hTO,λv q=>by cases q⟩
  .exact h1.there
  .exact h2.there
 keep:=λi h h' st k=>by obtain⟨hz,hTI,⟨a,b',hTO⟩,h1,h2⟩:=st;exact⟨k z (by simp) _ hz,k TI (by simp) _ hTI,⟨a,b',k TO (by simp) _ hTO⟩,h1.move λo e=>k i1 (by simp) o e,h2.move λo e=>k i2 (by simp) o e⟩
 item:=by
  intro X hP hw hK hc i pins s σ H E I hf st hg;subst hP hw hK;obtain⟨xs,ys,x,y,q1,q2,hx,hy⟩:=hg;obtain⟨its,r1,p1,_⟩:=I.seqK q1;obtain⟨its2,r2,p2,_⟩:=I.seqK q2;obtain⟨u,hu,ru⟩:=r1.get hx;obtain⟨v,hv,rv⟩:=r2.get hy;have off: ∀{k:Bool}{l:Addr}{xs:List V},QH k X.K H l xs->Off l z TO i1 i2:=λq=>⟨pZ I q (hf z (by simp)),pZ I q (hf TO (by simp)),pZ I q (hf i1 (by simp)),pZ I q (hf i2 (by simp))⟩
  have hT:s.TypeIs (.ref z) "zip":=⟨_,st.z,rfl⟩
  unfold pyNext
  refine wB (ě (ô hT ĉ (ð ĉ hT ĳ
   (YR D (off q1) (off q2) st p1 p2 (x:=u) (y:=v) (by simpa using hu) (by simpa using hv) λh' a1 a2 a3 a4 a5 a6=>wP ⟨_,rfl,?_⟩) (Ĭ _))))
  refine wpAny_letOwnedTupleGo_zip a1 λh2 z2 sb2=>?_;have hpn:H ↑1=none:=I.hok.fresh (à _)
  have I0:Inv X pins σ _ {s with heap:=s.heap.push {cls:=.type "tuple",data:=.seq #[u,v]}}:=
   I.laid (t':=s.toks) (o:=.tup [x,y]) (λb o e=>hP0 _ e) (à _) ⟨by show 2<=sizeLine;decide,[u,v],.cons ru (.cons rv .nil),⟨_,è _ rfl,rfl,_,rfl⟩⟩
  have lt: ∀b∈[z,TI,TO,i1,i2],b<s.heap.objs.size:=λb hb=>by
   have: ∃o,s.heap.get? b=some o:=by
    obtain⟨hz,hTI,⟨a,b',hTO⟩,g1,g2⟩:=st;have hb':b=z\/b=TI\/b=TO\/b=i1\/b=i2:=by simpa using hb
    rcases hb' with rfl|rfl|rfl|rfl|rfl
    .exact⟨_,hz⟩
    .exact⟨_,hTI⟩
    .exact⟨_,hTO⟩
    .obtain⟨o,e,_⟩:=g1.there;exact⟨o,e⟩
    .obtain⟨o,e,_⟩:=g2.there;exact⟨o,e⟩
   obtain⟨o,e⟩:=this;exact ä e
  have fr: ∀b∈[z,TI,TO,i1,i2],jS H ↑1 (.tup [x,y]) b=none:=λb hb=>by rw[zU (ê (lt b hb))];exact(hf b hb).1
  have zne:↑1≠z:=ă (lt z (by simp))
  have mv: ∀b o,b∉[z,TI,TO,i1,i2]->(s.heap.push {cls:=.type "tuple",data:=.seq #[u,v]}).get? b=some o->h2.get? b=some o:=λb o hb e=>by
   simp only[mC,nM,or_false,not_or]at hb;refine sb2.extBut _ _ hb.1 ?_;by_cases hbs:b=↑1
   .subst hbs;rw[è _ rfl]at e;cases e;exact a5
   .rw[Heap.get?_push_ne _ _ _ hbs]at e;exact a6 b o hb.1 hb.2.2.1 hb.2.2.2.1 hb.2.2.2.2 e
  have I2:=I0.turnedL (h':=h2) (t':=s.toks) mv λb hb=>let ⟨_,c2,c3,c4,c5,c6⟩:=hf b hb;⟨fr b hb,c2,c3,c4,c5,c6⟩;refine⟨.ref ↑1,_,I2,rfl,⟨↑1,x,y,hpn,rfl,rfl,λzs hz=>?_,λzs hz=>?_⟩,⟨z2,?_,⟨u,v,?_⟩,?_,?_⟩,fr⟩
  .rw[I.seqK_inj hz q1];exact hx
  .rw[I.seqK_inj hz q2];exact hy
  .exact sb2.extBut _ _ D.TIz (a6 TI _ D.TIz D.TITO D.TIi1 D.TIi2 st.ti)
  .exact sb2.extBut _ _ D.TOz a2
  .exact a3.move λo e=>sb2.extBut _ _ D.i1z e
  .exact a4.move λo e=>sb2.extBut _ _ D.i2z e
 done:=by
  intro X hP hw hK hc i pins s σ H E I hf st hg;subst hP hw hK;obtain⟨xs,ys,q1,q2,hx⟩:=hg;obtain⟨its,r1,p1,_⟩:=I.seqK q1;obtain⟨its2,r2,p2,_⟩:=I.seqK q2;have off: ∀{k:Bool}{l:Addr}{xs:List V},QH k X.K H l xs->Off l z TO i1 i2:=λq=>⟨pZ I q (hf z (by simp)),pZ I q (hf TO (by simp)),pZ I q (hf i1 (by simp)),pZ I q (hf i2 (by simp))⟩
  have hT:s.TypeIs (.ref z) "zip":=⟨_,st.z,rfl⟩
  have e1:=r1.length;have e2:=r2.length;unfold pyNext
  refine wB (ě (ô hT ĉ (ð ĉ hT ĳ
   (Ew (I.ok.hd hc) D (off q1) (off q2) st p1 p2 (by rcases hx with h|h;(exact .inl (by simp;lia));exact .inr (by simp;lia)) λh' e hk he=>?_) (Ĭ _))))
  obtain⟨o,ho,hcl⟩:=he;refine wB (ı (b:=true) ⟨o,ho,hcl⟩ isSubtype_stop (wP ⟨rfl,?_⟩));refine I.turnedL (h':=h') (t':=s.toks) (λb o hb e=>?_) hf;simp only[mC,nM,or_false,not_or]at hb;exact hk b o hb.1 hb.2.2.1 hb.2.2.2.1 hb.2.2.2.2 e
 self:=λ_ _ _ _ _ st h=>wpAny_pyIter_zip st.z h
structure Sr where
 k:Bool
 ds:List MV
 gs:List (Nat×List MV)
noncomputable def srcOf(S:Sto):Er->Option Sr
 |.val (.tup ds)=>some ⟨false,ds,[]⟩
 |.new ds=>some ⟨true,ds,[]⟩
 |.val (.scr ds)=>some ⟨true,ds,[]⟩
 |.val (.loc l)=>match S[l]? with
  |some (.lst ds)=>some ⟨true,ds,[(l,ds)]⟩
  |_=>none
 |_=>none
structure SrcD(X:Cx)(q:Sr)(l:Addr)(P:List Addr->Sto->Hp->Prop):Prop where
 get: ∀α S H,P α S H-> ∃vs,QH q.k X.K H l vs/\DenL X.K α H q.ds vs
 stays: ∀α1 S1 H1 α2 S2 H2,P α1 S1 H1->Ext α1 H1 α2 H2->Wd X.g α2 S2 H2->stay q.gs S2->P α2 S2 H2
 st: ∀α S H,P α S H->stay q.gs S
def IO(wd:Wd X.g α S H)(e:srcOf S r=some q)(d:DenX X.K α H r x): ∃l P,x=.ref l/\P α S H/\SrcD X q l P:=by
 unfold srcOf at e;split at e
 .rename_i m;cases e;obtain⟨a,c,rfl,s,l⟩:=iK d;exact⟨a,λα S H=> ∃c,_,rfl,⟨c,s,l⟩,λα S H h=>h,λj u t k y v ⟨c,i,f⟩ x w _=>⟨c,x.sqT i,f.ext x⟩,λ_ _ _ _=>dS⟩
 .rename_i m;cases e;obtain⟨b,c,rfl,h,n,l⟩:=d
  exact⟨b,λα S H=> ∃c,H b=some (.lst c)/\b∉α/\DenL X.K α H m c,rfl,⟨c,h,n,l⟩,λα S H ⟨c,i,_,f⟩=>⟨c,(SqL.of i:SqL X.K H b c),f⟩,
   λj u t k y v ⟨c,i,f,D⟩ x w _=>⟨c,x.keep b _ i f,x.out i f,D.ext x⟩,λ_ _ _ _=>dS⟩
 .rename_i m;cases e;obtain⟨a,c,rfl,s,l⟩:=MP d;exact⟨a,λα S H=> ∃c,SqF X.K H a c/\DenL X.K α H m c,rfl,⟨c,s,l⟩,λα S H ⟨c,i,f⟩=>⟨c,i.l,f⟩,λj u t k y v ⟨c,i,f⟩ x w _=>⟨c,x.sqF i,f.ext x⟩,λ_ _ _ _=>dS⟩
 .rename_i n;split at e
  .rename_i m z;cases e;obtain⟨a,rfl,h⟩:=iL d;obtain⟨c,i,f⟩:=wd.obj n a _ h z;refine⟨a,λα S H=> ∃c,H a=some (.lst c)/\DenL X.K α H m c/\α[n]? =some a/\S[n]? =some _,rfl,⟨c,i,f,h,z⟩,λα S H ⟨c,i,f,_⟩=>⟨c,(SqL.of i:SqL X.K H a c),f⟩,?_,?_⟩
   .intro j u t k y v ⟨c,J,L,B,A⟩ x w C;have o:=C (n,m) (by simp);obtain⟨F,E,I⟩:=w.obj n a _ (x.at B) o;exact⟨F,E,I,x.at B,o⟩
   .intro α S H ⟨c,_,_,_,A⟩ p G;have:=by simpa using G
    subst this;exact A
  .cases e
 .cases e
def iZip(K:R0)(i:TA):TI:=λσ H R=>i σ H λh a=> ∃d e b c,h=[.ref b,.ref c]/\(∃xs,QH d K a b xs)/\(∃f,QH e K a c f)/\R (Itz K d e b c) a
section
variable{a b:Expr}{elts:Q0}{kt:Nat}{pt p pos:Pos}
def Oa:bootBuiltins "zip"=some (.type "zip"):=by decide+kernel
def Wi:bootBuiltins "enumerate"=some (.type "enumerate"):=by decide+kernel
def R4(v:Gl X "zip")(y:X.mg "zip"=none)(t:PA X [a,b] ta)(hs:starEach [a,b] X.env=[(false,eval a X.env),(false,eval b X.env)]:=by rfl)(c:starEach [b] X.env=[(false,eval b X.env)]:=by rfl):
  PI X (.Tuple elts kt pt) (.Call (.Name "zip" p) [a,b] [] pos) (iZip X.K ta):=by
 intro pins s σ H R I h;refine Call_ (qY I v y Oa (ý (gH (t pos pins s σ H _ I h) λF i ⟨J,f,I1,B,A⟩=>?_) (by rw[hs,c]) (by rw[c];rfl)));obtain⟨C,N,D,M,rfl,⟨xs,u⟩,⟨G,o⟩,q⟩:=A
 cases B with
 |cons r rr=>
  cases rr with
  |cons r' rr=>
   cases rr;cases r;cases r';obtain⟨m,L,p1,_⟩:=I1.seqK u;obtain⟨j,E,p2,_⟩:=I1.seqK o;refine YS p1 p2 λh' st n=>wpAny_pyIter_zip st.z ?_;have k:Inv X pins σ f {i with heap:=h'}:=I1.kept n;refine⟨_,_,_,_,f,rfl,k,Nz (apart_new _),st,λb w=>?_,q⟩
   have d:i.heap.objs.size<=b:=by
    have e:=by simpa using w
    rcases e with h|h|h|h|h<;>rw[h]<;>(first |exact à _|exact ď _ _)
   exact I1.fpOk d (I1.hok.fresh d)
noncomputable def pairs(xs a:U0):List MV:=List.zipWith (λx y=>.tup [x,y]) xs a
def zCT(rs:List Er)(S:Sto):R Wk:=match rs with
 |[p,q]=>match srcOf S p with
  |some a=>match srcOf S q with
   |some b=>.ok ⟨pairs a.ds b.ds,a.gs++b.gs⟩ S
   |none=>.no
  |none=>.no
 |_=>.no
theorem R5(hg:Gl X "zip")(hm:X.mg "zip"=none)(K:MR X W [a,b] af)(hs:starEach [a,b] X.env=[(false,eval a X.env),(false,eval b X.env)]:=by rfl)(F:starEach [b] X.env=[(false,eval b X.env)]:=by rfl):
  Tr X W (.Tuple elts kt pt) (.Call (.Name "zip" p) [a,b] [] pos) (λJ S=>(af J S).bind zCT):=by
 obtain⟨t,K,k⟩:=K;refine⟨_,R4 hg hm K hs F,λα J S σ H Rc wd sl q=>k α J S σ H _ wd sl (q.bind λvs rs S1 E H1 e x1 G d1 c=>?_)⟩
 replace c:=c.shift x1
 unfold zCT at c;split at c
 .rename_i r1 r2;split at c
  .rename_i B e1;split at c
   .rename_i C e2;obtain⟨u,v,rfl,Y,dv⟩:=B6 d1;obtain⟨Z,P1,rfl,p1,n⟩:=IO G e1 Y;obtain⟨l2,P2,rfl,p2,r⟩:=IO G e2 dv;have g1:=n.get _ _ _ p1;have g2:=r.get _ _ _ p2;refine⟨B.k,C.k,Z,l2,rfl,⟨_,g1.choose_spec.1⟩,⟨_,g2.choose_spec.1⟩,c.here G ⟨λα S H=>P1 α S H/\P2 α S H,?_,⟨p1,p2⟩,?_,?_⟩⟩
    .intro i M S2 H2 ⟨z,A⟩ Q;obtain⟨m,L,P⟩:=n.get _ _ _ z;obtain⟨s,N,T⟩:=r.get _ _ _ A;have hl:(pairs B.ds C.ds).length=min m.length s.length:=by unfold pairs;rw[List.length_zipWith,P.length,T.length]
     refine⟨λhi=>?_,λhi=>?_⟩
     .have hi:i<(pairs B.ds C.ds).length:=hi;have I:i<m.length:=by lia
      have h2:i<s.length:=by lia
      refine⟨⟨m,s,m[i],s[i],L,N,gE0 I,gE0 h2⟩,?_⟩;rintro x H' ⟨pp,O,U,j,rfl,rfl,hx,hy⟩;obtain⟨d,hd,dd⟩:=P.get (hx m L);obtain⟨f,hf,df⟩:=T.get (hy s N);have y:=Q.newx (o:=.tup [O,U]) j;have D:=Q.new (o:=.tup [O,U]) j;refine⟨y,D,⟨n.stays _ _ _ _ _ _ z y D (n.st _ _ _ z),r.stays _ _ _ _ _ _ A y D (r.st _ _ _ A)⟩,.tup [d,f],?_,?_⟩
      .unfold pairs;rw[List.getElem?_zipWith,hd,hf]
      .exact pW (.of yE) (yT (dd.ext y) (yT (df.ext y) xL))
     .have hi:(pairs B.ds C.ds).length<=i:=hi;refine⟨m,s,L,N,?_⟩;by_cases I:m.length<=i
      .exact .inl I
      .exact .inr #[0]
    .intro E S1 H1 M S2 H2 ⟨z,A⟩ x w hs;exact⟨n.stays _ _ _ _ _ _ z x w λp j=>hs p (Ę _ j),r.stays _ _ _ _ _ _ A x w λp j=>hs p (ø _ j)⟩
    .intro p j;rcases å.mp j with h|h
     .exact n.st _ _ _ p1 p h
     .exact r.st _ _ _ p2 p h
   .exact c.elim
  .exact c.elim
 .exact c.elim
end
structure EnSt(k:Bool)(e it l:Addr)(i:Nat)(h:Heap):Prop where
 e: ∃old,IsEnum h e it i old
 s:IsSub k h it l i
section
variable{prog:ļ}{w:World}{A:Around}{i:Nat}
def Wj{Q:VP}(M:IsEnum s.heap e it i old)(I:IsSub k s.heap it l i)(Z:IsSeq k s.heap l its)(hx:its[i]? =some x)(p:e≠it)
  (hQ: ∀h',IsEnumOut h' e it ( i +1) x ↑1->IsSub k h' it l (i+1)->h'.get? ↑1=some {cls:=.type "tuple",data:=.seq #[.int i s.toks,x]}->
   (∀b o,b≠e->b≠it->s.heap.get? b=some o->h'.get? b=some o)->Q (.ref ↑1) {s with heap:=h',toks:=s.toks+1}):
  wpAny (model prog w) A (Builtin.«enumerate.__next__» ⟨[.ref e],[]⟩) (λT s'=> ∃v,T=.done (.ret v)/\Q v s') E s:=by
 obtain⟨B,g,d,j,os⟩:=s;show wpAny _ _ (field (.ref e) 2 >>= _) _ _ _;refine wB (ò M rfl rfl (wB (mY I Z hx λr W a=>?_)))
 replace a:Heap.SameBut it B r:=a
 have P:IsEnum r e it i old:=(a.2 e p).trans M;show wpAny _ _ _ _ _ ⟨r,g,d,j,os⟩;refine wB (ò P rfl rfl ?_);show wpAny _ _ _ _ _ ⟨r,g,d,j,os⟩;refine wB (ò P rfl rfl ?_);show wpAny _ _ (mkInt i >>= _) _ _ ⟨r,g,d,j,os⟩;refine wB (wpAny_mkInt ?_);show wpAny _ _ _ _ _ ⟨r,g,d,_,os⟩;refine wB (þ P (by simp) λG J c=>?_)
 replace c:Heap.SameBut e r G:=c
 replace J:IsEnum G e it ((i:Int)+1) old:=J
 show wpAny _ _ _ _ _ ⟨G,g,d,_,os⟩;refine wB (þ J (by simp) λh K f=>?_)
 replace f:Heap.SameBut e G h:=f
 replace K:IsEnum h e it ((i:Int)+1) old:=K
 show wpAny _ _ _ _ _ ⟨h,g,d,_,os⟩;refine wB (wpAny_newTuple ?_);have D:h.objs.size=B.objs.size:=by rw[f.1,c.1,a.1]
 have U:e<B.objs.size:=ä M;have H:IsEnum (h.push {cls:=.type "tuple",data:=.seq #[.int i j,x]}) e it ((i:Int)+1) old:=hP0 _ K;have X:(h.push {cls:=.type "tuple",data:=.seq #[.int i j,x]}).get? B.objs.size=some {cls:=.type "tuple",data:=.seq #[.int i j,x]}:=by rw[<-D];exact è _ rfl
 have kd: ∀b o,b≠e->b≠it->B.get? b=some o->(h.push {cls:=.type "tuple",data:=.seq #[.int i j,x]}).get? b=some o:=λb o C N q=>
  hP0 _ (f.extBut b o C (c.extBut b o C (a.extBut b o N q)))
 have Y:IsSub k (h.push {cls:=.type "tuple",data:=.seq #[.int i j,x]}) it l (i+1):=W.move λo q=>hP0 _ (f.extBut _ o (Ne.symm p) (c.extBut _ o (Ne.symm p) q));generalize h.push {cls:=.type "tuple",data:=.seq #[.int i j,x]}=hd at H X kd Y ⊢;show wpAny _ _ _ _ _ ⟨hd,g,d,_,os⟩;rw[D];refine wB ?_;unfold Builtin.SmallTypes.ownedTupleIsFree;refine wB (ò H rfl rfl (wP ?_));simp only[if_true];refine wB (Ģ (wB (ò H rfl rfl (wB (þ H (by simp) λF O u=>?_)))))
 replace u:Heap.SameBut e hd F:=u
 replace O:IsEnum F e it ((i:Int)+1) x:=O
 show wpAny _ _ _ _ _ ⟨F,g,d,_,os⟩;refine wB ?_;unfold Builtin.SmallTypes.ownedTupleHandOut;refine wB (þ O (by simp) λz S y=>?_)
 replace y:Heap.SameBut e F z:=y
 replace S:IsEnumOut z e it ((i:Int)+1) x B.objs.size:=S
 refine þ S (by simp) λm L t=>?_
 replace t:Heap.SameBut e z m:=t
 replace L:IsEnumOut m e it ((i:Int)+1) x B.objs.size:=L
 have up: ∀b o,b≠e->hd.get? b=some o->m.get? b=some o:=λb o n q=>t.extBut b o n (y.extBut b o n (u.extBut b o n q));exact wB (wpAny_letGo (wP ⟨_,rfl,hQ m L (Y.move λo q=>up _ o (Ne.symm p) q) (up _ _ (ă U) X) λb o C N q=>up b o C (kd b o C N q)⟩))
def Ci(k)(l)(its):
  Meets (Builtin.«enumerate.__new__» ⟨[.type "enumerate",.ref l],[]⟩) (λ_ R s=>IsSeq k s.heap l its/\
   R (.ok (.ret (.ref (↑1+1)))) {s with heap:=(s.heap.push (AD k l)).push {cls:=.type "enumerate",data:=.fields #[.none,.bool false,.ref ↑1,rawInt 0,.none,.none]}}):=
 .of_wp λprog w A R s h=>by
  obtain⟨j,g,d,i,os⟩:=s;obtain⟨f,h⟩:=h;have e:=sub_enumerate;have b:=f;have a: ∀(h:Heap)(o:Obj),(h.push o).objs.size=h.objs.size+1:=λh o=>Ė ..
  wp_walk
  refine wpAny_stack_any λst=>wP ?_;split
  .rename_i c _ _ _ _ _;cases (c==Value.type "enumerate")
   .wp_walk using AG b
    exact⟨_,rfl,by simp only[a];exact h⟩
   .wp_walk using AG b
    exact⟨_,rfl,by simp only[a];exact h⟩
  .wp_walk using AG b
   exact⟨_,rfl,by simp only[a];exact h⟩
end
def RV(K:R0)(F:List MV->Sto->R Er):Sp:=λb H Q _=> ∃a,DenL K [] H a b/\a.length=1/\ ∀g:Gm,g.K=K->Post g W0 [] H (F a []) Q
def Ob: ∀b H Q E,RV g.K F b H Q E->Ba g 1 F b H Q E:=λb H Q E ⟨d,l,c,q⟩=>⟨[],[],d,⟨rfl,by simp,λl a o h=>by simp at h⟩,l,c,q g rfl⟩
def R7{K:R0}(b:Me H)(h:SqL K H a xs):SqF K H a xs:=by
 rcases h with(h|⟨o,h⟩)|h
 .rcases b a with z|⟨o,ys,z⟩
  .rw[z]at h;cases h
  .rw[z]at h;cases h
 .exact .inl ⟨o,h⟩
 .exact .inr h
def Oc{K:R0}{b:Za}(c:Me H)(e:SqL K H a (b.map V.int))(h: ∃S,F [.scr (b.map MV.int)] []=.ok (.val (.bl true)) S):RV K F [.ref a] H (λv _=>v=.bl true) λ_ _ _=>False:=by obtain⟨S,h⟩:=h;refine⟨_,yT (Ei (R7 c e) (IG b)) xL,rfl,λg _=>?_⟩;rw[h];exact λv α' H' x w d=>JY d.1
theorem cH(b)(S)(k:β->Sto->R γ):(R.ok b S).bind k=k b S:=by have h:=R.bind_ok b S k;exact Eq.trans h rfl
theorem Wl(d)(S):Vj (some (some d)) S=.ok (.val d) S:=rfl
theorem GQ:Em S (S++T):=⟨by rw[lA];lia,λl a=>.inl (á a)⟩
def AH(n)(i):lo n (.int i):=by unfold lo;trivial
def AI(n)(i):lo n (.str i):=by unfold lo;trivial
def RW(n)(i):lo n (.bl i):=by unfold lo;trivial
def UR(n):lo n .non:=by unfold lo;trivial
def IP(h:sK n ds):lo n (.tup ds):=by unfold lo;exact h
def R8(h:l<n):lo n (.loc l):=by unfold lo;exact h
theorem kO: ∀{ds},(∀d∈ds,lo n d)->sK n ds
 |[],_=>by unfold sK;trivial
 |d::ds,h=>by unfold sK;exact⟨h d mF0,kO λe a=>h e (mO _ a)⟩
def Od(h:lo ↑0 d)(a: ∀l,d≠.loc l):bY S (.val d) (S++T)=.ok (.val d) S:=by
 unfold bY;rw[iP GQ];have e:(S++T).take ↑0=S:=by simp
 cases d with
 |loc l=>exact absurd rfl (a l)
 |_=>dsimp only;rw[iP h,e]
def Oe(h:sK ↑0 ds):bY S (.new ds) (S++T)=.ok (.new ds) S:=by
 unfold bY;rw[iP GQ];have e:(S++T).take ↑0=S:=by simp
 dsimp only;rw[iP h,e]
theorem Of(b:↑0<=l)(a:(S++T)[l]? =some (.lst ds))(h:sK ↑0 ds):bY S (.val (.loc l)) (S++T)=.ok (.new ds) S:=by
 unfold bY;rw[iP GQ];have e:(S++T).take ↑0=S:=by simp
 dsimp only;rw[iN #[0],a];dsimp only;rw[iP h,e]
def mZ(c:rs.length=n)(a:F (zP rs S).1 (zP rs S).2=.ok (.val d) (S++T))(h:lo ↑0 d)(b: ∀l,d≠.loc l):zS n F rs S=.ok (.val d) S:=by unfold zS;rw[iP c,a];exact Od h b
def cI(b:rs.length=n)(a:F (zP rs S).1 (zP rs S).2=.ok (.new ds) (S++T))(h:sK ↑0 ds):zS n F rs S=.ok (.new ds) S:=by unfold zS;rw[iP b,a];exact Oe h
def sV(d:rs.length=n)(a:F (zP rs S).1 (zP rs S).2=.ok (.val (.loc l)) (S++T))(b:↑0<=l)(c:(S++T)[l]? =some (.lst ds))(h:sK ↑0 ds):zS n F rs S=.ok (.new ds) S:=by unfold zS;rw[iP d,a];exact Of b c h
def sW(c:rs.length=n)(a:F (zP rs S).1 (zP rs S).2=.ok (.val d) S)(h:lo ↑0 d)(b: ∀l,d≠.loc l):zS n F rs S=.ok (.val d) S:=mZ c (by rw[aN];exact a) h b
section
theorem zCU(b)(S):jW (.val (.bl b)) S=.ok b S:=rfl
theorem as_int(i)(S):RQ (.val (.int i)) S=.ok (some i) S:=rfl
theorem R9(b)(S):DU (.val (.bl b)) S=.ok b S:=rfl
theorem add_int(i j)(S):jL (.val (.int i)) (.val (.int j)) S=.ok (.val (.int (i+j))) S:=rfl
theorem sub_int(i j)(S):GH (.val (.int i)) (.val (.int j)) S=.ok (.val (.int (i - j))) S:=rfl
def add_str(h:x.length+y.length<=sizeLine):jL (.val (.str x)) (.val (.str y)) S=.ok (.val (.str (x++y))) S:=iP h
def GR(h:x.length+y.length<=sizeLine):jL (.val (.tup x)) (.val (.tup y)) S=.ok (.val (.tup (x++y))) S:=iP h
def IQ(a:XN S p=some x)(b:XN S q=some y)(h:x.length+y.length<=sizeLine):jL p q S=.ok (.new (x++y)) S:=by
 have e:Eo p q S=.ok (.new (x++y)) S:=by unfold Eo;rw[a,b];exact iP h
 unfold jL;split
 .cases a
 .cases a
 .cases a
 .exact e
theorem S7(i j)(S):ibF g (.val (.int i)) (.val (.int j)) S=.ok (.val (.bl (g i j))) S:=rfl
def Wm(i j):Uy (.int i) (.int j)=decide (i=j):=by
 show(i==j)=_;by_cases h:i=j
 .subst h;simp
 .rw[dF0 h];simpa using h
def Wn(x y):Uy (.str (bW x)) (.str (bW y))=decide (x=y):=by
 show(bW x==bW y)=_;by_cases h:x=y
 .subst h;simp
 .rw[dF0 h];have:=λz=>h (GA z);simpa using this
theorem DG(n)(i j):eqv S (n+1) (.int i) (.int j)=some (decide (i=j)):=by rw[<-Wm];rfl
theorem US(n)(x y):eqv S (n+1) (.str x) (.str y)=some (decide (x=y)):=by rw[<-Wn];rfl
theorem S8(n)(x)(y):eqv S (n+1) (.int x) (.str y)=some false:=rfl
theorem S9(n)(x)(y):eqv S (n+1) (.str x) (.int y)=some false:=rfl
theorem T3(n)(x y):eqv S (n+1) (.bl x) (.bl y)=some (x==y):=rfl
theorem Wo(d f):rE (.val d) (.val f) S=match eqv S (zR+1) d f with |some k=>.ok (.val (.bl k)) S|none=>.no:=rfl
theorem Wp(d f):II (.val d) (.val f) S=match eqv S (zR+1) d f with |some k=>.ok (.val (.bl !k)) S|none=>.no:=rfl
def Cj(h:eqv S (zR+1) d f=some k):rE (.val d) (.val f) S=.ok (.val (.bl k)) S:=by rw[Wo,h]
def NC(h:eqv S (zR+1) d f=some k):II (.val d) (.val f) S=.ok (.val (.bl !k)) S:=by rw[Wp,h]
def eq_int(i j)(S):rE (.val (.int i)) (.val (.int j)) S=.ok (.val (.bl (decide (i=j)))) S:=Cj (DG _ i j)
def eq_str(x y)(S):rE (.val (.str x)) (.val (.str y)) S=.ok (.val (.bl (decide (x=y)))) S:=Cj (US _ x y)
def ne_int(i j)(S):II (.val (.int i)) (.val (.int j)) S=.ok (.val (.bl (!decide (i=j)))) S:=NC (DG _ i j)
def Og(x y)(S):II (.val (.bl x)) (.val (.bl y)) S=.ok (.val (.bl (!(x==y)))) S:=NC (T3 _ x y)
theorem lt_int(i j)(S):C6 (.val (.int i)) (.val (.int j)) S=.ok (.val (.bl (decide (i<j)))) S:=rfl
theorem lt_str(i j)(S):C6 (.val (.str i)) (.val (.str j)) S=.ok (.val (.bl (decide (i<j)))) S:=rfl
theorem yL(h:0<b)(d:b<1073741824)(a)(S):bQ (.val (.int a)) (.val (.int b)) S=.ok (.val (.int (a / b))) S:=by
 refine iP ⟨h,?_⟩;have c:b.natAbs<2 ^ 30:=by omega
 have:=(Nat.log2_lt (by omega:b.natAbs≠0)).mpr c
 lia
def mod_lit(h:0<b)(a)(S):jK (.val (.int a)) (.val (.int b)) S=.ok (.val (.int (a % b))) S:=iP h
def LP(h: -(2 ^ 64)<b/\b<2 ^ 64)(a)(S):vH (.val (.int a)) (.val (.int b)) S=.ok (.val (.int (a * b))) S:=iP (Or.inr (Or.inl h))
def fR(h: -(2 ^ 64)<a/\a<2 ^ 64)(b)(S):vH (.val (.int a)) (.val (.int b)) S=.ok (.val (.int (a * b))) S:=iP (Or.inl h)
def Ex(h:Jh a b)(S):KU (.val (.int a)) (.val (.int b)) S=.ok (.val (.int (a ^ b.toNat))) S:=iP h
theorem Wq(ρ)(i)(d)(S):UI ρ i (.val d) S=.ok (.next (ρ.set i (some d))) S:=rfl
theorem Wr(ρ)(i)(ds)(S):UI ρ i (.new ds) S=.ok (.next (ρ.set i (some (.loc ↑0)))) (S++[.lst ds]):=rfl
theorem Wt(S):zP [] S=([],S):=rfl
theorem Wu(d)(rs)(S):zP (.val d::rs) S=(d::(zP rs S).1,(zP rs S).2):=rfl
theorem zE(h:F ρ S=.ok (.next ρ') S'):zL F G ρ S=G ρ' S':=by unfold zL;rw[h];rfl
theorem cT(h:F ρ S=.ok (.ret r) S'):zL F G ρ S=.ok (.ret r) S':=by unfold zL;rw[h];rfl
def kG(S):stay [] S:=dS
def zZ(a:gf d ρ S=.ok ρ0 S0)(h:b ρ0 S0=.ok (.next ρ') S')(hs:stay gs S'):kZ gf b gs (d::ds) ρ S=kZ gf b gs ds ρ' S':=by
 conv=>lhs;unfold kZ
 rw[a,cH,h,cH];dsimp only;rw[iP hs]
def UT(a:gf d ρ S=.ok ρ0 S0)(h:b ρ0 S0=.ok (.ret r) S'):kZ gf b gs (d::ds) ρ S=.ok (.ret r) S':=by
 conv=>lhs;unfold kZ
 rw[a,cH,h,cH]
def bE(c:t ρ S=.ok true S1)(a:b ρ S1=.ok (.next ρ') S2):jI t b (n+1) ρ S=jI t b n ρ' S2:=by
 conv=>lhs;unfold jI
 rw[c,cH,iP rfl,a,cH]
def sX(a:t ρ S=.ok false S1):jI t b (n+1) ρ S=.ok (.next ρ) S1:=by
 conv=>lhs;unfold jI
 rw[a,cH,iN xF0]
theorem Ey(a:0<=i)(b:i<xs.length): ∃c,uT xs i=some c:=by refine⟨xs[i.toNat]'#[0],?_⟩;unfold uT XM;rw[iP a,iP b];exact gE0 _
def Ez{P:α->Prop}(h: ∀e∈xs,P e)(z:uT xs i=some e):P e:=by
 unfold uT at z
 cases q:XM xs.length i with
 |none=>rw[q]at z;cases z
 |some j=>rw[q]at z;exact h e (î z)
def ix_str(h:x.length<=sizeLine)(a:uT x i=some c):xK (.val (.str x)) (.val (.int i)) S=.ok (.val (.str [c])) S:=by show(if x.length<=sizeLine then match uT x i with |some c=>R.ok _ S|none=>.no else .no)=_;rw[iP h,a]
def ix_tup(a:uT ds i=some d):xK (.val (.tup ds)) (.val (.int i)) S=.ok (.val d) S:=by show(match uT ds i with |some d=>R.ok _ S|none=>.no)=_;rw[a]
def T4(a:uT ds i=some d):xK (.new ds) (.val (.int i)) S=.ok (.val d) S:=by show(match uT ds i with |some d=>R.ok _ S|none=>.no)=_;rw[a]
def aP(b:S[l]? =some (.lst ds))(a:uT ds i=some d):xK (.val (.loc l)) (.val (.int i)) S=.ok (.val d) S:=by
 have e:bZ S (.val (.loc l))=some ds:=by unfold bZ;dsimp only;rw[b]
 show(match bZ S _ with |some ds=>getL ds _ S|none=>.no)=_;rw[e];show(match uT ds i with |some d=>R.ok _ S|none=>.no)=_;rw[a]
def dX(b:S[l]? =some (.lst ds)):rF [.val (.loc l)] S=.ok (.val (.int ds.length)) S:=by
 have e:bZ S (.val (.loc l))=some ds:=by unfold bZ;dsimp only;rw[b]
 have a:itemsOf S (.val (.loc l))=some ds:=by unfold itemsOf;exact e
 show(match itemsOf S _ with |some ds=>R.ok _ S|none=>.no)=_;rw[a]
def oA(a:S[l]? =some (.lst ds)):bZ S (.val (.loc l))=some ds:=by unfold bZ;dsimp only;rw[a]
def DH(a:S[l]? =some (.lst ds)):XN S (.val (.loc l))=some ds:=by unfold XN;dsimp only;rw[a]
def kE(a:S[l]? =some (.lst ds)):vM (.val (.loc l)) S=.ok ⟨ds,[(l,ds)]⟩ S:=by unfold vM;dsimp only;rw[a]
def xP(b:S[l]? =some (.lst ds)):stay [(l,ds)] S:=λp a=>by
 have:=by simpa using a
 subst this;exact b
def UU(h: -(2 ^ 62)<=j/\j<2 ^ 62):fP [.val (.int j)] S=.ok ⟨(List.range j.toNat).map λk=>.int (k:Nat),[]⟩ S:=iP h
def cut_str(h:x.length<=sizeLine)(lo hi):fQ (.val (.str x)) lo hi S=.ok (.val (.str (aG x lo hi))) S:=iP h
theorem Oh(x:List α)(lo hi):(aG x lo hi).length<=x.length:=by
 unfold aG;rw[lT,Ć]
 lia
def Oi{lo:O0}(h:a∈aG x lo hi):a∈x:=mem_of_mem_drop (ķ h)
def GS(x:List α)(k)(d:0<=k):aG x none (some k)=x.take k.toNat:=by
 unfold aG;have c:HT.sIx x.length 0 none=0:=rfl;rw[c];have a:HT.sIx x.length x.length (some k)=min k.toNat x.length:=by unfold HT.sIx;simp only;split<;>omega
 rw[a,drop_zero,Nat.sub_zero];by_cases b:k.toNat<=x.length
 .rw[min_eq_left b]
 .rw[min_eq_right (by omega),take_length,ĸ (by omega)]
def fits(h:n<=1000000):n<=sizeLine:=by rw[đ];exact ì h ↑3
def AK(h:rs.length<=1000000):kI rs S=.ok (.new (zP rs S).1) (zP rs S).2:=iP (fits h)
def FD(h:rs.length<=1000000):wR rs S=.ok (.val (.tup (zP rs S).1)) (zP rs S).2:=iP (fits h)
def Oj(S):kI [] S=.ok (.new []) S:=AK (by simp)
def lst1(a)(S):kI [.val a] S=.ok (.new [a]) S:=AK (by simp)
def Ol(a b)(S):kI [.val a,.val b] S=.ok (.new [a,b]) S:=AK (by simp)
def lst3(a b c)(S):kI [.val a,.val b,.val c] S=.ok (.new [a,b,c]) S:=AK (by simp)
def lst6(a b c d e f)(S):kI [.val a,.val b,.val c,.val d,.val e,.val f] S=.ok (.new [a,b,c,d,e,f]) S:=AK (by simp)
def tup2(a b)(S):wR [.val a,.val b] S=.ok (.val (.tup [a,b])) S:=FD (by simp)
def tup3(a b c)(S):wR [.val a,.val b,.val c] S=.ok (.val (.tup [a,b,c])) S:=FD (by simp)
theorem T5(i)(S):UP [.val (.int i),.val (.typ "str")] S=.ok (.val (.bl false)) S:=rfl
theorem T6(i)(S):UP [.val (.str i),.val (.typ "str")] S=.ok (.val (.bl true)) S:=rfl
theorem T7(i)(S):UP [.val (.int i),.val (.typ "tuple")] S=.ok (.val (.bl false)) S:=rfl
theorem T8(i)(S):UP [.val (.str i),.val (.typ "tuple")] S=.ok (.val (.bl false)) S:=rfl
theorem T9(i)(S):UP [.val (.tup i),.val (.typ "tuple")] S=.ok (.val (.bl true)) S:=rfl
theorem Om(i)(S):UP [.val (.bl i),.val (.typ "bool")] S=.ok (.val (.bl true)) S:=rfl
def Nm(x:Db):Prop:=1<=x.length/\x.length<=8/\ ∀c∈x,97<=c/\c<=122
def Vl:MV->Prop
 |.int i=> -(10 ^ 30)<i/\i<10 ^ 30
 |.str x=>Nm x
 |_=>False
def Vl.cases(h:Vl d):(∃i,d=.int i/\ -(10 ^ 30)<i/\i<10 ^ 30)\/ ∃x,d=.str x/\Nm x:=by
 cases d with
 |int i=>exact .inl ⟨i,rfl,h⟩
 |str x=>exact .inr ⟨x,rfl,h⟩
 |_=>exact h.elim
end
def Ite(K:R0)(k:Bool)(l:Addr):It:=
 ⟨λi H=> ∃xs x,QH k K H l xs/\xs[i]? =some x,
   λi H v H'=> ∃p x,H p=none/\v=.ref p/\H'=jS H p (.tup [.int (i:Nat),x])/\(∀xs,QH k K H l xs->xs[i]? =some x),
   λi H=> ∃xs,QH k K H l xs/\xs.length<=i⟩
section
variable{s:ĺ}
def Jl(f:IsSeq k s.heap l its)
  (h: ∀h',EnSt k (↑1+1) ↑1 l 0 h'->(∀c o,s.heap.get? c=some o->h'.get? c=some o)->Q (.ref (↑1+1)) {s with heap:=h'}):
  wpAny (model prog w) A (call (.type "enumerate") [.ref l]) Q E s:=by
 refine callType_new F.called_enumerate ↑3 (F.typeCall_enumerate_1 _) (F.newCall_enumerate_1 _) (λa=>F.args_object_init_2 a _) F.entry_enumerate_new (Ci k l its) ⟨f,?_⟩;have e:(s.heap.push (AD k l)).objs.size=↑1+1:=Ė ..;have d:=by have:=è (s.heap.push (AD k l)) (o:={cls:=.type "enumerate",data:=.fields #[.none,.bool false,.ref ↑1,rawInt 0,.none,.none]}) rfl;rw[e]at this;exact this
 refine⟨⟨_,d,rfl⟩,h _ ⟨⟨_,d⟩,IsSub.mk' (hP0 _ (è _ rfl))⟩ λb o x=>hP0 _ (hP0 _ x)⟩
end
theorem Jm{K:R0}(hne:e≠it):
  Turn P w K (.Tuple elts kt pt) (Ite K k l) [e,it] e (λi h=>EnSt k e it l i h) where
 mem:=by simp
 obj:=λi h st b hb=>by
  obtain⟨⟨old,he⟩,hs⟩:=st;have hb':b=e\/b=it:=by simpa using hb
  rcases hb' with rfl|rfl
  .exact⟨_,he,λv q=>by cases q⟩
  .exact hs.there
 keep:=λi h h' st kk=>by obtain⟨⟨old,he⟩,hs⟩:=st;exact⟨⟨old,kk e (by simp) _ he⟩,hs.move λo q=>kk it (by simp) o q⟩
 item:=by
  intro X hP hw hK hc i pins s σ H E I hf st hg;subst hP hw hK;obtain⟨xs,x,q1,hx⟩:=hg;obtain⟨its,r1,p1,_⟩:=I.seqK q1;obtain⟨u,hu,ru⟩:=r1.get hx;obtain⟨⟨old,he⟩,hs⟩:=st;have hT:s.TypeIs (.ref e) "enumerate":=⟨_,he,rfl⟩
  unfold pyNext
  refine wB (ě (ô hT F.slot_enumerate_next (ð F.slot_enumerate_next hT F.entry_enumerate_next
   (Wj he hs p1 (by simpa using hu) hne λh' a1 a2 a3 a4=>wP ⟨_,rfl,?_⟩) (F.args_enumerate_next_1 _))))
  refine wpAny_letOwnedTupleGo_enum a1 λh2 z2 sb2=>?_;have hpn:H ↑1=none:=I.hok.fresh (à _)
  have I0:Inv X pins σ _ {s with heap:=s.heap.push {cls:=.type "tuple",data:=.seq #[.int i s.toks,u]},toks:=s.toks+1}:=
   I.laid (o:=.tup [.int (i:Nat),x]) (λb o e=>hP0 _ e) (à _) ⟨by show 2<=sizeLine;decide,_,.cons ⟨_,rfl⟩ (.cons ru .nil),⟨_,è _ rfl,rfl,_,rfl⟩⟩
  have lt: ∀b∈[e,it],b<s.heap.objs.size:=λb hb=>by
   have hb':b=e\/b=it:=by simpa using hb
   rcases hb' with rfl|rfl
   .exact ä he
   .obtain⟨o,eo,_⟩:=hs.there;exact ä eo
  have fr: ∀b∈[e,it],jS H ↑1 (.tup [.int (i:Nat),x]) b=none:=λb hb=>by rw[zU (ê (lt b hb))];exact(hf b hb).1
  have mv: ∀b o,b∉[e,it]->(s.heap.push {cls:=.type "tuple",data:=.seq #[.int i s.toks,u]}).get? b=some o->h2.get? b=some o:=λb o hb eo=>by
   simp only[mC,nM,or_false,not_or]at hb;refine sb2.extBut _ _ hb.1 ?_;by_cases hbs:b=↑1
   .subst hbs;rw[è _ rfl]at eo;cases eo;exact a3
   .rw[Heap.get?_push_ne _ _ _ hbs]at eo;exact a4 b o hb.1 hb.2 eo
  have I2:=I0.turnedL (t':=s.toks+1) mv λb hb=>let ⟨_,c2,c3,c4,c5,c6⟩:=hf b hb;⟨fr b hb,c2,c3,c4,c5,c6⟩;refine⟨.ref ↑1,_,I2,rfl,⟨_,x,hpn,rfl,rfl,λzs hz=>?_⟩,⟨⟨u,?_⟩,?_⟩,fr⟩
  .rw[I.seqK_inj hz q1];exact hx
  .simpa using z2
  .exact a2.move λo eo=>sb2.extBut _ _ (Ne.symm hne) eo
 done:=by
  intro X hP hw hK hc i pins s σ H E I hf st hg;subst hP hw hK;obtain⟨xs,q1,hx⟩:=hg;obtain⟨its,r1,p1,_⟩:=I.seqK q1;obtain⟨⟨old,he⟩,hs⟩:=st;have hT:s.TypeIs (.ref e) "enumerate":=⟨_,he,rfl⟩
  have e1:=r1.length;unfold pyNext;refine wB (ě (ô hT F.slot_enumerate_next (ð F.slot_enumerate_next hT F.entry_enumerate_next ?_ (F.args_enumerate_next_1 _))));show wpAny _ _ (field (.ref e) 2 >>= _) _ _ _;refine wB (ò he rfl rfl ?_);refine wB (GP (I.ok.hd hc) hs p1 (by simp;lia) λh' x hk hx'=>?_);obtain⟨o,ho,hcl⟩:=hx';refine wB (ı ⟨o,ho,hcl⟩ isSubtype_stop (wP ⟨rfl,?_⟩));refine I.turnedL (λb o hb eo=>?_) hf;simp only[mC,nM,or_false,not_or]at hb;exact hk b o hb.2 eo
 self:=λ_ _ _ _ _ st h=>let ⟨⟨_,he⟩,_⟩:=st;wpAny_pyIter_enum he h
def zCV(K:R0)(c:TA):TI:=λσ H R=>c σ H λb a=> ∃k l,b=[.ref l]/\(∃xs,QH k K a l xs)/\R (Ite K k l) a
section
variable{a:Expr}{p:Pos}
def Wv(u:Gl X "enumerate")(w:X.mg "enumerate"=none)(o:PA X [a] ta)(hs:starEach [a] X.env=[(false,eval a X.env)]:=by rfl):
  PI X (.Tuple elts kt pt) (.Call (.Name "enumerate" p) [a] [] pos) (zCV X.K ta):=by
 intro pins s σ H R I h;refine Call_ (qY I u w Wi (ý (gH (o pos pins s σ H _ I h) λA f ⟨B,e,I1,z,y⟩=>?_) (by rw[hs];rfl) (by rfl)));obtain⟨k,l,rfl,⟨xs,t⟩,q⟩:=y
 cases z with
 |cons r rr=>
  cases rr;cases r;obtain⟨j,C,p1,_⟩:=I1.seqK t;refine Jl p1 λh' st m=>let ⟨⟨_,n⟩,_⟩:=id st;wpAny_pyIter_enum n ?_;have i:Inv X pins σ e {f with heap:=h'}:=I1.kept m;refine⟨_,_,_,_,e,rfl,i,Jm (ă (Nat.lt_succ_self _)),st,λb v=>?_,q⟩
  have c:f.heap.objs.size<=b:=by
   have d:=by simpa using v
   rcases d with h|h<;>rw[h]<;>(first |exact à _|exact ď _ _)
  exact I1.fpOk c (I1.hok.fresh c)
noncomputable def Jn(xs:U0):List MV:=xs.zipIdx.map λp=>.tup [.int (p.2:Nat),p.1]
def zCW(rs:List Er)(S:Sto):R Wk:=match rs with
 |[p]=>match srcOf S p with
  |some a=>.ok ⟨Jn a.ds,a.gs⟩ S
  |none=>.no
 |_=>.no
theorem Fa(M:Gl X "enumerate")(N:X.mg "enumerate"=none)(n:MR X W [a] af)(hs:starEach [a] X.env=[(false,eval a X.env)]:=by rfl):
  Tr X W (.Tuple elts kt pt) (.Call (.Name "enumerate" p) [a] [] pos) (λm S=>(af m S).bind zCW):=by
 obtain⟨t,n,k⟩:=n;refine⟨_,Wv M N n hs,λα m S σ H Rc wd sl q=>k α m S σ H _ wd sl (q.bind λvs rs O r L e J E I b=>?_)⟩
 replace b:=b.shift J
 unfold zCW at b;split at b
 .rename_i r1;split at b
  .rename_i y T;obtain⟨u,rfl,G⟩:=RR I;obtain⟨K,P,rfl,p1,c⟩:=IO E T G;have U:=c.get _ _ _ p1;have D:(Jn y.ds).length=y.ds.length:=by unfold Jn;rw[lM,List.length_zipIdx]
   refine⟨y.k,K,rfl,⟨_,U.choose_spec.1⟩,b.here E ⟨λα S H=>P α S H,?_,p1,?_,?_⟩⟩
   .intro i v S2 Q f C;obtain⟨h,s,B⟩:=c.get _ _ _ f;have hl:=B.length;refine⟨λhi=>?_,λhi=>?_⟩
    .have hi:=hi;have h1:i<h.length:=by lia
     refine⟨⟨h,_,s,gE0 h1⟩,?_⟩;rintro x H' ⟨pp,z,F,rfl,rfl,Z⟩;obtain⟨d,Y,dd⟩:=B.get (Z h s);have j:=C.newx (o:=.tup [.int (i:Nat),z]) F;have A:=C.new (o:=.tup [.int (i:Nat),z]) F;refine⟨j,A,c.stays _ _ _ _ _ _ f j A (c.st _ _ _ f),.tup [.int (i:Nat),d],?_,?_⟩
     .unfold Jn;rw[ï,List.getElem?_zipIdx,Y];simp
     .exact pW (.of yE) (yT (jV _) (yT (dd.ext j) xL))
    .have hi:=hi;exact⟨h,s,by lia⟩
   .intro r O L v S2 Q f x w hs;exact c.stays _ _ _ _ _ _ f x w hs
   .exact c.st _ _ _ p1
  .exact b.elim
 .exact b.elim
end
instance:DecidableEq MV:=λ_ _=>Classical.propDecidable _
def look(kvs:Z0)(k:MV):Option MV:=(kvs.find? λp=>decide (p.1=k)).map (·.2)
def putK(kvs:Z0)(k d:MV):List (MV×MV):=if(look kvs k).isSome=true then kvs.map (λp=>if p.1=k then(p.1,d)else p)else kvs++[(k,d)]
noncomputable def ND:MV->Bool
 |.tup _=>true
 |_=>false
theorem NF:kN .non=some (.key none):=by unfold kN;rfl
theorem fS(i):kN (.int i)=some (.key (some (.inl i))):=by unfold kN;rfl
theorem oB(x):kN (.str x)=some (.key (some (.inr (bW x)))):=by unfold kN;rfl
def fU(ds):kN (.tup ds)=(bX ds).map .tup:=by
 conv=>lhs;unfold kN
theorem sY:bX []=some []:=by unfold bX;rfl
def dC(d)(ds):bX (d::ds)=(kN d).bind λk=>(bX ds).map (k::·):=by
 conv=>lhs;unfold bX
mutual
theorem GT: ∀{d e:MV}{k:NK},kN d=some k->kN e=some k->d=e
 |.int i,e,k,hd,a=>by
  rw[fS]at hd;cases hd
  cases e with
  |int j=>rw[fS]at a;cases a;rfl
  |str x=>rw[oB]at a;cases a
  |tup ds=>rw[fU]at a;cases z:bX ds<;>rw[z]at a<;>cases a
  |_=>unfold kN at a;cases a
 |.str x,e,k,hd,a=>by
  rw[oB]at hd;cases hd
  cases e with
  |int j=>rw[fS]at a;cases a
  |str y=>
   rw[oB]at a;have a:=â a;injection a with a
   injection a with a
   injection a with a
   rw[GA a]
  |tup ds=>rw[fU]at a;cases z:bX ds<;>rw[z]at a<;>cases a
  |_=>unfold kN at a;cases a
 |.tup ds,e,k,hd,a=>by
  rw[fU]at hd
  cases z:bX ds with
  |none=>rw[z]at hd;cases hd
  |some ks=>
   rw[z]at hd;cases hd
   cases e with
   |int j=>rw[fS]at a;cases a
   |str y=>rw[oB]at a;cases a
   |tup es=>
    rw[fU]at a
    cases b:bX es with
    |none=>rw[b]at a;cases a
    |some ks'=>rw[b]at a;cases a;rw[RY z b]
   |_=>unfold kN at a;cases a
 |.non,e,k,hd,a=>by
  rw[NF]at hd;cases hd
  cases e with
  |non=>rfl
  |int j=>rw[fS]at a;cases a
  |str x=>rw[oB]at a;cases a
  |tup ds=>rw[fU]at a;cases z:bX ds<;>rw[z]at a<;>cases a
  |_=>unfold kN at a;cases a
 |.bl _,e,k,hd,a=>by unfold kN at hd;cases hd
 |.scr _,e,k,hd,a=>by unfold kN at hd;cases hd
 |.loc _,e,k,hd,a=>by unfold kN at hd;cases hd
 |.typ _,e,k,hd,a=>by unfold kN at hd;cases hd
 |.obj _ _ _,e,k,hd,a=>by unfold kN at hd;cases hd
theorem RY: ∀{ds es:U0}{ks:List NK},bX ds=some ks->bX es=some ks->ds=es
 |[],es,ks,hd,he=>by
  rw[sY]at hd;cases hd
  cases es with
  |nil=>rfl
  |cons e es=>
   rw[dC]at he;cases z:kN e<;>rw[z]at he
   .cases he
   .cases a:bX es<;>rw[a]at he<;>cases he
 |d::ds,es,ks,hd,he=>by
  rw[dC]at hd
  cases z:kN d with
  |none=>rw[z]at hd;cases hd
  |some k=>
   rw[z]at hd
   cases a:bX ds with
   |none=>rw[a]at hd;cases hd
   |some ks2=>
    rw[a]at hd
    cases es with
    |nil=>rw[sY]at he;cases he;cases hd
    |cons e es=>
     rw[dC]at he
     cases b:kN e with
     |none=>rw[b]at he;cases he
     |some k'=>
      rw[b]at he
      cases c:bX es with
      |none=>rw[c]at he;cases he
      |some ks4=>
       rw[c]at he;cases hd;cases he;rw[GT z b,RY a c]
end
section
variable{X:Cx}{pins:M0}{σ:St}{H:Hp}{s:ĺ}{α:B9}
mutual
theorem NG(I:↑2): ∀{d:MV}{k:NK}{x:V}{u:Ļ},kN d=some k->Den X.K α H d x->RelV x u->QD (mk X.prog X.w) s.heap k u
 |.int i,k,x,u,hk,hd,r=>by rw[fS]at hk;cases hk;cases wQ hd;obtain⟨t,rfl⟩:=r;exact jU.mpr (by show sM (.inl i) (.int i t)=true;simp[sM,Value.isInt])
 |.str y,k,x,u,hk,hd,r=>by rw[oB]at hk;cases hk;cases jG hd;obtain⟨t,rfl⟩:=r;exact jU.mpr (by show sM (.inr (bW y)) (.str (bW y) t)=true;simp[sM,Value.isStrOf])
 |.tup ds,k,x,u,hk,hd,r=>by
  rw[fU]at hk
  cases z:bX ds with
  |none=>rw[z]at hk;cases hk
  |some ks=>
   rw[z]at hk;cases hk;obtain⟨a,m,rfl,e,l⟩:=wD hd;cases r;obtain⟨c,j,pt,_⟩:=I.tuple e;obtain⟨o,h,f,n,b⟩:=pt;exact jA.mpr ⟨a,o,c.toArray,n,rfl,h,f,b,by simpa using Fc I z l j⟩
 |.non,k,x,u,hk,hd,r=>by rw[NF]at hk;cases hk;cases iH hd;cases r;exact jU.mpr rfl
 |.bl _,k,x,u,hk,hd,r=>by unfold kN at hk;cases hk
 |.scr _,k,x,u,hk,hd,r=>by unfold kN at hk;cases hk
 |.loc _,k,x,u,hk,hd,r=>by unfold kN at hk;cases hk
 |.typ _,k,x,u,hk,hd,r=>by unfold kN at hk;cases hk
 |.obj _ _ _,k,x,u,hk,hd,r=>by unfold kN at hk;cases hk
theorem Fc(I:↑2): ∀{ds:U0}{ks:List NK}{xs:List V}{us:A0},bX ds=some ks->DenL X.K α H ds xs->Vals xs us->vR (mk X.prog X.w) s.heap ks us
 |[],ks,xs,us,hk,hd,r=>by rw[sY]at hk;cases hk;cases hd.isnil;cases r;exact gD.mpr rfl
 |d::ds,ks,xs,us,hk,hd,r=>by
  rw[dC]at hk;obtain⟨v,c,rfl,a,l⟩:=hd.uncons
  cases r with
  |cons r1 r2=>
   cases z:kN d with
   |none=>rw[z]at hk;cases hk
   |some k=>
    rw[z]at hk
    cases b:bX ds with
    |none=>rw[b]at hk;cases hk
    |some ks2=>
     rw[b]at hk;cases hk;exact xQ.mpr ⟨_,_,rfl,NG I z a r1,Fc I b l r2⟩
end
def DD(X:Cx)(H:Hp)(d:Addr)(xs:List (NK×Addr×Ļ)):Prop:=H d=some (DN X.prog X.w d xs)\/(xs=[]/\H d=some (.dK []))
def DD.nf(h:DD X H d xs): ∀a u,H d≠some (.frz a u):=h.elim (λz=>Mo z) λz=>by first |exact Mo z.2|exact z.elim
def zCX{S:Sto}(c:ObD X.g α H d (.dic kvs))(b:kvs.all (λp=>ND p.1)=true): ∃xs,DD X H d xs/\DenN X.K α H kvs xs:=by
 rcases c with⟨ks,h,l⟩|⟨xs,h,l⟩
 .cases l with
  |nil=>exact⟨[],.inr ⟨rfl,h⟩,.nil⟩
  |@cons k k' dd v fs gs hkd a l=>
   rw[Ĝ,aE]at b
   cases k with
   |tup ds=>exact absurd hkd (by unfold KeyD;exact λz=>z)
   |_=>exact absurd b.1 xF0
 .exact⟨xs,.inl h,l⟩
theorem Fe(I:↑2): ∀{kvs}{xs},DenN X.K α H kvs xs-> ∀x∈xs,(sP X.prog X.w).is s.heap x.1 x.2.1
 |_,_,.nil=>λx b=>by simp at b
 |_,_,.cons k e a d r l=>λx b=>by
  rcases mC.mp b with rfl|b
  .exact⟨NG I k a rfl,e⟩
  .exact Fe I l x b
def UV(I:↑2)(h:DD X H d xs)(l:DenN X.K α H kvs xs):s.heap.DictOfH (sP X.prog X.w) d xs/\xs.length<=sizeLine/\(d==sysModules)=false:=by
 rcases h with h|⟨rfl,h⟩
 .obtain⟨⟨r,c,o,es,k,i,e,j,f,t⟩,_⟩:=(I.hok d _ h)
  exact⟨⟨o,es,k,i,e,j,f,Fe I l,t⟩,r,c⟩
 .obtain⟨_,c,u,p,o,es,k,i,e,j,_,n,_⟩:=(I.hok d _ h)
  cases p;have f:es.toList=[]:=by cases m:es.toList with |nil=>rfl|cons a b=>rw[m]at n;cases n
  exact⟨⟨o,es,k,i,e,j,by rw[f];rfl,λx q=>by simp at q,nodup_nil⟩,zero_le _,c⟩
def DI(p)(kvs)(k):look (p::kvs) k=if p.1=k then some p.2 else look kvs k:=by
 unfold look;rw[find?_cons];by_cases h:p.1=k
 .rw[dT0 h,iP h];rfl
 .rw[dF0 h,iN h]
def FE(x)(xs)(k:NK):atKey (x::xs) k=if x.1=k then some x.2 else atKey xs k:=by
 unfold atKey;rw[find?_cons];by_cases h:x.1=k
 .rw[dT0 h,iP h];rfl
 .rw[dF0 h,iN h]
theorem UW: ∀{kvs}{xs}{k}{nk},DenN X.K α H kvs xs->kN k=some nk->(atKey xs nk).isSome=(look kvs k).isSome
 |_,_,k,nk,.nil,hk=>rfl
 |_,_,k,nk,.cons (k:=k') (nk:=nk') hk' e a d r l,hk=>by
  rw[DI,FE];by_cases h:k'=k
  .subst h;have:=by rw[hk]at hk';exact(â hk').symm
   rw[iP this,iP rfl];rfl
  .have:nk'≠nk:=λz=>h (GT hk' (by rw[hk,z]));rw[iN this,iN h];exact UW l hk
theorem UX: ∀{kvs}{xs}{k d}{nk}{v}{u},DenN X.K α H kvs xs->kN k=some nk->Den X.K α H d v->RelV v u->DenN X.K α H (kvs.map λp=>if p.1=k then(p.1,d)else p) (xs.map (putAt nk u))
 |_,_,k,d,nk,v,u,.nil,hk,hd,r=>.nil
 |_,_,k,d,nk,v,u,.cons (k:=k') (nk:=nk') hk' e a dd rr l,hk,hd,r=>by
  rw[ã,ã];unfold putAt;by_cases h:k'=k
  .have b:=by subst h;rw[hk]at hk';exact(â hk').symm
   rw[iP h,iP b];exact .cons hk' e a hd r (UX l hk hd r)
  .have b:nk'≠nk:=λz=>h (GT hk' (by rw[hk,z]));rw[iN h,iN b];exact .cons hk' e a dd rr (UX l hk hd r)
theorem DenN.append: ∀{kvs b}{xs c},DenN X.K α H kvs xs->DenN X.K α H b c->DenN X.K α H (kvs++b) (xs++c)
 |_,_,_,_,.nil,h=>h
 |_,_,_,_,.cons hk e a d r l,h=>.cons hk e a d r (DenN.append l h)
def Ww(l:DenN X.K α H kvs xs)(c:kN k=some nk)(e:qZ nk<=4)(m:Den X.K α H k (.ref a))(f:Den X.K α H d v)(r:RelV v u):DenN X.K α H (putK kvs k d) (storedH xs nk a u):=by
 unfold putK;have b:=UW l c;by_cases h:(look kvs k).isSome=true
 .rw[iP h];rw[h]at b;obtain⟨p,j⟩:=í.mp b;rw[storedH_old j];exact UX l c f r
 .rw[iN h]
  have i:atKey xs nk=none:=by
   cases z:atKey xs nk with
   |none=>rfl
   |some p=>rw[z]at b;exact absurd b.symm h
  rw[storedH_new i];exact l.append (.cons c e m f r .nil)
end
section
variable{X:Cx}{a o i:Expr}
def NH(I:↑2):sysModules<s.heap.objs.size:=lt_trans ↑3 ((I.mod.glob.keeps I.bk).lt)
theorem Wd.put(w:Wd gg α S H)(f:H p=none)(q:ObD gg (α++[p]) (jS H p ho) p m):Ext α H (α++[p]) (jS H p ho)/\Wd gg (α++[p]) (S++[m]) (jS H p ho):=by
 have x:=w.newx (o:=ho) f;have s:=w.new (o:=ho) f;have k:=w.fresh f;refine⟨⟨⟨⟨[p],rfl⟩,x.tup,x.frz⟩,λb r=>?_,x.keep,x.has⟩,⟨?_,?_,λl c n d e=>?_⟩⟩
 .rcases å.mp r with h|h
  .exact .inl h
  .rw[mS.mp h];exact .inr f
 .rw[lA,lA,w.len];rfl
 .exact Ĥ.mpr ⟨w.nd,by simp,λa u c t=>by rw[mS.mp t];rintro rfl;exact k u⟩
 .by_cases j:l<α.length
  .rw[á j]at d;rw[á (by rw[<-w.len];exact j)]at e;exact(s.obj l c n d e).move (Ex0.grow α [p] _) rfl
  .have i:l=α.length:=by
    have:=(gS.mp d).1;rw[lA,lS]at this
    lia
   subst i;rw[é (à _),sub_self]at d;rw[é (by rw[w.len];exact à _),w.len,sub_self]at e;cases d;cases e;exact q
noncomputable def RZ(S:Sto):R Er:=.ok (.val (.loc ↑0)) (S++[.dic []])
def AM:yI X W (.Dict [] [] pos) (λ_ S=>RZ S):=by
 refine⟨λσ H Q=> ∀p,H p=none->Q (.ref p) (jS H p (.dK [])),λpins s σ H Q I h=>?_,λα c S σ H Q wd sl q p b=>?_⟩
 .exact wpAny_Dict_empty ⟨.ref ↑1,_,I.laid (o:=.dK []) (λ_ _ q=>hP0 _ q) (à _)
   ⟨zero_le _,Ċ.mpr (Ne.symm (ê (NH I))),[],.nil,Heap.DictOf.new s.heap⟩,rfl,h _ (I.hok.fresh (à _))⟩
 .obtain⟨x,a⟩:=wd.put (m:=.dic []) b (.inl ⟨[],yE,.nil⟩);exact q _ _ _ x a (DenE.val (eY (by rw[<-wd.len,é (à _),sub_self];rfl)))
def NL(S:Sto):Er->Option (Nat×List (MV×MV))
 |.val (.loc l)=>match S[l]? with
  |some (.dic kvs)=>if kvs.all (λp=>ND p.1)=true then some (l,kvs)else none
  |_=>none
 |_=>none
def keyOk(k:MV):Bool:=ND k&&(match kN k with |some nk=>decide (qZ nk<=4)|none=>false)
def NN(h:keyOk k=true): ∃a,kN k=some a/\qZ a<=4/\ND k=true:=by
 unfold keyOk at h;rw[aE]at h
 cases z:kN k with
 |none=>rw[z]at h;exact absurd h.2 xF0
 |some a=>rw[z]at h;exact⟨a,rfl,ö h.2,h.1⟩
def Ck(wd:Wd X.g α S H)(e:NL S r=some (l,kvs))(d:DenX X.K α H r x):
  ∃c xs,x=.ref c/\α[l]? =some c/\S[l]? =some (.dic kvs)/\DD X H c xs/\DenN X.K α H kvs xs:=by
 unfold NL at e;split at e
 .rename_i n;obtain⟨c,rfl,h⟩:=iL d;split at e
  .rename_i i a;split at e
   .rename_i b;obtain⟨rfl,rfl⟩:=Prod.mk.inj (â e);obtain⟨xs,f,l⟩:=zCX (S:=S) (wd.obj _ c _ h a) b;exact⟨c,xs,rfl,h,a,f,l⟩
   .cases e
  .cases e
 .cases e
abbrev zCY(X:Cx)(b:Bool):R2:=λx y H Q=> ∃(α:B9)(kvs:Z0)(xs:List (NK×Addr×Value))(a d:Addr)(k:MV)(nk:NK),x=.ref a/\y=.ref d/\DD X H d xs/\DenN X.K α H kvs xs/\kN k=some nk/\qZ nk<=4/\Den X.K α H k (.ref a)/\
 Q (.bl (if b=true then !(look kvs k).isSome else(look kvs k).isSome)) H
def QI{c:Type}[DecidableEq c]{knd:HeapKind prog w c}{a:Addr}{k:c}{xs:List (c×Addr×Ļ)}(f:knd.room A.in1)(b:knd.is s.heap k a)(i:(d==sysModules)=false)
  (hm:s.heap.DictOfH knd d xs) (h:Q (atKey xs k).isSome {s with toks:=s.toks+knd.draws k}):wpAny (model prog w) A (contains (.ref d) (.ref a)) Q E s:=by
 unfold contains
 try with_reducible refine ú ?_
 refine wB (Ĩ hm.typeIs slot_dict_contains.lookup ?_);show wpAny _ _ (if(some (Value.builtin "dict.__contains__")==some Value.none)=true then _ else _) _ E s;rw[iN (by rw[beq_builtin_none];exact xF0)];refine wB (wpAny_callSpecialUnlessNone?_slot (name:=Str.ofString "__contains__") hm.typeIs slot_dict_contains (ð slot_dict_contains hm.typeIs entry_dict_contains ?_ (args_dict_contains _ _)));show wpAny _ _ (dictGet d (.ref a) >>= _) _ _ s;refine wB (wpAny_dictGet_heap f b hm ?_)
 cases e:atKey xs k with
 |some p=>
  rw[e]at h;show wpAny _ _ (ret (.bool true)) _ _ _;exact wP ⟨_,rfl,Ă h⟩
 |none=>
  rw[e]at h;show wpAny _ _ (Builtin.Dict.pendingKey? d (.ref a) >>= _) _ _ _;exact wB (wpAny_pendingKey_other i (wP ⟨_,rfl,Ă h⟩))
theorem U3(p:X.A.units+64<cLine):OpR X (compareOp .In) (zCY X false):=by intro pins s σ H x y v u Q I f n h;obtain⟨α,b,xs,a,d,k,r,rfl,rfl,o,l,c,e,m,q⟩:=h;cases f;cases n;obtain⟨i,_,j⟩:=UV I o l;show wpAny _ _ (do return Value.bool (<-contains (.ref d) (.ref a))) _ _ s;refine wB (QI (knd:=sP X.prog X.w) (show X.A.units+1+4<cLine by omega) ⟨NG I c m rfl,e⟩ j i (wP ⟨.bl (look b k).isSome,H,I.kept (t':=_) (λ_ _ z=>z),?_,q⟩));rw[UW l c];rfl
def Jo(a:Bool)(p q:Er)(S:Sto):R Er:=match p with
 |.val k=>match NL S q with
  |some (_,kvs)=>if keyOk k=true then .ok (.val (.bl (if a=true then !(look kvs k).isSome else(look kvs k).isSome))) S else .no
  |none=>.no
 |_=>.no
def UY(h:ND k=true)(d:Den X.K α H k x): ∃a,x=.ref a:=by
 cases k with
 |tup ds=>obtain⟨a,_,rfl,_⟩:=wD d;exact⟨a,rfl⟩
 |_=>exact absurd h xF0
def Wx:YH X W (zCY X neg) (Jo neg):=by
 intro p q x y α S H Q wd d m a;unfold Jo at a;split at a
 .rename_i k;split at a
  .rename_i l b e;split at a
   .rename_i h;obtain⟨j,s,i,n⟩:=NN h;obtain⟨c,xs,rfl,_,_,r,o⟩:=Ck wd e m;obtain⟨f,rfl⟩:=UY (X:=X) (α:=α) (H:=H) n d;exact⟨α,b,xs,f,c,k,j,rfl,rfl,r,o,s,i,d,Post.val a wd (gP _)⟩
   .exact a.elim
  .exact a.elim
 .exact a.elim
def U4(d:X.A.units+64<cLine)(k:yI X W a f)(h:yI X W b g)(i:behindInMarks .In b=false:=by with_unfolding_all rfl):MQ X W (.Compare a [.In] [b] pos) (λc S=>((f c S).bind λp j=>(g c j).bind λq e=>Jo false p q e).bind jW):=rC (U3 d) Wx k h i
def zCZ(X:Cx):TSet:=λo i v H Q=> ∃(α:B9)(kvs:Z0)(xs:List (NK×Addr×Ļ))(a d:Addr)(k:MV)(nk:NK),o=.ref d/\i=.ref a/\DD X H d xs/\DenN X.K α H kvs xs/\kN k=some nk/\qZ nk<=4/\Den X.K α H k (.ref a)/\xs.length<sizeLine/\
 ∀u,RelV v u->Q (jS H d (DN X.prog X.w d (storedH xs nk a u)))
def Cm{k:NK}{a:Addr}:(storedH xs k a u).length<=xs.length+1:=by
 cases h:atKey xs k with
 |none=>rw[storedH_new h,lA];exact à _
 |some p=>rw[storedH_old h,lM];exact le_succ _
theorem Jp(hu:X.A.units+64<cLine):Ud X (zCZ X):=by
 intro pins s σ H o i v ov iv u Q I U S rv h;obtain⟨α,T,xs,a,d,k,Y,rfl,rfl,C,l,F,e,J,hz,q⟩:=h;cases U;cases S;obtain⟨O,c,E⟩:=UV I C l;refine wpAny_setItem_heap (knd:=sP X.prog X.w) (show X.A.units+1+4<cLine by omega) ⟨NG I F J rfl,e⟩ O (λh' p f=>⟨_,?_,q u rv⟩) c;have Z:zAZ (H d):=by rcases C with z|⟨_,z⟩<;>rw[z]<;>exact trivial
 obtain⟨y,es,P,j,G,W,K,_,hn⟩:=p;refine I.write Z (.inl rfl) (λb uo N L=>(f.2 b N).trans L) ⟨y,j⟩ ?_;refine⟨⟨by have:=Cm (xs:=xs) (k:=Y) (a:=a) (u:=u);lia,E,y,es,P,j,G,W,K,hn⟩,⟨y,j⟩,?_⟩;rintro h1 h2 ⟨M,z2,B,n,t,m,r⟩ D;exact⟨M,z2,B,n,t,D B m,r⟩
def SC(p q:Er)(d:MV)(ρ:Rho)(S:Sto):R Rho:=match q with
 |.val k=>match NL S p with
  |some (l,kvs)=>if keyOk k=true/\kvs.length<1000000 then .ok ρ (S.set l (.dic (putK kvs k d)))else .no
  |none=>.no
 |_=>.no
theorem DenN.length: ∀{kvs xs},DenN X.K α H kvs xs->xs.length=kvs.length
 |_,_,.nil=>rfl
 |_,_,.cons _ _ _ _ _ l=>by rw[lC,lC,DenN.length l]
def Wy(T:X.A.units+64<cLine)(ho:yI X W o f)(hi:yI X W i g)
  (ha: ∀v,assign (.Subscript o i pos) X.env v=(do
   let j <-holding [v] (eval o X.env);let s <-holding [v,j] (eval i X.env)
   standAt pos
   holding [v,j,s] (setItem j s v)
   release [v,j,s] []):=by intro _;rfl):B4 X W (.Subscript o i pos) (λd b S=>(f b S).bind λp B=>(g b B).bind λq O=>SC p q d b O):=by
 obtain⟨to,ho,fo⟩:=ho;obtain⟨ti,hi,fi⟩:=hi;refine⟨_,Bd ho hi (Jp T) ha,λα b S σ H d v Q wd sl de q=>fo α b S σ H _ wd sl (q.bind λu p B t Z e1 n w1 U q1=>fi t b B σ Z _ w1 (sl.ext n) ((q1.shift n).bind λu2 p2 O h H2 e2 m z I a=>?_))⟩
 replace a:=a.shift m
 have E:=DenX.ext m U.1;have r:=(de.ext n).ext m;unfold SC at a;split at a
 .rename_i k;split at a
  .rename_i l C e;split at a
   .rename_i J;obtain⟨N,P,L,h3⟩:=NN J.1;obtain⟨c,xs,rfl,K,hS,G,F⟩:=Ck z e E;obtain⟨M,rfl⟩:=UY h3 I.1;refine⟨h,C,xs,M,c,k,N,rfl,rfl,G,F,P,L,I.1,?_,λu Y=>?_⟩
    .rw[F.length];exact æ J.2 (fits (à _))
    .have y:=z.writex K G.nf (o:=DN X.prog X.w c (storedH xs N M u));have D:=((sl.ext n).ext m).ext y;exact a σ h _ y (z.write K G.nf (.inr ⟨_,yE,(Ww F P L I.1 r Y).ex0 y.toEx0⟩)) D
   .exact a.elim
  .exact a.elim
 .exact a.elim
end
def FsD(g:Gm)(α:B9)(H:Hp)(d:Option Addr)(fs:List (Str×MV)):Prop:=fs=[]\/ ∃b a c,d=some b/\H b=some (.frz c (.xd a))/\DenF g.K α H fs a
abbrev WE(g:Gm)(E:XK):XW:=λc fs _ α H=> ∀C d,g.mg c=some (.ref C)->FsD g α H d fs->E (.ref C) d H
noncomputable def U5:MV->Bool
 |.non=>true
 |.bl _=>true
 |.int _=>true
 |.str _=>true
 |_=>false
def Post.wmono[Dn β τ](f: ∀c fs S α' H',W c fs S α' H'->W' c fs S α' H'): ∀{m:R β}{Q},Post g W α H m Q->Post g W' α H m Q
 |.ok b S,Q,q=>q
 |.exc c fs S,_,q=>λα' H' x w=>f _ _ _ _ _ (q α' H' x w)
 |.no,_,q=>q
def XCl(K:R0)(C:Addr)(f:A0)(a:Option Ļ):Prop:=
 ∃j q N bs c i sub m b o e d p h k,K.lookup C=some (excClassObj j q C N bs f c i sub m b o e d p h k "ValueError.__new__")/\PySem.W.nsOkIn K N=true/\PySem.W.nsIn K N "__init__"=some a/\(∀n∈qn,PySem.W.nsIn K N n=some none)/\c=true
def XEach(K:R0)(mg:L0)(M:Addr):List (Str×Addr)->Prop
 |[]=>True
 |(c,C)::r=>(mg c=some (.ref C)/\ ∃i,XCl K C (.ref M::zEU) i)/\XEach K mg M r
theorem XEach.at{K:R0}: ∀{cs},XEach K mg M cs-> ∀{c C},(c,C)∈cs->mg c=some (.ref C)/\ ∃i,XCl K C (.ref M::zEU) i
 |_::r,h,c',C',z=>by
  rcases mC.mp z with z|z
  .cases z;exact h.1
  .exact XEach.at h.2 z
def zEV(g:Gm)(n:Nat)(F:List MV->Sto->R Er):Sp:=λb H Q E=> ∃α S a,Wd g α S H/\DenL g.K α H a b/\a.length=n/\Post g (WE g E) α H (F a S) Q
def Ff(n:Nat)(F:List MV->Sto->R Er)(rs:List Er)(S:Sto):R Er:=if rs.length=n then(match F (zP rs S).1 (zP rs S).2 with
 |.ok r S2=>bY S r S2
 |.exc c fs S2=>if fs.all (λp=>U5 p.2)=true then(bY S (.val .non) S2).bind λ_ a=>.exc c fs a else .no
 |.no=>.no)else .no
section
variable{K:R0}
def _root_.L2.FnOk.noX(G:FnOk P w K mg base (CXe P w) k f fd ps (zEV g n F)):FnOk P w K mg base PZ k f fd ps (Ba g n F):=by
 have up: ∀{vs H Q}, ∀{E},Ba g n F vs H Q E->zEV g n F vs H Q E0:=λ⟨α,S,j,v,o,q,p⟩=>⟨α,S,j,v,o,q,p.wmono λ_ _ _ _ _ z=>z.elim⟩
 refine⟨λvs H Q E h=>G.len vs H Q E0 (up h),λA a s H b m vs Q E d i u t h=>codeAny_mono (G.run A a s H b m vs Q E0 d i u t (up h)) λr y c=>?_⟩
 cases r with
 |error e=>
  obtain⟨_,_,_,_,_,_,_,_,_,_,_,_,_,_,_,z⟩:=c;exact z
 |ok fl=>cases fl<;>exact c
end
end M
end L2
namespace L2
open PySem PySem.Spec PyProof.Rows
structure Out(X:Cx)(pins:M0)(H:Hp)(s:ĺ)(b:Addr):Prop where
 s0:X.s₀.heap.get? b=none
 h:H b=none
 pin: ∀p∈X.pn++pins,p.1≠b
 fld: ∃o vs,s.heap.get? b=some o/\o.data=.fields vs
section
variable{e:Addr}
def Out.ne(o:Out X pins H s b)(d:s.heap.get? c=some oc)(nf: ∀a,oc.data≠.fields a):c≠b:=λz=>by obtain⟨h,a,f,e⟩:=o.fld;rw[z,f]at d;cases d;exact nf a e
def Out.loc(o:Out X pins H s b)(I:↑2):X.env.locals≠b:=by obtain⟨m,⟨d,es,f,c,a,_⟩,_⟩:=I.loc;exact o.ne c λe z=>by rw[a]at z;cases z
def Out.cell(o:Out X pins H s b)(I:↑2)(d:X.env.cells.lookup x=some c):c≠b:=by obtain⟨v,h,e,a⟩:=I.cell x c d;exact o.ne e λf z=>by rw[a]at z;cases z
def HdA(A:Around)(H:Hp):Prop:= ∃e b u,A.handled=some (.ref e)/\H e=some (.frz b u)/\ ∃a,b.data=.fields a/\a[2]? =some .none
end
end L2
namespace L2
namespace M
open PySem PySem.Spec PyProof.Rows
noncomputable def zDA(i:Nat):Fl->Sto->R Fl
 |.next ρ,S=>.ok (.next (ρ.set i none)) S
 |.ret r,S=>.ok (.ret r) S
 |.brk ρ,S=>.ok (.brk (ρ.set i none)) S
 |.cont ρ,S=>.ok (.cont (ρ.set i none)) S
def U6(b:K0)(i:Nat)(a:Er->Sto->R Fl)(d:AY)(ρ:Rho):R Er->R Fl
 |.ok r S=>a r S
 |.exc c fs S=>if c∈b then(noX (d (ρ.set i (some (.loc S.length))) (S++[.ins c fs]))).bind (zDA i)else .no
 |.no=>.no
def E2(X:Cx)(W:XW)(e:K0)(i:Nat)(f:AY)(ρ:Rho)(α:B9)(H:Hp)(D:Ends):XK:=λa d H'=> ∃c fs b α' C,a=.ref C/\X.mg c=some (.ref C)/\Ext α H α' H'/\Wd X.g α' b H'/\FsD X.g α' H' d fs/\
 PostS X.g W α H D (if c∈e then(noX (f (ρ.set i (some (.loc b.length))) (b++[.ins c fs]))).bind (zDA i)else .no)
end M
end L2
namespace Srt
open PySem PyProof.Rows
def Fg:Bool->Keyed->Array Keyed->Nat->Nat->Nat->StateT SortSt Sem (Option Nat):=sortPriv% PySem.Builtin.gallop
def QJ:Nat->StateT SortSt Sem Unit:=sortPriv% PySem.Builtin.setMinGallop
section
def YT{st:σ}(h:Q () st):wpS M A E s (liftM (rule x)) Q st:=wpS_lift (Ģ ⟨rfl,h⟩)
end
end Srt
namespace Srt
variable{β:Type}{le:β->β->Prop}
structure Two(le:β->β->Prop)(T out xs ys:List β):Prop where
 hx:(out++xs).Pairwise le
 hy:(out++ys).Pairwise le
 pm:(out++(xs++ys)).Perm T
structure TwoR(le:β->β->Prop)(T xs ys R:List β):Prop where
 hx:(xs++R).Pairwise le
 hy:(ys++R).Pairwise le
 pm:(xs++ys++R).Perm T
end Srt
namespace Srt
open PySem PyProof.Rows
abbrev SM:=StateT SortSt Sem
abbrev G3:=Option (Option Nat)×Nat×Nat
end Srt
namespace Srt
open PySem PyProof.Rows
section
variable{M:Model}{A:Around}{E:VP}{s:ĺ}
structure Cmp(M:Model)(A:Around)(E:VP)(s:ĺ)(kd:SortKind)(D:Keyed->Prop)(lt:Keyed->Keyed->Bool):Prop where
 go: ∀x y,D x->D y-> ∀st:SortSt,kindOf st=kd-> ∀Q:Option Bool->SortSt->Prop,Q (some (lt x y)) st->wpS M A E s (lt' x y) Q st
 tr: ∀x y z,lt y x=false->lt z y=false->lt z x=false
 as: ∀x y,lt x y=true->lt y x=false
abbrev Le(lt:Keyed->Keyed->Bool)(x y:Keyed):Prop:=lt y x=false
def Cmp.rf(C:Cmp M A E s kd D lt)(x):Le lt x x:=by
 show lt x x=false
 cases h:lt x x with
 |false=>rfl
 |true=>exact absurd h (by rw[C.as x x h];simp)
def SL(lt:Keyed->Keyed->Bool)(l:List Keyed)(b n:Nat):Prop:= ∀i j x y,i<=j->j<n->l[b+i]? =some x->l[b+j]? =some y->lt y x=false
def Fi{st:SortSt}(e:v.toList[i]? =some x)(h:Q x st):wpS M A E s (elem' v i) Q st:=by
 rw[elem'_eq];have:v[i]? =some x:=by rw[<-Ā];exact e
 rw[this];exact wpS_pure h
def D7{v:Array Keyed}(h:i<v.size): ∃x,v.toList[i]? =some x:=⟨v.toList[i]'(by simpa using h),gE0 _⟩
end
end Srt
namespace Srt
open PySem PyProof.Rows
abbrev V:=Array Keyed
abbrev L6:=Option V×V×Nat×Nat×Nat×Nat
noncomputable abbrev dnL(a b o:V)(i j:Nat):V:=o++a.extract i a.size++b.extract j b.size
noncomputable abbrev laL(a b o:V)(i j:Nat):V:=o++b.extract j b.size++a.extract i a.size
def one1(a b:V)(g:Nat)(c:L6):SM (ForInStep L6):=
 elem' b c.2.2.2.1 >>= λy=>elem' a c.2.2.1 >>= λx=>lt' y x >>= λr=>match r with
  |some q=>if q=true then elem' b c.2.2.2.1 >>= λy=>
     if(c.2.2.2.1+1==b.size)=true then pure (.done (some (dnL a b (c.2.1.push y) c.2.2.1 (c.2.2.2.1+1)),c.2.1.push y,c.2.2.1,c.2.2.2.1+1,0,c.2.2.2.2.2+1))
     else if c.2.2.2.2.2+1>=g then pure (.done (none,c.2.1.push y,c.2.2.1,c.2.2.2.1+1,0,c.2.2.2.2.2+1))
     else pure (.yield (none,c.2.1.push y,c.2.2.1,c.2.2.2.1+1,0,c.2.2.2.2.2+1))
    else elem' a c.2.2.1 >>= λx=>
     if(c.2.2.1+1+1==a.size)=true then pure (.done (some (laL a b (c.2.1.push x) (c.2.2.1+1) c.2.2.2.1),c.2.1.push x,c.2.2.1+1,c.2.2.2.1,c.2.2.2.2.1+1,0))
     else if c.2.2.2.2.1+1>=g then pure (.done (none,c.2.1.push x,c.2.2.1+1,c.2.2.2.1,c.2.2.2.2.1+1,0))
     else pure (.yield (none,c.2.1.push x,c.2.2.1+1,c.2.2.2.1,c.2.2.2.2.1+1,0))
  |_=>pure (.done (some (dnL a b c.2.1 c.2.2.1 c.2.2.2.1),c.2.1,c.2.2.1,c.2.2.2.1,c.2.2.2.2.1,c.2.2.2.2.2))
def in1(a b:V)(t g:Nat)(c:L6):SM L6:=forIn [0:t] c λ_ c=>one1 a b g c
end Srt
namespace Srt
open PySem PyProof.Rows
def Sg(st a:SortSt):Prop:= ∃g,a=SortSt.mk' (kindOf st) (arrOf st) (pendingOf st) g (failedOf st)
theorem Sg.kind{st:SortSt}(h:Sg st st'):kindOf st'=kindOf st:=by obtain⟨g,rfl⟩:=h;rfl
section
abbrev TwoA(lt:Keyed->Keyed->Bool)(a b o:V)(i j:Nat):Prop:=Two (Le lt) (a.toList++b.toList) o.toList (a.toList.drop i) (b.toList.drop j)
def FinA(lt:Keyed->Keyed->Bool)(a b r:V):Prop:=r.toList.Pairwise (Le lt)/\r.toList.Perm (a.toList++b.toList)
def TwoA.len(h:TwoA lt a b o i j):o.size+((a.size - i)+(b.size - j))=a.size+b.size:=by have:=h.pm.length_eq;simpa [lA,Ć]using this
def I1(lt:Keyed->Keyed->Bool)(a b o:V)(i j:Nat):Prop:=i+1<a.size/\j<b.size/\TwoA lt a b o i j
end
end Srt
namespace Srt
open PySem PyProof.Rows
abbrev H5:=Option V×Nat×Nat×V×Nat
abbrev H6:=Option V×Nat×Nat×V×Nat×Nat
abbrev H7:=Option V×Nat×Nat×V×Nat×Nat×Nat
noncomputable abbrev zDB(a b o:V)(i j:Nat):V:=a.extract 0 i++b.extract 0 j++o.reverse
noncomputable abbrev fbH(a b o:V)(i j:Nat):V:=b.extract 0 j++a.extract 0 i++o.reverse
def hw4(a b o:V)(i j g p q:Nat):SM (ForInStep H7):=
 elem' a (i - 1) >>= λx=>if(i - 1==0)=true then pure (.done (some (zDB a b (o.push x) (i - 1) j),i - 1,j,o.push x,g,p,q))
  else if(decide (p<7)&&decide (q<7))=true then pure (.done (none,i - 1,j,o.push x,g,p,q))else pure (.yield (none,i - 1,j,o.push x,g,p,q))
def hw3(a b o:V)(i j g p q:Nat):SM (ForInStep H7):=
 elem' b (j - 1) >>= λy=>if(j - 1==1)=true then pure (.done (some (fbH a b (o.push y) i (j - 1)),i,j - 1,o.push y,g,p,q))
  else elem' a (i - 1) >>= λx=>Fg true x b 0 (j - 1) (j - 1 - 1) >>= λr=>match r with
   |some k=>if j - 1 - k>0 then
      if(k==1)=true then pure (.done (some (fbH a b (o.push y++(b.extract k (j - 1)).reverse) i k),i,k,o.push y++(b.extract k (j - 1)).reverse,g,p,j - 1 - k))
      else if(k==0)=true then pure (.done (some (zDB a b (o.push y++(b.extract k (j - 1)).reverse) i k),i,k,o.push y++(b.extract k (j - 1)).reverse,g,p,j - 1 - k))
      else hw4 a b (o.push y++(b.extract k (j - 1)).reverse) i k g p (j - 1 - k)
     else hw4 a b (o.push y) i (j - 1) g p (j - 1 - k)
   |_=>pure (.done (some (zDB a b (o.push y) i (j - 1)),i,j - 1,o.push y,g,p,q))
def hw2(a b o:V)(i j g p q:Nat):SM (ForInStep H7):=
 QJ g >>= λ_=>elem' b (j - 1) >>= λy=>Fg false y a 0 i (i - 1) >>= λr=>match r with
  |some k=>if i - k>0 then
     if(k==0)=true then pure (.done (some (zDB a b (o++(a.extract k i).reverse) k j),k,j,o++(a.extract k i).reverse,g,i - k,q))
     else hw3 a b (o++(a.extract k i).reverse) k j g (i - k) q
    else hw3 a b o i j g (i - k) q
  |_=>pure (.done (some (zDB a b o i j),i,j,o,g,p,q))
section
abbrev TwoH(lt:Keyed->Keyed->Bool)(a b o:V)(i j:Nat):Prop:=TwoR (Le lt) (a.toList++b.toList) (a.toList.take i) (b.toList.take j) o.toList.reverse
theorem TwoH.len(h:TwoH lt a b o i j)(d:i<=a.size)(c:j<=b.size):o.size+(i+j)=a.size+b.size:=by
 have:=h.pm.length_eq;simp only[lA,lT,Ğ,ā]at this
 lia
def J1(lt:Keyed->Keyed->Bool)(a b o:V)(i j:Nat):Prop:=1<=i/\i<=a.size/\2<=j/\j<=b.size/\TwoH lt a b o i j
def R6(lt:Keyed->Keyed->Bool)(a b:V)(n:Nat)(c:H6):Prop:= ∃i j o p q,c=(none,i,j,o,p,q)/\J1 lt a b o i j/\n<=o.size
def S6(lt:Keyed->Keyed->Bool)(a b:V)(n:Nat)(c:H6):Prop:=(∃r e,c=(some r,e)/\FinA lt a b r)\/R6 lt a b n c
end
end Srt
namespace Srt
open PySem PyProof.Rows
abbrev C2:=Option (Option Nat)×Nat
abbrev C3:=Option (Option Nat)×Nat×Nat
def U7(lo a n:Nat):SM C2:=forIn [a:n] ((none,a):C2) λ_ c=>ltAt' (lo+c.2) (lo+c.2 - 1) >>= λo=>match o with
 |some q=>if q=true then pure (.done (none,c.2))else pure (.yield (none,c.2+1))
 |_=>pure (.done (some none,c.2))
def tl3(lo m n:Nat):SM (Option Nat):=reverseSlice' lo (lo+m) >>= λ_=>U7 lo m n >>= λc=>match c.1 with
 |some r=>pure r
 |none=>pure (some c.2)
def U8(lo a n:Nat):SM C3:=forIn [a:n] ((none,a,0):C3) λ_ c=>ltAt' (lo+c.2.1) (lo+c.2.1 - 1) >>= λo=>match o with
 |some q=>if q=true then
    if c.2.2>0 then reverseSlice' (lo+c.2.1 - (c.2.2+1)) (lo+c.2.1) >>= λ_=>pure (.yield (none,c.2.1+1,0))else pure (.yield (none,c.2.1+1,0))
   else ltAt' (lo+c.2.1 - 1) (lo+c.2.1) >>= λo=>match o with
    |some q=>if q=true then pure (.done (none,c.2.1,c.2.2))else pure (.yield (none,c.2.1+1,c.2.2+1))
    |_=>pure (.done (some none,c.2.1,c.2.2))
 |_=>pure (.done (some none,c.2.1,c.2.2))
def U9(lo m n:Nat):SM (Option Nat):=liftM (rule "list.sort.descending-run") >>= λ_=>U8 lo (m+1) n >>= λc=>match c.1 with
 |some r=>pure r
 |none=>if c.2.2>0 then reverseSlice' (lo+c.2.1 - (c.2.2+1)) (lo+c.2.1) >>= λ_=>tl3 lo c.2.1 n else tl3 lo c.2.1 n
def zDC(lo n:Nat):SM (Option Nat):=U7 lo 1 n >>= λc=>match c.1 with
 |some r=>pure r
 |none=>if(c.2==n)=true then pure (some c.2)else if c.2>1 then ltAt' lo (lo+c.2 - 1) >>= λo=>(match o with
    |some q=>if q=true then pure (some c.2)else reverseSlice' lo (lo+c.2) >>= λ_=>U9 lo c.2 n
    |_=>pure none)
   else U9 lo c.2 n
theorem QK(lo n):countRun' lo n=zDC lo n:=by kernel_rfl
def binI(lo k:Nat):SM (Option Bool×Nat×Nat):=forIn [0:k] ((none,0,k):Option Bool×Nat×Nat) λ_ c=>
 if c.2.1>=c.2.2 then pure (.done (none,c.2.1,c.2.2))else ltAt' (lo+k) (lo+(c.2.1+c.2.2) / 2) >>= λo=>match o with
  |some q=>if q=true then pure (.yield (none,c.2.1,(c.2.1+c.2.2) / 2))else pure (.yield (none,(c.2.1+c.2.2) / 2+1,c.2.2))
  |_=>pure (.done (some false,c.2.1,c.2.2))
def zDD(lo n ok:Nat):SM Bool:=(forIn [max ok 1:n] ((none,()):Option Bool×Unit) λk _=>binI lo k >>= λc=>match c.1 with
  |some r=>pure (.done (some r,()))
  |none=>moveDown' (lo+k) (lo+c.2.1) >>= λ_=>pure (.yield (none,()))) >>= λc=>match c.1 with
 |some r=>pure r
 |none=>pure true
theorem KW(lo n ok):binarySort' lo n ok=zDD lo n ok:=by kernel_rfl
noncomputable def Kx(d:Keyed)(v:V)(i:Nat):Keyed:=(v[i]?).getD d
def AN(h:v[i]? =u[j]?):Kx d v i=Kx d u j:=by unfold Kx;rw[h]
def IR(b:j<=v.size)(k):Kx d (mirror v i j ((j - i) / 2)) k=if i<=k/\k<j then Kx d v (i+j - 1 - k)else Kx d v k:=by
 have e:=getElem?_mirror_all (i:=i) b k;by_cases a:i<=k/\k<j
 .rw[iP a]at e ⊢; exact AN e
 .rw[iN a]at e ⊢; exact AN e
def SD(hs:src<v.size)(c:m<=src)(k):
  Kx d (bubble v src m) k=if k=src - m then Kx d v src else if src - m<k/\k<=src then Kx d v (k - 1)else Kx d v k:=by
 have e:=getElem?_bubble hs m c k;by_cases b:k=src - m
 .rw[iP b]at e ⊢; exact AN e
 .rw[iN b]at e ⊢;by_cases a:src - m<k/\k<=src
  .rw[iP a]at e ⊢; exact AN e
  .rw[iN a]at e ⊢; exact AN e
structure SB(a₀:V)(kd:SortKind)(pd:Array (Nat×Nat×Nat))(f:V)(lo:Nat)(st:SortSt):Prop where
 pm:(arrOf st).Perm a₀
 kind:kindOf st=kd
 fl:failedOf st=none
 pd:pendingOf st=pd
 fx: ∀i,i<lo->(arrOf st)[i]? =f[i]?
section
variable{pd:Array (Nat×Nat×Nat)}{lo:Nat}{st:SortSt}
def SB.size(h:SB a₀ kd pd f lo st):(arrOf st).size=a₀.size:=h.pm.size_eq
theorem SB.rev(h:SB a₀ kd pd f lo st)(hi:lo<=i)(b:j<=a₀.size):SB a₀ kd pd f lo (setArr st (mirror (arrOf st) i j ((j - i) / 2))):=
 ⟨(mirror_perm _ _ _ _).trans h.pm,h.kind,h.fl,h.pd,λk a=>by rw[getElem?_mirror_all (by rw[h.size];exact b),iN #[0]];exact h.fx k a⟩
theorem SB.bub(h:SB a₀ kd pd f lo st)(hi:lo+m<=i)(b:i<a₀.size):SB a₀ kd pd f lo (setArr st (bubble (arrOf st) i m)):=
 ⟨(bubble_perm _ _ _).trans h.pm,h.kind,h.fl,h.pd,λk a=>by rw[getElem?_bubble (by rw[h.size];exact b) _ #[0],iN #[0],iN #[0]];exact h.fx k a⟩
def GU(C:Cmp M A E s kd D lt)(h:SB a₀ kd pd f lo st)(b: ∀x,x∈a₀.toList->D x)(hi:i<a₀.size)(k:j<a₀.size)
  (hq:Q (some (lt (Kx d (arrOf st) i) (Kx d (arrOf st) j))) st):wpS M A E s (ltAt' i j) Q st:=by
 obtain⟨x,ex⟩:=D7 (by rw[h.size];exact hi);obtain⟨y,a⟩:=D7 (by rw[h.size];exact k);have m:=(Array.perm_iff_toList_perm.mp h.pm).mem_iff.mp (î ex);have c:=(Array.perm_iff_toList_perm.mp h.pm).mem_iff.mp (î a);have n:Kx d (arrOf st) i=x:=by unfold Kx;rw[<-Ā,ex];rfl
 have e:Kx d (arrOf st) j=y:=by unfold Kx;rw[<-Ā,a];rfl
 rw[n,e]at hq;refine wpS_bind (wpS_get ?_);exact wpS_bind (Fi ex (wpS_bind (Fi a (C.go x y (b x m) (b y c) st h.kind _ hq))))
def UZ(h:Q () (setArr st (mirror (arrOf st) i j ((j - i) / 2)))):wpS M A E s (reverseSlice' i j) Q st:=by rw[reverseSlice'_eq];exact wpS_modify h
def Up(lt:Keyed->Keyed->Bool)(d:Keyed)(v:V)(lo n:Nat):Prop:= ∀i j,i<=j->j<n->Le lt (Kx d v (lo+i)) (Kx d v (lo+j))
def Dn(lt:Keyed->Keyed->Bool)(d:Keyed)(v:V)(lo n:Nat):Prop:= ∀i j,i<=j->j<n->Le lt (Kx d v (lo+j)) (Kx d v (lo+i))
theorem Up.step(C:Cmp M A E s kd D lt)(hs:Up lt d v lo x)(h:1<=x)(f:lt (Kx d v (lo+x)) (Kx d v (lo+x - 1))=false):Up lt d v lo (x+1):=by
 intro i j e k;by_cases b:j<x
 .exact hs i j e b
 .have c:j=x:=by lia
  subst c;by_cases a:i=j
  .subst a;exact C.rf _
  .have:=hs i (j - 1) #[0] #[0];rw[show lo+(j - 1)=lo+j - 1 by lia]at this;exact C.tr _ _ _ this f
theorem Fj(C:Cmp M A E s kd D lt)(o: ∀x,x∈a₀.toList->D x)(h:SB a₀ kd pd f lo st)(q:lo+n<=a₀.size)(r:1<=a)(i:a<=n)(hs:Up lt d (arrOf st) lo a)
  (hq: ∀m,a<=m->m<=n->Up lt d (arrOf st) lo m->(m=n\/lt (Kx d (arrOf st) (lo+m)) (Kx d (arrOf st) (lo+m - 1))=true)->Q (none,m) st):wpS M A E s (U7 lo a n) Q st:=by
 refine wpS_forRange (I:=λx c e=>e=st/\c=(none,x)/\Up lt d _ lo x) ?_ ?_ ⟨rfl,rfl,hs⟩
 .rintro x c e j p ⟨rfl,rfl,b⟩;refine wpS_bind (GU (d:=d) C h o #[0] #[0] ?_)
  cases k:lt _ _ with
  |true=>exact wpS_pure (hq x j #[0] b (.inr k))
  |false=>exact wpS_pure ⟨rfl,rfl,b.step C #[0] k⟩
 .rintro c e ⟨rfl,rfl,b⟩;rw[show max a n=n by lia]at b ⊢;exact hq n i (à _) b (.inl rfl)
theorem Up.of_mirror(h:SB a₀ kd pd f lo st)(a:lo+m<=a₀.size)(hs:Dn lt d (arrOf st) lo m):Up lt d (mirror (arrOf st) lo (lo+m) ((lo+m - lo) / 2)) lo m:=by intro i j b c;rw[IR (by rw[h.size];exact a),IR (by rw[h.size];exact a),iP #[0],iP #[0]];have:=hs (m - 1 - j) (m - 1 - i) (by omega) (by omega);rw[show lo+(m - 1 - j)=lo+(lo+m) - 1 - (lo+j) by omega,show lo+_=lo+(lo+m) - 1 - (lo+i) by omega]at this;exact this
theorem On(C:Cmp M A E s kd D lt)(b: ∀x,x∈a₀.toList->D x)(h:SB a₀ kd pd f lo st)(i:lo+n<=a₀.size)(p:1<=m)(e:m<=n)(hs:Dn lt d (arrOf st) lo m)
  (hq: ∀m a,SB a₀ kd pd f lo a->1<=m->m<=n->Up lt d (arrOf a) lo m->Q (some m) a):wpS M A E s (tl3 lo m n) Q st:=by
 refine wpS_bind (UZ ?_);have h':=h.rev (j:=lo+m) (à _) #[0];exact wpS_bind (Fj C b h' i p e (Up.of_mirror h #[0] hs) λk q o c _=>wpS_pure (hq k _ h' #[0] o c))
def zDE(lt:Keyed->Keyed->Bool)(d:Keyed)(v:V)(i j:Nat):Prop:= ∀k l,i<=k->k<j->i<=l->l<j->Le lt (Kx d v k) (Kx d v l)
def Dn.mirror(C:Cmp M A E s kd D lt)(h:SB a₀ kd pd f lo st)(e:j<=a₀.size)(c:zDE lt d (arrOf st) i j)(hs:Dn lt d (arrOf st) lo n):Dn lt d (mirror (arrOf st) i j ((j - i) / 2)) lo n:=by
 have a: ∀k,Le lt (Kx d (PyProof.Rows.mirror (arrOf st) i j ((j - i) / 2)) k) (Kx d (arrOf st) k)/\Le lt (Kx d (arrOf st) k) (Kx d (PyProof.Rows.mirror (arrOf st) i j ((j - i) / 2)) k):=by
  intro k;rw[IR (by rw[h.size];exact e)];split
  .exact⟨c _ _ (by omega) (by omega) (by omega) (by omega),c _ _ (by omega) (by omega) (by omega) (by omega)⟩
  .exact⟨C.rf _,C.rf _⟩
 intro p q b m;exact C.tr _ _ _ (a _).1 (C.tr _ _ _ (hs p q b m) (a _).2)
theorem Wz(C:Cmp M A E s kd D lt)(K: ∀x,x∈a₀.toList->D x)(h:SB a₀ kd pd f lo st)(hn:lo+n<=a₀.size)(L:1<=a)(z:a<=n)(hs:Dn lt d (arrOf st) lo a)
  (hq: ∀m e b,SB a₀ kd pd f lo b->a<=m->m<=n->Dn lt d (arrOf b) lo m->e+1<=m->zDE lt d (arrOf b) (lo+m - (e+1)) (lo+m)->Q (none,m,e) b):wpS M A E s (U8 lo a n) Q st:=by
 unfold U8
 refine wpS_forRange (I:=λx c b=> ∃e,c=(none,x,e)/\SB a₀ kd pd f lo b/\Dn lt d (arrOf b) lo x/\e+1<=x/\zDE lt d (arrOf b) (lo+x - (e+1)) (lo+x)) ?_ ?_
  ⟨0,rfl,h,hs,by lia,λk l L O S P=>by rw[show k=l by lia];exact C.rf _⟩
 .rintro x c b B N ⟨e,rfl,q,o,p,r⟩;dsimp only;have one: ∀v:V,zDE lt d v (lo+(x+1) - (0+1)) (lo+(x+1)):=λv k l L O S P=>by rw[show k=l by lia];exact C.rf _
  refine wpS_bind (GU (d:=d) C q K #[0] #[0] ?_)
  cases G:lt _ _ with
  |true=>
   have H:Dn lt d (arrOf b) lo (x+1):=by
    intro i j u T;by_cases y:j<x
    .exact o i j u y
    .have t:j=x:=by lia
     subst t;by_cases w:i=j
     .subst w;exact C.rf _
     .have:=o i (j - 1) #[0] #[0];rw[show lo+_=lo+j - 1 by lia]at this;exact C.tr _ _ _ (C.as _ _ G) this
   dsimp only;rw[iP rfl];by_cases F:e>0
   .rw[iP F];refine wpS_bind (UZ (wpS_pure ⟨0,rfl,q.rev #[0] #[0],H.mirror C q #[0] r,by lia,one _⟩))
   .rw[iN F];exact wpS_pure ⟨0,rfl,q,H,by lia,one _⟩
  |false=>
   dsimp only;rw[iN (by simp)];refine wpS_bind (GU (d:=d) C q K #[0] #[0] ?_)
   cases J:lt _ _ with
   |true=>exact wpS_pure (hq x e b q B #[0] o p r)
   |false=>
    refine wpS_pure ⟨_,rfl,q,λi j u T=>?_,by lia,λk l W X Z Y=>?_⟩
    .by_cases y:j<x
     .exact o i j u y
     .have t:j=x:=by lia
      subst t;by_cases w:i=j
      .subst w;exact C.rf _
      .have:=o i (j - 1) #[0] #[0];rw[show lo+_=lo+j - 1 by lia]at this;exact C.tr _ _ _ J this
    .by_cases U:k=lo+x
     .subst U;by_cases cl:l=lo+x
      .subst cl;exact C.rf _
      .exact C.tr _ _ _ J (r _ _ #[0] #[0] #[0] #[0])
     .by_cases cl:l=lo+x
      .subst cl;exact C.tr _ _ _ (r k _ #[0] #[0] #[0] #[0]) G
      .exact r _ _ #[0] #[0] #[0] #[0]
 .rintro c b ⟨e,rfl,q,o,p,r⟩;rw[show max a n=n by lia]at o p r ⊢;exact hq n e b q z (à _) o p r
theorem Fk(C:Cmp M A E s kd D lt)(b: ∀x,x∈a₀.toList->D x)(h:SB a₀ kd pd f lo st)(c:lo+n<=a₀.size)(r:m+1<=n)(hs:Dn lt d (arrOf st) lo (m+1))
  (hq: ∀m a,SB a₀ kd pd f lo a->1<=m->m<=n->Up lt d (arrOf a) lo m->Q (some m) a):wpS M A E s (U9 lo m n) Q st:=by
 refine wpS_bind (YT ?_);refine wpS_bind (Wz C b h c #[0] r hs λk e a i u p o t q=>?_);by_cases j:e>0
 .rw[iP j];exact wpS_bind (UZ (On C b (i.rev #[0] #[0]) c #[0] p (o.mirror C i #[0] q) hq))
 .rw[iN j];exact On C b i c #[0] p o hq
theorem Xa(C:Cmp M A E s kd D lt)(p: ∀x,x∈a₀.toList->D x)(h:SB a₀ kd pd f lo st)(u:lo+n<=a₀.size)(G:1<=n)
  (hq: ∀m b,SB a₀ kd pd f lo b->1<=m->m<=n->Up lt d (arrOf b) lo m->Q (some m) b):wpS M A E s (countRun' lo n) Q st:=by
 rw[QK];unfold zDC;refine wpS_bind (Fj (d:=d) C p h u (à 1) G (λi j c F=>by rw[show i=j by lia];exact C.rf _) λm y z o t=>?_);dsimp only;by_cases r:m=n
 .rw[iP (by simpa using r)];exact wpS_pure (hq m st h y z o)
 .rw[iN (by simpa using r)];have e:=t.resolve_left r;by_cases w:m>1
  .rw[iP w];refine wpS_bind (GU (d:=d) C h p #[0] #[0] ?_)
   cases H:lt _ _ with
   |true=>exact wpS_pure (hq m st h y z o)
   |false=>
    have all:zDE lt d (arrOf st) lo (lo+m):=by intro k l K O N L;have v:=o 0 (l - lo) #[0] #[0];have B:=o (k - lo) (m - 1) #[0] #[0];rw[show lo+0=lo by lia,show lo+_=l by lia]at v;rw[show lo+_=k by lia,show lo+_=lo+m - 1 by lia]at B;exact C.tr _ _ _ B (C.tr _ _ _ H v)
    have I:Dn lt d (arrOf st) lo (m+1):=by
     intro i j c F;by_cases J:j<m
     .exact all _ _ #[0] #[0] #[0] #[0]
     .have q:j=m:=by lia
      subst q;by_cases a:i=j
      .subst a;exact C.rf _
      .exact C.tr _ _ _ (C.as _ _ e) (all _ _ #[0] #[0] #[0] #[0])
    dsimp only;rw[iN (by simp)];exact wpS_bind (UZ (Fk C p (h.rev (à _) #[0]) u #[0] (I.mirror C h #[0] all) hq))
  .rw[iN w];have:m=1:=by lia
   subst this;refine Fk C p h u #[0] (λi j c F=>?_) hq;by_cases a:i=j
   .subst a;exact C.rf _
   .rw[show i=0 by lia,show j=1 by lia];exact C.as _ _ e
theorem Xb(C:Cmp M A E s kd D lt)(K: ∀x,x∈a₀.toList->D x)(h:SB a₀ kd pd f lo st)(T:lo+n<=a₀.size)(P:ok<=n)(hs:Up lt d (arrOf st) lo ok)
  (hq: ∀a,SB a₀ kd pd f lo a->Up lt d (arrOf a) lo n->Q true a):wpS M A E s (binarySort' lo n ok) Q st:=by
 rw[KW];unfold zDD
 refine wpS_bind (wpS_mono (wpS_forRange (I:=λk c a=>c=(none,())/\SB a₀ kd pd f lo a/\Up lt d (arrOf a) lo (min k n))
  (Q:=λc a=>c=(none,())/\SB a₀ kd pd f lo a/\Up lt d (arrOf a) lo n) ?_ ?_ ?_) ?_)
 .rintro k c a J S ⟨rfl,q,e⟩;rw[show min k n=k by lia]at e;unfold binI
  refine wpS_bind (wpS_mono (wpS_forRange (I:=λx c b=>b=a/\ ∃l r,c=(none,l,r)/\l<=r/\r<=k/\r - l<=k - x/\
    (∀i,i<l->Le lt (Kx d (arrOf a) (lo+i)) (Kx d (arrOf a) (lo+k)))/\(∀i,r<=i->i<k->Le lt (Kx d (arrOf a) (lo+k)) (Kx d (arrOf a) (lo+i))))
   (Q:=λc b=>b=a/\ ∃l r,c=(none,l,r)/\l<=k/\
    (∀i,i<l->Le lt (Kx d (arrOf a) (lo+i)) (Kx d (arrOf a) (lo+k)))/\(∀i,l<=i->i<k->Le lt (Kx d (arrOf a) (lo+k)) (Kx d (arrOf a) (lo+i)))) ?_ ?_ ?_) ?_)
  .rintro x c b _ H ⟨rfl,l,r,rfl,z,p,O,o,m⟩;dsimp only;by_cases v:l>=r
   .rw[iP v];have:l=r:=by lia
    subst this;exact wpS_pure ⟨rfl,l,l,rfl,p,o,m⟩
   .rw[iN v];refine wpS_bind (GU (d:=d) C q K #[0] #[0] ?_)
    cases F:lt _ _ with
    |true=>exact wpS_pure ⟨rfl,l,_,rfl,by lia,by lia,by lia,o,λi y B=>C.tr _ _ _ (C.as _ _ F) (e _ _ y B)⟩
    |false=>exact wpS_pure ⟨rfl,_,r,rfl,by lia,by lia,by lia,λi y=>C.tr _ _ _ (e i _ #[0] #[0]) F,m⟩
  .rintro c b ⟨rfl,l,r,rfl,z,p,O,o,m⟩;have:l=r:=by lia
   subst this;exact⟨rfl,l,l,rfl,p,o,m⟩
  .exact⟨rfl,0,k,rfl,by lia,by lia,by lia,λi hi=>by lia,λi y B=>by lia⟩
  .rintro c b ⟨rfl,l,r,rfl,N,o,m⟩;dsimp only;rw[moveDown'_eq];have w:lo+k<(arrOf b).size:=by rw[q.size];lia
   refine wpS_bind (wpS_modify (wpS_pure ⟨rfl,?_,?_⟩))
   .exact q.bub #[0] #[0]
   .rw[show min (k+1) n=k+1 by lia];intro i j u L;show Le lt _ _;rw[SD w #[0],SD w #[0],show lo+k - _=lo+l by lia];have t: ∀i,1<=i->lo+i - 1=lo+(i - 1):=λi hi=>by lia
    repeat' split
    all_goals first
     |(exfalso;lia)
     |exact C.rf _
     |exact o _ #[0]
     |(rw[t _ #[0]];exact m _ #[0] #[0])
     |exact m _ #[0] #[0]
     |exact e _ _ #[0] #[0]
     |(rw[t i #[0]];exact e _ _ #[0] #[0])
     |(rw[t j #[0]];exact e _ _ #[0] #[0])
     |(rw[t i #[0],t j #[0]];exact e _ _ #[0] #[0])
     |(rw[t i #[0]];exact o _ #[0])
 .rintro c a ⟨G,q,e⟩;refine⟨G,q,?_⟩;rwa [show min _ n=n by lia]at e
 .refine⟨rfl,h,λi j u L=>?_⟩;by_cases y:ok=0
  .rw[show i=j by lia];exact C.rf _
  .exact hs i j u #[0]
 .rintro c a ⟨rfl,q,e⟩;exact wpS_pure (hq a q e)
end
end Srt
namespace Srt
open PySem PyProof.Rows
section
variable{kd:SortKind}{lt:Keyed->Keyed->Bool}{a₀:V}{pd:Array (Nat×Nat×Nat)}{lo:Nat}{st:SortSt}
def Up.sl(h:Up lt d v lo n):SL lt v.toList lo n:=by
 intro i j x y k a c b;have f:Kx d v (lo+i)=x:=by unfold Kx;rw[<-Ā,c];rfl
 have e:Kx d v (lo+j)=y:=by unfold Kx;rw[<-Ā,b];rfl
 have:=h i j k a;rw[f,e]at this;exact this
theorem SL.pw(h:SL lt l lo n):((l.drop lo).take n).Pairwise (Le lt):=by rw[List.pairwise_iff_getElem];intro i j hi b a;rw[lT]at hi b;rw[List.getElem_take,List.getElem_take,List.getElem_drop,List.getElem_drop];exact h i j _ _ #[0] #[0] (gE0 _) (gE0 _)
structure Out(a₀:V)(kd:SortKind)(lt:Keyed->Keyed->Bool)(n:Nat)(st:SortSt):Prop where
 pm:(arrOf st).toList.Perm a₀.toList
 kind:kindOf st=kd
 fl:failedOf st=none
 pd: ∃w,pendingOf st=#[(0,n,w)]
 so:(arrOf st).toList.Pairwise (Le lt)
end
end Srt
namespace Srt
open PySem PyProof.Rows
abbrev U2:=Option Unit×Nat
abbrev U1:=Option Unit×Unit
def psh(lo n:Nat):SM (ForInStep U2):=(modify λs=>setPending s ((pendingOf s).push (lo,n,0))) >>= λ_=>pure (.yield (none,lo+n))
def nxt(N lo n:Nat):SM (ForInStep U2):=get >>= λst=>match (pendingOf st).back? with
 |some (a,b,_)=>(forIn [0:N] ((none,()):U1) λ_ _=>get >>= λst=>(match (if(pendingOf st).size>1 then(pendingOf st)[(pendingOf st).size - 2]? else none)with
   |some (_,_,z)=>if z<=power' N (2 * a+b) (2 * a+b+b+n) N then pure (.done (none,()))else mergeAt' ((pendingOf st).size - 2) >>= λq=>if(!q)=true then pure (.done (some (),()))else pure (.yield (none,()))
   |_=>pure (.done (none,())))) >>= λc=>(match c.1 with
  |some r=>pure (.done (some r,lo))
  |none=>(modify λs=>setPending s ((pendingOf s).modify ((pendingOf s).size - 1) λ(u,v,_)=>(u,v,power' N (2 * a+b) (2 * a+b+b+n) N))) >>= λ_=>psh lo n)
 |_=>psh lo n
def runs(N r:Nat):SM U2:=forIn [0:N] ((none,0):U2) λ_ c=>if c.2>=N then pure (.done (none,c.2))else countRun' c.2 (N - c.2) >>= λo=>match o with
 |some m=>if m<r then liftM (rule "list.sort.binary-insertion") >>= λ_=>binarySort' c.2 (min (N - c.2) r) m >>= λq=>if(!q)=true then pure (.done (some (),c.2))else nxt N c.2 (min (N - c.2) r)
   else nxt N c.2 m
 |_=>pure (.done (some (),c.2))
def zDF(N:Nat):SM U1:=forIn [0:N] ((none,()):U1) λ_ _=>get >>= λst=>if(pendingOf st).size<=1 then pure (.done (none,()))else
 mergeAt' (if Option.any (λx=>decide (x<((pendingOf st)[(pendingOf st).size - 2+1]?).elim 0 λx=>x.2.1)) (if(pendingOf st).size - 2>0 then Option.map (λx=>x.2.1) (pendingOf st)[(pendingOf st).size - 2 - 1]? else none)=true
  then(pendingOf st).size - 2 - 1 else(pendingOf st).size - 2) >>= λq=>if(!q)=true then pure (.done (some (),()))else pure (.yield (none,()))
def sRun:SM Unit:=get >>= λst=>runs (arrOf st).size (minRun' (arrOf st).size (arrOf st).size 0) >>= λc=>match c.1 with
 |some r=>pure r
 |none=>zDF (arrOf st).size >>= λc=>match c.1 with
  |some r=>pure r
  |none=>pure ()
theorem QL:sortRuns'=sRun:=by kernel_rfl
section
variable{pd:Array (Nat×Nat×Nat)}{lo:Nat}{st:SortSt}
theorem SB.free(h:SB a₀ kd pd f lo st)(g):SB a₀ kd pd' g 0 (setPending st pd'):=⟨h.pm,h.kind,h.fl,rfl,λ_ hi=>by lia⟩
def V1(h:Q (.yield (none,lo+n)) (setPending st ((pendingOf st).push (lo,n,0)))):wpS M A E s (psh lo n) Q st:=
 wpS_bind (wpS_modify (wpS_pure h))
def zEW(a₀:V)(lt:Keyed->Keyed->Bool)(st:SortSt):Prop:=(arrOf st).toList.Perm a₀.toList/\failedOf st=none/\(arrOf st).toList.Pairwise (Le lt)
end
end Srt
namespace Srt
open PySem PyProof.Rows
section
variable{st:SortSt}
theorem Oo(a:2<=N)(h:N<64):minRun' N N 0=N:=by
 obtain⟨g,rfl⟩: ∃g,N=g+1:=⟨N - 1,by lia⟩
 rw[minRun'_succ,iP h]
def zEX(a₀:V)(kd:SortKind)(lt:Keyed->Keyed->Bool)(st:SortSt):Prop:=SB a₀ kd #[(0,a₀.size,0)] a₀ 0 st/\SL lt (arrOf st).toList 0 a₀.size
theorem Oq(C:Cmp M A E s kd D lt)(t: ∀x,x∈a₀.toList->D x)(d:Keyed)(G:2<=a₀.size)(h:SB a₀ kd #[] a₀ 0 st)
  (hq: ∀a,zEX a₀ kd lt a->Q (none,a₀.size) a):wpS M A E s (runs a₀.size a₀.size) Q st:=by
 refine wpS_forRange (I:=λx c a=>(x=0/\c=_/\SB a₀ kd #[] a₀ 0 a)\/(1<=x/\c=(none,a₀.size)/\zEX a₀ kd lt a)) ?_ ?_ (.inl ⟨rfl,rfl,h⟩)
 .rintro x c a _ w (⟨rfl,rfl,B⟩|⟨u,rfl,o⟩)
  .dsimp only;rw[iN #[0]]
   have r: ∀b,SB a₀ kd #[] a₀ 0 b->Up lt d (arrOf b) 0 a₀.size-> ∀R:ForInStep U2->SortSt->Prop,(∀a,zEX a₀ kd lt a->R (.yield (none,a₀.size)) a)->wpS M A E s (nxt a₀.size 0 a₀.size) R b:=by
    intro b f i R F;refine wpS_bind (wpS_get ?_);have z:(pendingOf b).back? =none:=by rw[f.pd];rfl
    rw[z];dsimp only;refine V1 ?_;have e:(pendingOf b).push (0,a₀.size,0)=#[(0,a₀.size,0)]:=by rw[f.pd];rfl
    rw[e,İ];exact F _ ⟨f.free a₀,i.sl⟩
   refine wpS_bind (Xa (d:=d) C t B #[0] #[0] λm b f y v i=>?_);dsimp only;by_cases p:m<a₀.size
   .rw[iP p];refine wpS_bind (YT ?_);rw[Nat.sub_zero,Nat.min_self];refine wpS_bind (Xb C t f #[0] #[0] i λj n k=>?_);rw[iN (by simp)];exact r j n k _ λ_ q=>.inr ⟨by lia,rfl,q⟩
   .rw[iN p];obtain rfl:m=a₀.size:=by lia
    exact r b f i _ λ_ q=>.inr ⟨by lia,rfl,q⟩
  .dsimp only;rw[iP (à _)];exact wpS_pure (hq a o)
 .rintro c a (⟨w,_⟩|⟨_,rfl,o⟩)
  .lia
  .exact hq a o
theorem Os(e:2<=a₀.size)(h:zEX a₀ kd lt st)(d: ∀a,zEW a₀ lt a->Q (none,()) a):wpS M A E s (zDF a₀.size) Q st:=by
 have b:zEW a₀ lt st:=⟨Array.perm_iff_toList_perm.mp h.1.pm,h.1.fl,by have:=h.2.pw;rwa [drop_zero,ĸ (by rw[ā,h.1.size];lia)]at this⟩
 refine wpS_forRange (I:=λ_ c a=>c=_/\a=st) ?_ ?_ ⟨rfl,rfl⟩
 .rintro x c a _ _ ⟨rfl,rfl⟩;refine wpS_bind (wpS_get ?_);rw[iP (by rw[h.1.pd];simp)];exact wpS_pure (d _ b)
 .rintro c a ⟨rfl,rfl⟩;exact d _ b
theorem VA(C:Cmp M A E s kd D lt)(h: ∀x,x∈(arrOf st).toList->D x)(d:Keyed)(b:2<=(arrOf st).size)(e:(arrOf st).size<64)(n:kindOf st=kd)(m:pendingOf st=#[])(i:failedOf st=none)
   (hq: ∀a,zEW (arrOf st) lt a->Q () a):wpS M A E s sortRuns' Q st:=by
 rw[QL];refine wpS_bind (wpS_get ?_);rw[Oo b e];refine wpS_bind (Oq C h d b ⟨Array.Perm.refl _,n,i,m,λ_ hi=>by lia⟩ λj k=>?_);refine wpS_bind (Os b k λc f=>?_);exact wpS_pure (hq c f)
end
end Srt
namespace Srt
open PySem PyProof.Rows
abbrev Rn:=Nat×Nat×Nat
def RunsOk(lt:Keyed->Keyed->Bool)(l:List Keyed):Nat->List Rn->Nat->Prop
 |p,[],q=>p=q
 |p,r::rs,q=>r.1=p/\1<=r.2.1/\SL lt l p r.2.1/\RunsOk lt l (p+r.2.1) rs q
section
theorem RunsOk.le: ∀{rs}{p q},RunsOk lt l p rs q->p+rs.length<=q
 |[],p,q,h=>by cases h;exact à _
 |r::rs,p,q,h=>by
  have:=RunsOk.le h.2.2.2;have:=h.2.1;rw[lC]
  lia
end
section
variable{kd:SortKind}{lt:Keyed->Keyed->Bool}{a₀:V}{st:SortSt}
structure ST(a₀:V)(kd:SortKind)(lt:Keyed->Keyed->Bool)(rs:List Rn)(q:Nat)(st:SortSt):Prop where
 pm:(arrOf st).toList.Perm a₀.toList
 kind:kindOf st=kd
 fl:failedOf st=none
 pd:pendingOf st=rs.toArray
 ok:RunsOk lt (arrOf st).toList 0 rs q
 le:q<=a₀.size
def ST.size(h:ST a₀ kd lt rs q st):(arrOf st).size=a₀.size:=by have:=h.pm.length_eq;simpa using this
end
end Srt
namespace Srt
open PySem PyProof.Rows
section
def Xc{α:Type}{f:α->Sem β}{g:α->β}(l:List α)(h: ∀x,x∈l->wpAny M A (f x) (λr a=>a=s/\r=g x) E s):wpAny M A (l.mapM f) (λr a=>a=s/\r=l.map g) E s:=by
 induction l with
 |nil=>rw[List.mapM_nil];exact wP ⟨rfl,rfl⟩
 |cons x l ih=>
  rw[List.mapM_cons];refine wB (ü (h x mF0) (λr a b=>?_) λ_ _ e=>e);rw[b.1,b.2];refine wB (ü (ih λy c=>h y (mO _ c)) (λr a b=>?_) λ_ _ e=>e);rw[b.1,b.2];exact wP ⟨rfl,rfl⟩
def YU{α:Type}{f:α->Sem β}{g:α->β}{l:List α}(h: ∀x,x∈l->wpAny M A (f x) (λr a=>a=s/\r=g x) E s):wpAny M A (l.toArray.mapM f) (λr a=>a=s/\r=(l.map g).toArray) E s:=by rw[List.mapM_toArray];refine wB (ü (Xc l h) (λr a b=>?_) λ_ _ e=>e);obtain⟨rfl,rfl⟩:=b;exact wP ⟨rfl,rfl⟩
def TupAt(h:Heap)(a:Addr)(b:A0):Prop:= ∃o n,h.get? a=some o/\o.cls=.type "tuple"/\o.data=.seq b.toArray n
def Ot(h:TupAt s.heap a its):wpAny M A (firstOfTuple' (.ref a)) (λr d=>d=s/\r=its[0]?) E s:=by obtain⟨o,n,b,c,e⟩:=h;refine wB (į ⟨o,b,c⟩ ?_);refine wB (listItems_at b e ?_);exact wP ⟨rfl,by simp⟩
end
end Srt
namespace Srt
open PySem PyProof.Rows
inductive LexS(A:Around)(s:ĺ):List Ļ->List Ļ->Bool->Prop
 |nn:LexS A s [] [] false
 |nc (x xs):LexS A s [] (x::xs) true
 |cn (y ys):LexS A s (y::ys) [] false
 |eq {y x ys xs k}:SeqAt.EqAt A s y x true->LexS A s ys xs k->LexS A s (y::ys) (x::xs) k
 |ne {y x ys xs k}:SeqAt.EqAt A s y x false->(∀(prog:ļ)(w:World)(E Q:VP),Q (.bool k) s->wpAny (model prog w) A (richCompare .Lt y x) Q E s)->LexS A s (y::ys) (x::xs) k
section
def Co(h:Q b s):wpAny (model prog w) A (truthOfDropped (.bool b)) Q E s:=Ă h
def wp_lt{st:SortSt}(a:kindOf st=kd)(h: ∀ E  Q ,Q k s->wpAny (model prog w) A (keyLt' kd x.1 y.1) Q E s)(b:Q (some k) st):
  wpS (model prog w) A E s (lt' x y) Q st:=by
 rw[lt'_eq];refine wpS_bind (wpS_get ?_);rw[a];refine wpS_bind (wpS_lift (ě (h _ _ ⟨rfl,?_⟩)));exact wpS_pure b
end
end Srt
namespace Srt
open PySem PyProof.Rows
section
theorem Ou(vs ws)(i)(a:LexS A s vs ws k):1<=i->vs.length+n=ws.length+m->
   wpAny (model prog w) A (forIn ((vs.zip ws).zipIdx i) ((none,())) λz _=>eqBool z.1.1 z.1.2 >>= λe=>if(!e)=true then oneLt' (true&&z.2==0) z.1.1 z.1.2 >>= λr=>pure (.done (some r,()))else pure (.yield (none,())))
    (λr b=>b=s/\(r=(some k,())\/(r=(none,())/\k=decide (m<n)))) E s:=by
 induction a generalizing i with
 |nn=>intro hi h;rw[zip_nil_left,zipIdx_nil];exact wP ⟨rfl,.inr ⟨rfl,(dF0 (by simp at h;lia)).symm⟩⟩
 |nc x xs=>intro hi h;rw[zip_nil_left,zipIdx_nil];exact wP ⟨rfl,.inr ⟨rfl,(dT0 (by simp at h;lia)).symm⟩⟩
 |cn y ys=>intro hi h;rw[List.zip_nil_right,zipIdx_nil];exact wP ⟨rfl,.inr ⟨rfl,(dF0 (by simp at h;lia)).symm⟩⟩
 |eq he hr ih=>
  intro hi h;rw[ĩ,zipIdx_cons,forIn_cons];refine wB (wB (he prog w E _ ?_));exact wP (ih _ #[0] (by simpa using(by simp at h;lia)))
 |ne he hr=>
  intro hi h;refine wB (wB (he prog w E _ ?_));simp only[Bool.true_and];rw[show(i==0)=false by simp;lia];refine wB (wB (hr prog w E _ (Co ?_)));exact wP (wP ⟨rfl,.inl rfl⟩)
end
end Srt
namespace Srt
open PySem PyProof.Rows
section
def sort_plainS{vs:A0}(ho:s.heap.get? a=some (seqObj "list" vs.toArray n0))(K:vs.length<64)
  (hk: ∀d:ĺ,d={s with heap:=((s.heap.update a (Obj.mapSeq λ_=>#[])).push (seqObj "tuple" vs.toArray 0)).push (seqObj "list" #[] 0)}-> ∃(kd:SortKind)(D:Keyed->Prop)(lt:Keyed->Keyed->Bool),
   (2<=vs.length->wpAny (model prog w) A (keyKind' vs.toArray) (λk v=>v=d/\k=kd) E d/\Cmp (model prog w) A E d kd D lt/\ ∀p,p∈vs.zip vs->D p)/\
   ∀out:List Keyed,out.Perm (vs.zip vs)->out.Pairwise (Le lt)->P (.done (.ret .none)) {d with heap:=d.heap.update a (Obj.mapSeq λ_=>(out.map (·.2)).toArray)}):
  wpAny (model prog w) A (Builtin.«list.sort» ⟨[.ref a],[]⟩) P E s:=by
 unfold Builtin.«list.sort»;dsimp only;rw[iN (by simp),iN (by simp)];rw[forIn_nil];refine wB (wP ?_);have O:List.lookup (Str.ofString "key") ([]:List (Str×Ļ))=none:=rfl;have U:List.lookup (Str.ofString "reverse") ([]:List (Str×Ļ))=none:=rfl;rw[O,U];refine wB (wP ?_);have ha:a<s.heap.objs.size:=ä ho;refine wB (listItems_at ho rfl ?_);refine wB (listUpdate_at ho rfl ?_);obtain⟨q,t⟩: ∃q,(s.heap.update a (Obj.mapSeq λ_=>#[])).get? a=some (seqObj "list" #[] q):=⟨_,get?_update_seq ho (λ_=>#[])⟩
 dsimp only;refine wB (seqEpoch_at t rfl ?_);refine wB (wpAny_newTuple ?_);refine wB (wpAny_newList ?_);refine ú ?_;rw[iN (by simp)];dsimp only;generalize f:({s with heap:=((s.heap.update a (Obj.mapSeq λ_=>#[])).push (seqObj "tuple" vs.toArray 0)).push (seqObj "list" #[] 0)}:ĺ)=d;have B:d.heap.get? a=some (seqObj "list" #[] q):=by rw[<-f];exact hP0 _ (hP0 _ t)
 obtain⟨kd,D,lt,S,W⟩:=hk d f.symm;rw[iN (by simp)];refine wB (wP ?_);rw[iN (by simp)]
 have i: ∀st:SortSt,failedOf st=none->(arrOf st).toList.Perm (vs.zip vs)->(arrOf st).toList.Pairwise (Le lt)->
   wpAny (model prog w) A (do
    let e <-seqEpoch a
    Builtin.List.listUpdate (.ref a) λ_=>(arrOf st).map (·.2)
    if(e !=q)=true then rule "list.sort.modified" >>= λ_=>raiseErrorWords "ValueError" "list modified during sort" >>= λ(_:Unit)=>ret .none else ret .none) P E d:=by
  intro st Z j I;refine wB (seqEpoch_at B rfl ?_);have z:((arrOf st).map (·.2)).size<=sizeLine+1:=by rw[Array.size_map, <-ā,j.length_eq,length_zip];have:=đ;omega
  refine wB (listUpdate_at B rfl ?_);rw[iN (by simp)];have N:(arrOf st).map (·.2)=((arrOf st).toList.map (·.2)).toArray:=by rw[<-Array.toList_map]
  rw[N];exact wP (W _ j I)
 by_cases b:vs.toArray.size<2
 .rw[iP b,iP b];refine wB (wP ?_);rw[StateT.run_pure];refine wB (wP ?_);rw[iN (by simp)];have J:(vs.zip vs).length<=1:=by rw[length_zip];simp at b;omega
  refine i _ rfl ?_ ?_
  .show(vs.toArray.zip vs.toArray).toList.Perm _;simp
  .show(vs.toArray.zip vs.toArray).toList.Pairwise _;have:(vs.toArray.zip vs.toArray).toList=vs.zip vs:=by simp
   rw[this]
   match vs.zip vs,J with
   |[],_=>exact .nil
   |[x],_=>exact List.pairwise_singleton _ _
   |x::y::r,h=>simp at h
 .rw[iN b,iN b];obtain⟨G,L,T⟩:=S (by simp at b;omega);refine wB (ü G (λk v m=>?_) λ_ _ e=>e);obtain⟨rfl,rfl⟩:=m;have n:(arrOf (SortSt.mk' k (vs.toArray.zip vs.toArray) #[] 7 none)).toList=vs.zip vs:=by show(vs.toArray.zip vs.toArray).toList=_;simp
  have o:(arrOf (SortSt.mk' k (vs.toArray.zip vs.toArray) #[] 7 none)).size=vs.length:=by rw[<-ā,n,length_zip,Nat.min_self]
  refine wB (ü (VA (st:=SortSt.mk' k (vs.toArray.zip vs.toArray) #[] 7 none) L (λp j=>T p (by rw[n]at j;exact j)) (.none,.none) (by rw[o];simp at b;omega) (by rw[o];exact K) rfl rfl rfl
   (Q:=λ_ c=>zEW _ lt c) λc h=>h) (λr Y M=>?_) λ_ _ e=>e)
  obtain⟨⟨⟩,c⟩:=r;obtain⟨rfl,H,C,X⟩:=M;dsimp only;rw[iN (by simp)];have F:=i c C (by rw[<-n];exact H) X;have u:failedOf c=none:=C;unfold failedOf at u;rw[u];exact F
end
end Srt
namespace Srt
open PySem PyProof.Rows
section
def YV(i:l≠[])(h: ∀x,x∈l-> ∃z b,x=.int z b):wpAny M A (oneTypeOnly' l.toArray) (λr c=>c=s/\r=some (.type "int")) E s:=by
 refine wB (ü (YU (g:=λ_=>Value.type "int") λx d=>?_) (λr c f=>?_) λ_ _ e=>e)
 .obtain⟨z,b,rfl⟩:=h x d;exact wP ⟨rfl,rfl⟩
 .obtain⟨rfl,rfl⟩:=f
  match l,i with
  |x::l,_=>
   have j:(List.map (λ_=>Value.type "int") (x::l)).toArray[0]? =some (Value.type "int"):=by simp
   have a:((List.map (λ_=>Value.type "int") (x::l)).toArray.all λx=>x==Value.type "int")=true:=by simp only[List.all_toArray,all_map,õ];intro _ _;rfl
   rw[j];dsimp only;rw[a];exact wP ⟨rfl,rfl⟩
def wp_kindI(v:keys≠[])(h: ∀x,x∈keys-> ∃a i z j r,x=.ref a/\TupAt s.heap a i/\i=.int z j::r):
  wpAny M A (keyKind' keys.toArray) (λk f=>f=s/\k=tuples' true) E s:=by
 have o: ∀x, ∃y:Option Ļ,x∈keys->(∃z j,y=some (.int z j))/\ ∀M:Model,wpAny M A (firstOfTuple' x) (λr f=>f=s/\r=y) E s:=by
  intro x;by_cases c:x∈keys
  .obtain⟨a,i,z,j,r,rfl,w,rfl⟩:=h x c;exact⟨some _,λ_=>⟨⟨z,j,rfl⟩,λM=>Ot w⟩⟩
  .exact⟨none,λz=>absurd z c⟩
 let g:=λx=>Classical.choose (o x);have m: ∀x,x∈keys->(∃z j,g x=some _)/\ ∀M:Model,wpAny M A _ (λr f=>f=s/\r=g x) E s:=λx c=>û (o x) c;refine wB (ü (YU λx c=>(m x c).2 M) (λr f n=>?_) λ_ _ e=>e);obtain⟨rfl,rfl⟩:=n;rw[iP (by simp only[List.all_toArray,all_map,õ];intro x c;obtain⟨⟨b,d,e⟩,_⟩:=m x c;show(g x).isSome=true;rw[e];rfl)];refine wB (Ģ ?_);have p:(keys.map g).toArray.filterMap id=((keys.map g).filterMap id).toArray:=by simp
 rw[p];refine wB (ü (YV ?_ ?_) (λr f n=>?_) λ_ _ e=>e)
 .match keys,v,m with
  |x::l,_,m=>
   obtain⟨⟨b,d,e⟩,_⟩:=m x mF0;rw[ã,e];simp
 .intro x c;obtain⟨y,q,e⟩:=Đ.mp c;obtain⟨z,t,B⟩:=mM.mp q;obtain⟨⟨b,d,u⟩,_⟩:=m z t;have:some x=some (Value.int b d):=by rw[<-u,B];exact e.symm
  cases this;exact⟨b,d,rfl⟩
 .obtain⟨rfl,rfl⟩:=n;refine wP ⟨rfl,?_⟩;have:((some (Value.type "int")).any λx=>x !=Value.type "tuple")=true:=by rfl
  rw[this]
end
end Srt
namespace Srt
open PySem PyProof.Rows
section
theorem wp_keyLtI(j:TupAt s.heap l (.int x t::r))(i:TupAt s.heap b (.int y u::r2))(o:SeqAt.EqAt A s (.int x t) (.int y u) e)
  (hx:if e=true then LexS A s r r2 k else k=decide (x<y)) (hq:Q k s):
  wpAny (model prog w) A (keyLt' (tuples' true) (.ref l) (.ref b)) Q E s:=by
 obtain⟨B,v,a,_,f⟩:=j;obtain⟨C,p,c,_,d⟩:=i;refine wB (listItems_at a f (wB (listItems_at c d ?_)));simp only[sA];refine wB ?_;rw[ĩ,zipIdx_cons,forIn_cons];refine wB (wB (o prog w E _ ?_))
 cases e with
 |true=>
  refine wP ?_;refine ü (Ou r r2 1 hx (m:=(Value.int x t::r).length) (n:=(Value.int y u::r2).length) (à _) (by simp only[lC];lia)) (λq z h=>?_) λ_ _ e=>e;obtain⟨rfl,rfl|⟨rfl,e⟩⟩:=h
  .exact wP hq
  .dsimp only;rw[<-e];exact wP hq
 |false=>
  subst hx;refine wB (oneLt_int ?_);exact wP (wP (wP hq))
end
end Srt
namespace L2
namespace M
open PySem PySem.Spec PyProof.Rows
mutual
def uY:MV->Bool
 |.int _=>true
 |.str _=>true
 |.tup ds=>SE ds
 |_=>false
def SE:List MV->Bool
 |[]=>true
 |d::ds=>uY d&&SE ds
end
def SF{α β:Type}{g:α->β}{p m:List β}(h:p.Perm m): ∀l:List α,l.map g=p-> ∃c:List α,c.Perm l/\c.map g=m:=by
 induction h with
 |nil=>intro l e;exact⟨l,.refl _,e⟩
 |cons x _ ih=>
  intro l e
  cases l with
  |nil=>cases e
  |cons a l=>
   injection e with e1 e2
   obtain⟨c,k,i⟩:=ih l e2;exact⟨_,k.cons a,by rw[ã,e1,i]⟩
 |swap x y t=>
  intro l e
  match l,e with
  |a::b::l,e=>
   injection e with e1 e2
   injection e2 with e2 e3
   exact⟨_,.swap _ _ _,by rw[ã,ã,e1,e2,e3]⟩
 |trans _ _ ih1 ih2=>
  intro l e;obtain⟨j,p1,d⟩:=ih1 l e;obtain⟨n,p2,f⟩:=ih2 j d;exact⟨n,p2.trans p1,f⟩
section
variable{X:Cx}{α:B9}{H:Hp}{pins:M0}{σ:St}{s:ĺ}
mutual
theorem Fm(I:↑2): ∀{d b:MV}{v:V},uY d=true->uY b=true->Den X.K α H d v->Den X.K α H b v->d=b
 |.int i,b,v,_,h',q,q'=>by
  cases wQ q
  cases b with
  |int j=>cases wQ q';rfl
  |str x=>cases jG q'
  |tup ds=>obtain⟨a,f,e,_⟩:=wD q';cases e
  |_=>simp[uY]at h'
 |.str x,b,v,_,h',q,q'=>by
  have e:=jG q
  cases b with
  |int j=>rw[wQ q']at e;cases e
  |str y=>rw[jG q']at e;injection e with e;rw[GA e]
  |tup ds=>obtain⟨a,f,c,_⟩:=wD q';rw[c]at e;cases e
  |_=>simp[uY]at h'
 |.tup ds,b,v,h,h',q,q'=>by
  obtain⟨a,f,e,t,l⟩:=wD q
  cases b with
  |int j=>rw[wQ q']at e;cases e
  |str y=>rw[jG q']at e;cases e
  |tup es=>
   obtain⟨o,m,c,k,n⟩:=wD q';rw[e]at c;cases c;have:=I.tuple_inj t k;subst this;rw[YW I (by unfold uY at h;exact h) (by unfold uY at h';exact h') l n]
  |_=>simp[uY]at h'
theorem YW(I:↑2): ∀{ds es:U0}{vs:List V},SE ds=true->SE es=true->DenL X.K α H ds vs->DenL X.K α H es vs->ds=es
 |[],[],_,_,_,_,_=>rfl
 |[],e::es,_,_,_,q,q'=>by obtain⟨v,r,e,_⟩:=q'.uncons;rw[q.isnil]at e;cases e
 |d::ds,[],_,_,_,q,q'=>by obtain⟨v,r,e,_⟩:=q.uncons;rw[q'.isnil]at e;cases e
 |d::ds,e::es,_,h,h',q,q'=>by obtain⟨v,r,rfl,a,l⟩:=q.uncons;obtain⟨i,j,f,b,c⟩:=q'.uncons;cases f;unfold SE at h h';rw[aE]at h h';rw[Fm I h.1 h'.1 a b,YW I h.2 h'.2 l c]
end
def zDG(h:LexR A s xs ys k):Srt.LexS A s xs ys k:=by
 induction h with
 |nn=>exact .nn
 |nc x xs=>exact .nc x xs
 |cn x xs=>exact .cn x xs
 |eq a _ ih=>exact .eq a ih
 |ne a b=>exact .ne a b
def Cp(I:↑2)(d:Den X.K α H (.tup ds) x)(r:RelV x u): ∃a c b,u=.ref a/\DenL X.K α H ds c/\Vals c b/\Srt.TupAt s.heap a b/\IsTup s.heap a b.toArray:=by obtain⟨a,c,rfl,t,l⟩:=wD d;cases r;obtain⟨b,f,pt,_⟩:=I.tuple t;obtain⟨o,i,e,n,h⟩:=id pt;exact⟨a,c,b,rfl,l,f,⟨o,n,i,e,h⟩,pt⟩
end
structure OrdD(S:Sto)(ks:U0):Prop where
 any: ∀a,a∈ks-> ∀b,b∈ks-> ∃t,LN S zR a b=some t
 tr: ∀a,a∈ks-> ∀b,b∈ks-> ∀c,c∈ks->LN S zR b a=some false->LN S zR c b=some false->LN S zR c a=some false
 as: ∀a,a∈ks-> ∀b,b∈ks->LN S zR a b=some true->LN S zR b a=some false
section
variable{ps:K0}
def Jq(J:↑2)(f:DT X pins H e)(k:X.s₀.heap.objs.size<=e)(j:s.heap.get? e=some (seqObj "list" its.toArray n))(A:Vals ys its)(y:ys.length<=sizeLine):Inv X pins σ (jS H e (.lst ys)) s:=by
 have v: ∀o,X.s₀.heap.get? e≠some o:=λo z=>absurd (æ (ä z) k) (ģ _);refine⟨J.ok,J.os,J.bare,⟨J.base.keep,J.base.slot,λb a q n w=>?_,J.base.there,λb xs q=>?_,λb d u q=>?_,λb ps q=>?_⟩,J.loc,J.cell,?_,λx c h=>?_,λp i=>?_,λb u q=>?_,J.len⟩
 .rw[zU λz=>v a (by rw[<-z];exact q)];exact J.base.free b a q n w
 .rw[zU (yM (J.base.tups b xs q) f.1)];exact J.base.tups b xs q
 .rw[zU (yM (J.base.frzs b d u q) f.1)];exact J.base.frzs b d u q
 .obtain⟨t,z⟩:=J.base.tbls b ps q;exact⟨t,by rw[zU (yM z f.1)];exact z⟩
 .rw[zU (Ne.symm f.2.1)];exact J.free
 .rw[zU (f.2.2.2.2.1 x c h)];exact J.freeC x c h
 .obtain⟨m,n,ne,nf,B⟩:=J.pin p i;exact⟨m,by rw[zU (f.2.2.2.2.2 p i)];exact n,ne,nf,B⟩
 .by_cases z:b=e
  .subst z;rw[yE]at q;cases q;exact⟨y,its,n,A,j⟩
  .rw[zU z]at q;exact(J.hok b u q).stay (λ_ _ _ r=>r) (λc r=>by rw[zU (yM r f.1)];exact r) λc xs r=>by rw[zU (yM r f.1)];exact r
def Cq(K:R0)(α:B9)(H:Hp)(a:U0)(u:Ļ):MV:=
 open Classical in if h: ∃d v,d∈a/\Den K α H d v/\RelV v u then Classical.choose h else a.headD .non
def ltV(K:R0)(α:B9)(H:Hp)(S:Sto)(a:U0)(p q:Keyed):Bool:=(LN S zR (Cq K α H a p.1) (Cq K α H a q.1)).getD false
def eZ{K:R0}(a:kds≠[])(u):Cq K α H kds u∈kds:=by
 unfold Cq;split
 .rename_i h;obtain⟨v,b,_⟩:=û h;exact b
 .match kds,a with
  |x::l,_=>exact mF0
def NO{K:R0}(h: ∃d v,d∈kds/\Den K α H d v/\RelV v u): ∃v,Den K α H (Cq K α H kds u) v/\RelV v u:=by unfold Cq;rw[dif_pos h];obtain⟨v,_,a,b⟩:=û h;exact⟨v,a,b⟩
def Ov(I:↑2)(c: ∀d,d∈kds->uY d=true)(m:DenL X.K α H kds kvs)(n:Vals kvs ks){i:Nat}(k:ks[i]? =some u)(f:kds[i]? =some a):
  Cq X.K α H kds u=a:=by
 obtain⟨v,p,h⟩:=m.at f;obtain⟨t,b,r⟩:=n.get p;rw[k]at b;cases b;have e:=î f;have ne:kds≠[]:=λz=>by rw[z]at e;cases e
 obtain⟨q,j,o⟩:=NO ⟨a,v,e,h,r⟩;rw[o.inj r]at j;exact Fm I (c _ (eZ ne u)) (c a e) j h
end
theorem Jr{ks a:A0}(c:ks.length=N)(b:a.length=N):(List.range N).map (λi=>((ks[i]?).getD .none,(a[i]?).getD .none))=ks.zip a:=by
 apply ext_getElem?;intro i;rw[ï];by_cases hi:i<N
 .have e:(ks.zip a)[i]? =some (ks[i]'#[0],a[i]'#[0]):=by rw[List.getElem?_zip_eq_some];exact⟨gE0 _,gE0 _⟩
  rw[getElem?_range hi,e];show some ((ks[i]?).getD .none,(a[i]?).getD .none)=_;rw[gE0 #[0],gE0 #[0]];rfl
 .rw[Ġ (by rw[ù];lia),Ġ (by rw[length_zip];lia)];rfl
theorem NP{β:Type}{l:List β}{d:β}{a:Db}(h: ∀i,i∈a->i<l.length):a.map (λi=>(l[i]?).getD d)=a.filterMap (l[·]?):=by
 induction a with
 |nil=>rfl
 |cons i a ih=>
  have hi:=h i mF0;rw[ã,Ĵ (gE0 hi),ih λj b=>h j (mO _ b),gE0 hi];rfl
def Fo(S:Sto)(ds d r:U0):Prop:= ∃b:List Nat,b.Perm (List.range ds.length)/\b.Pairwise (λi j=> ∀a c,d[i]? =some a->d[j]? =some c->LN S zR c a=some false)/\r=b.filterMap (ds[·]?)
open Classical in
open Classical in
section
theorem DenL.eraseIdx{K:R0}: ∀{ds}{vs} n ,DenL K α H ds vs->DenL K α H (ds.eraseIdx n) (vs.eraseIdx n)
 |[],_,_,q=>by rw[q.isnil];exact xL
 |d::ds,_,0,q=>by obtain⟨v,r,rfl,_,l⟩:=q.uncons;exact l
 |d::ds,_,n+1,q=>by obtain⟨v,r,rfl,a,l⟩:=q.uncons;exact yT a (DenL.eraseIdx n l)
end
section
variable{X:Cx}{o i:Expr}
noncomputable def AO(kvs:List (Key×V))(k:Key)(v:V):List (Key×V):=if(kvs.any λa=>decide (a.1=k))=true then kvs.map (λa=>if a.1=k then(a.1,v)else a)else kvs++[(k,v)]
def GV(kvs)(k)(v):(AO kvs k v).length<=kvs.length+1:=by
 unfold AO;split
 .rw[lM];exact le_succ _
 .rw[lA];exact à _
def V2(r:KV kvs vs)(k:Key):(kvs.any λa=>decide (a.1=k))=vs.any λa=>decide (a.1=k):=by
 induction r with
 |nil=>rfl
 |cons h t ih=>rw[List.any_cons,List.any_cons,ih,h.1]
def Xd(r:KV kvs vs)(k:Key)(b:RelV y u):KV (kvs.map λa=>if a.1=k then(a.1,y)else a) (vs.map λa=>if a.1=k then(a.1,u)else a):=by
 induction r with
 |nil=>exact .nil
 |@cons p q ps qs h t ih=>
  rw[ã,ã];refine .cons ?_ ih;by_cases e:p.1=k
  .rw[iP e,iP (h.1.symm.trans e)];exact⟨h.1,b⟩
  .rw[iN e,iN λz=>e (h.1.trans z)];exact h
def Xe(r:KV kvs vs){q:Key×Ļ}(h:p.1=q.1/\RelV p.2 q.2):KV (kvs++[p]) (vs++[q]):=by
 induction r with
 |nil=>exact .cons h .nil
 |cons h' t ih=>exact .cons h' ih
def Cr(r:KV kvs vs)(k)(a:RelV y u):KV (AO kvs k y) (stored vs k u):=by
 unfold AO stored;rw[V2 r k];by_cases e:(vs.any λb=>decide (b.1=k))=true
 .rw[iP e,iP e];exact Xd r k a
 .rw[iN e,iN e];exact Xe r ⟨rfl,a⟩
def VB{a b:Key}(h:KeyD k a)(h':KeyD k b):a=b:=by
 cases k with
 |int i=>exact Eq.trans h h'.symm
 |str x=>exact Eq.trans h h'.symm
 |_=>exact False.elim h
def NQ{a:Key}(h:KeyD k a)(h':KeyD k' a):k=k':=by
 cases k with
 |int i=>
  have e:=h;subst e
  cases k' with
  |int j=>have b:(Sum.inl i:Key)=.inl j:=h';cases b;rfl
  |str y=>have b:(Sum.inl i:Key)=.inr _:=h';cases b
  |_=>exact False.elim h'
 |str x=>
  have e:=h;subst e
  cases k' with
  |int j=>have b:(Sum.inr _:Key)=.inl j:=h';cases b
  |str y=>
   have b:=h';injection b with b
   rw[GA b]
  |_=>exact False.elim h'
 |_=>exact False.elim h
theorem YX: ∀{kvs}{ks}{k}{k'},DenK X.K α H kvs ks->KeyD k k'->(ks.any λb=>decide (b.1=k'))=(look kvs k).isSome
 |_,_,k,k',.nil,hk=>rfl
 |_,_,k,k',.cons (k:=c) (k':=c') hc a l,hk=>by
  rw[DI,List.any_cons];by_cases h:c=k
  .subst h;rw[iP rfl,dT0 (VB hc hk)];rfl
  .have d: ¬c'=k':=λz=>h (NQ hc (z.symm▸hk));rw[iN h,dF0 d];exact YX l hk
theorem NS: ∀{kvs}{ks}{k d}{k'}{v},DenK X.K α H kvs ks->KeyD k k'->Den X.K α H d v->DenK X.K α H (kvs.map λp=>if p.1=k then(p.1,d)else p) (ks.map λb=>if b.1=k' then(b.1,v)else b)
 |_,_,k,d,k',v,.nil,hk,hd=>.nil
 |_,_,k,d,k',v,.cons (k:=c) (k':=c') hc a l,hk,hd=>by
  rw[ã,ã];by_cases h:c=k
  .subst h;rw[iP rfl,iP (VB hc hk)];exact .cons hc hd (NS l hk hd)
  .have e: ¬c'=k':=λz=>h (NQ hc (z.symm▸hk));rw[iN h,iN e];exact .cons hc a (NS l hk hd)
theorem DenK.append: ∀{kvs b}{xs c},DenK X.K α H kvs xs->DenK X.K α H b c->DenK X.K α H (kvs++b) (xs++c)
 |_,_,_,_,.nil,h=>h
 |_,_,_,_,.cons hk a l,h=>.cons hk a (DenK.append l h)
theorem DenK.length: ∀{kvs}{xs},DenK X.K α H kvs xs->xs.length=kvs.length
 |_,_,.nil=>rfl
 |_,_,.cons _ _ l=>by rw[lC,lC,DenK.length l]
def NT(l:DenK X.K α H kvs ks)(a:KeyD k k')(b:Den X.K α H d v):DenK X.K α H (putK kvs k d) (AO ks k' v):=by
 unfold putK AO;rw[YX l a];by_cases h:(look kvs k).isSome=true
 .rw[iP h,iP h];exact NS l a b
 .rw[iN h,iN h];exact l.append (.cons a b .nil)
def DK(X:Cx)(H:Hp)(d:Addr)(ks:List (Key×V)):Prop:=H d=some (.dK ks)\/(ks=[]/\H d=some (DN X.prog X.w d []))
def DK.nf(h:DK X H d ks): ∀a u,H d≠some (.frz a u):=h.elim (λz=>Mo z) λz=>by first |exact Mo z.2|exact z.elim
def bR(I:↑2)(h:DK X H d ks):ks.length<=sizeLine/\(d==sysModules)=false/\ ∃b,KV ks b/\s.heap.DictOf (jT X.prog X.w) d b:=by
 rcases h with h|⟨rfl,h⟩
 .exact(I.hok d _ h)
 .obtain⟨⟨p,j,o,es,m,f,k,i,n,q⟩,_⟩:=(I.hok d _ h)
  have a:=n;refine⟨zero_le _,j,[],.nil,o,es,m,f,k,i,λe c=>?_,by rw[a];exact .nil,nodup_nil⟩;rw[<-Array.mem_toList_iff,a]at c;exact absurd c (by simp)
theorem NU:CallR X (.type "list") (λxs H Q=> ∃d ks,xs=[.ref d]/\DK X H d ks/\X.calm=true/\ ∀l,H l=none->Q (.ref l) (jS H l (.lst (ks.map λp=>kV p.1)))):=by
 intro pins s σ H xs us Q I r h;obtain⟨d,ks,rfl,M,B,q⟩:=h;obtain⟨u,rfl,G⟩:=vals1 r;cases G;obtain⟨z,J,vs,m,F⟩:=bR I M;obtain⟨O,o⟩:=F.dictAt;have f:=Paired.length m;refine PySem.W.kdl_call (PySem.W.kdl_dict J) (I.ok.hd B) o #[0] λh' P y N C D c=>?_
 have K:=by
  have n: ∀{ks:List _}{vs:List _}{us:A0},KV ks vs->us.length=vs.length->(∀(j:Nat)(v:Ļ),us[j]? =some v-> ∃(k:Key)(x:Ļ),vs[j]? =some (k,x)/\(jT X.prog X.w).is k v=true)->Vals (ks.map λp=>kV p.1) us:=by
   intro ks vs us E
   induction E generalizing us with
   |nil=>intro f _;cases us with
    |nil=>exact .nil
    |cons a b=>simp at f
   |@cons p q ps qs h t ih=>
    intro f A
    cases us with
    |nil=>simp at f
    |cons a b=>
     obtain⟨k,x,e,hi⟩:=A 0 a rfl;simp only[List.getElem?_cons_zero,Option.some.injEq]at e;subst e;rw[ã];refine .cons ?_ (ih (by simpa using f) λj v L=>by simpa using A (j+1) v (by simpa using L));rw[h.1];rcases xD hi with⟨i,t,e1,e2⟩|⟨i,t,e1,e2⟩
     .subst e2;rw[show k=.inl i from e1];exact⟨t,rfl⟩
     .subst e2;rw[show k=.inr i from e1];exact⟨t,rfl⟩
  exact n m (by rw[ā];exact c.1) λj v e=>c.2 j v (by rw[<-Ā];exact e)
 refine⟨.ref ↑1,_,I.laid C (à _) (show ObjOk X.prog X.w _ h' _ (.lst _)from⟨by rw[lM];exact z,y.toList,N,K,?_⟩),rfl,q _ (I.hok.fresh (à _))⟩;rw[Array.toArray_toList];exact D
theorem SH: ∀{kvs}{ks},DenK X.K α H kvs ks->DenL X.K α H (kvs.map (·.1)) (ks.map λp=>kV p.1)
 |_,_,.nil=>xL
 |_,_,.cons (k:=c) (k':=c') hc a l=>by
  refine yT ?_ (SH l)
  cases c with
  |int i=>rw[show c'=.inl i from hc];exact jV i
  |str x=>rw[show c'=.inr _ from hc];exact lV x
  |_=>exact False.elim hc
end
def StrAt(val:Nat->Key)(i:Nat)(v:Ļ):Prop:=(∃x t,val i=.inr x/\v=.str x t)\/ ∃x t,val i=.inl x/\v=.int x t
def StrAt.is(h:StrAt val i v):(jT P w).is (val i) v=true/\v.scannable=true:=by
 rcases h with⟨x,t,e,rfl⟩|⟨x,t,e,rfl⟩<;>rw[e]
 .exact⟨vO P w x t,rfl⟩
 .exact⟨JR P w x t,rfl⟩
section
variable{o e:Expr}{es:Q0}{id:String}
def FF(X:Cx)(T:String)(c:V->Hp->Prop):Prop:= ∀(pins:M0)(s:ĺ)(σ:St)(H:Hp)(x:V)(v:Ļ),Inv X pins σ H s->RelV x v->c x H->s.TypeIs v T/\ ∀a,v=.ref a-> ∃b,s.heap.get? a=some b/\b.dict=none
def Ct(i:FF X T TY)(q:PlainAttrs T)(a:Slot T name id)(c:typeOf (.builtin id)=pure (.type "method_descriptor"))(u:Uv X id r)(ho:PE X o to)(w:PA X (e::es) t)
  (hbase:attributeBase o name X.env (eval o X.env)=eval o X.env)
  (hfew:((backTo pos (starEach (e::es) X.env)).all (λx=>!x.1)&&(backToKw pos (keywordEach [] X.env)).all (λx=>x.1.isSome)
   &&decide ((e::es).length+([]:List Keyword).length+(if([]:List Keyword).isEmpty then 0 else 1)<30))=true)
  (hline:(apos.endLine==pos.line)=true) (hs:starEach (e::es) X.env=(false,eval e X.env)::starEach es X.env) (hplain:(backTo pos (starEach es X.env)).any (·.1)=false):
  PE X (.Call (.Attribute o name apos) (e::es) [] pos) (λσ H Q=>to σ H λx b=>TY x b/\t σ b λf d=>r x f d Q):=by
 intro pins s σ H Q I h;refine wpAny_Call_method_late hbase hfew hline rfl (gH (ho pins s σ H _ I h) λv m ⟨x,b,I1,j,D,n⟩=>?_);obtain⟨E,z⟩:=i pins m σ b x v I1 j D;refine⟨T,id,q,a,c,E,z,?_⟩;have k:=w pos pins m σ b _ I1 n;rw[hs]at k ⊢;refine Calls.callWith_builtin (by show(false || (backTo pos _).any (·.1))=false;rw[hplain]<;>rfl) (Calls.evalArgs_plain ?_);exact gH k λy A ⟨f,d,p,C,B⟩=>u pins A σ d x f v y Q p j C B
def TyD(X:Cx)(x:V)(H:Hp):Prop:= ∃d xs,x=.ref d/\DD X H d xs
def V3:FF X "dict" (TyD X):=by
 intro pins s σ H x v I f ⟨d,xs,e,j⟩;subst e;cases f;rcases j with h|⟨rfl,h⟩
 .obtain⟨⟨p,i,o,es,k,c,b,_⟩,_⟩:=(I.hok d _ h)
  exact⟨⟨o,c,b.1⟩,λa e=>by cases e;exact⟨o,c,b.2.1⟩⟩
 .obtain⟨_,i,n,m,o,es,k,c,b,_⟩:=(I.hok d _ h)
  exact⟨⟨o,c,b.1⟩,λa e=>by cases e;exact⟨o,c,b.2.1⟩⟩
end
section
variable{X:Cx}
theorem Fp: ∀{kvs}{xs}{k b}{nk},DenN X.K α H kvs xs->kN k=some nk->look kvs k=some b-> ∃a u v,atKey xs nk=some (a,u)/\Den X.K α H b v/\RelV v u
 |_,_,k,b,nk,.nil,hk,h=>by cases h
 |_,_,k,b,nk,.cons (k:=k') (nk:=nk') (a:=a) (v:=v) (u:=u) hk' e ha hd r l,hk,h=>by
  rw[DI]at h;by_cases c:k'=k
  .subst c;have:=by rw[hk]at hk';exact(â hk').symm
   rw[iP rfl]at h;cases h;exact⟨a,u,v,by rw[FE,iP this],hd,r⟩
  .have n:nk'≠nk:=λz=>c (GT hk' (by rw[hk,z]));rw[iN c]at h;obtain⟨j,d,f,o,i,m⟩:=Fp l hk h;exact⟨j,d,f,by rw[FE,iN n];exact o,i,m⟩
end
def VAt(d:Addr)(us:A0)(a:Nat)(h:Heap):Prop:= ∃o es,h.get? d=some o/\o.ExactDict/\o.data=.dict es a/\es.toList.map (·.val)=us
def VAt.at(x:VAt d us ep h)(m: ∀o,h.get? d=some o->h'.get? d=some o):VAt d us ep h':=let ⟨o,es,a,r⟩:=x;⟨o,es,m o a,r⟩
theorem VAt.size(x:VAt d us ep h): ∃o es,h.get? d=some o/\o.ExactDict/\o.data=.dict es ep/\es.size=us.length/\ ∀i (hi:i<es.size),us[i]? =some es[i].val:=by obtain⟨o,es,a,c,b,e⟩:=x;refine⟨o,es,a,c,b,by rw[<-e,lM,ā],λi hi=>?_⟩;rw[<-e,ï,Ā,Array.getElem?_eq_getElem hi];rfl
end M
end L2
namespace L2
open PySem PySem.Spec PyProof.Rows
open Builtin Builtin.ObjectAttr
section
def SetAt(h h':Heap)(x:Addr)(o:Obj)(name:Str)(v:Ļ)(a:Addr):Prop:=
 h.get? a=none/\a≠x/\h'.get? x=some {cls:=o.cls,dict:=some a,data:=o.data,slots:=o.slots}/\h'.Ns1 a (λy=>if y=name then some v else none)/\ ∀b c,b≠x->h.get? b=some c->h'.get? b=some c
end
noncomputable abbrev BIG:Nat:=10 ^ 100
section
variable{σ:St}{H:Hp}
def tJ(i:Nat):TE:=λσ H Q=> ∃n,σ[i]? =some (some (.int n))/\n.natAbs<BIG/\ ∀y:Str,Q (.str y) H
end
namespace M
structure XIn(K:R0)(M C f:Addr):Prop where
 ex: ∃nm q N bs sn sub ab col dd k0 k1 k2 k3 k5,K.lookup C=some (excClassObj nm q C N bs (.ref M::zEU) true sn sub ab col dd k0 k1 k2 k3 k5 "ValueError.__new__")/\PySem.W.nsOkIn K N=true/\PySem.W.nsIn K N "__init__"=some (some (.ref f))/\ ∀n∈qn,PySem.W.nsIn K N n=some none
 fo: ∃o,K.lookup f=some o/\o.cls=.type "function"
def XIn.cl{K:R0}(x:XIn K M C f):XCl K C (.ref M::zEU) (some (.ref f)):=by obtain⟨m,q,N,bs,k,sub,o,e,p,i,h,r,j,n,a,b,c,d⟩:=x.ex;exact⟨m,q,N,bs,true,k,sub,o,e,p,i,h,r,j,n,a,b,c,d,rfl⟩
structure DefM(K:R0)(mg:L0)(x:Str)(st:Stmt):Prop where
 ex: ∃f fd,mg x=some (.ref f)/\Fun K x x st f fd
def def_mk{K:R0}{st:Stmt}{kV:Ļ}(a:PySem.W.nsIn K mainGlobals x=some (some (.ref g)))
  (l:K.lookup g=some ⟨oc,od,.func (PySem.W.fnOf x x (eX st) (cR st) (zG st) .none kV dc pm an cd ct),sl⟩) (c:PySem.W.codeIn K cd x=true) (k:PySem.W.keepIn K (.ref g)=true) (X:K.In h) (GG:h.Ns mainGlobals mg):DefM K mg x st:=⟨_,_,PySem.W.mg_of X GG a,UB l c k⟩
structure Cal(P:ļ)(w:World)(K:R0)(mg:L0)(base:Heap)(CX:Io)(x:Str)(k:Nat)(ps:K0)(sp:Sp):Prop where
 ex: ∃fa fd,FnOk P w K mg base CX k fa fd ps sp/\mg x=some (.ref fa)/\PySem.W.keepIn K (.ref fa)=true/\Binds K fd ps []
abbrev Xf(P:Program)(w:World)(K:R0)(mg:L0)(base:Heap)(x:Str)(k n:Nat)(ps:K0)(F:List MV->Sto->R Er):Prop:=Cal P w K mg base PZ x k ps (Ba ⟨K,mg,P,w⟩ n F)
abbrev zDH(P:Program)(w:World)(K:R0)(mg:L0)(base:Heap)(x:Str)(k n:Nat)(ps:K0)(F:List MV->Sto->R Er):Prop:=Cal P w K mg base (CXe P w) x k ps (zEV ⟨K,mg,P,w⟩ n F)
section
variable{K:R0}{st:Stmt}
abbrev V4(x:Str)(st:Stmt)(ps:K0):Prop:= ∀(kV b c:Value)(d:Option Addr)(a ct:Value)(us:A0),us.length=ps.length->bindArgs (PySem.W.fnOf x x (eX st) (cR st) (zG st) .none kV b c d a ct) ⟨us,[]⟩=pure (ps.zip us)
def FW(D:DefM K mg x st)(c:V4 x st ps)(h: ∀f a,Fun K x x st f a->FnOk P w K mg base PZ k f a ps (Ba ⟨K,mg,P,w⟩ n F)):Xf P w K mg base x k n ps F:=
 let ⟨f,a,m,b⟩:=D.ex;⟨f,a,h f a b,m,b.kp,b.binds c⟩
def Cal.noX(G:zDH P w K mg base x k n ps F):Xf P w K mg base x k n ps F:=let ⟨c,a,G,m,kp,b⟩:=G.ex;⟨c,a,G.noX,m,kp,b⟩
def V5{l:PySem.W.OpenLaw}(D:DefM K mg x st)(c:mg x=some (.ref fa))(q: ∀ kV d n  j  b i  s  v ,BindsTo s (PySem.W.fnOf x x (eX st) (cR st) (zG st) .none kV d n j b i) ⟨[v],[]⟩ [(p,v)])
  (h: ∀base f a,Fun K x x st f a->FnOk l.prog w K mg base PZ k f a [p] (Ba ⟨K,mg,l.prog,w⟩ 1 F)):
  ∃a:FuncData,(∀ s  v ,BindsTo s a ⟨[v],[]⟩ [(p,v)])/\ ∀base:Heap,K.In base->base.Ns mainGlobals mg->FnOk l.prog w K mg base PZ k fa a [p] (RV K F):=by
 obtain⟨f,a,m,e⟩:=D.ex;rw[c]at m;cases m;refine⟨a,?_,λbase _ _=>(h base fa a e).imp λo H Q E=>Ob (g:=⟨K,mg,_,w⟩) o H Q E⟩;obtain⟨_,_,_,_,_,_,_,_,_,rfl,_,_⟩:=e.ex;exact q _ _ _ _ _ _
end
section
variable{p pos:Pos}
def zN(G:Xf X.prog X.w X.K X.mg X.base x k n ps F)(f:Room k X.A)(d:Gl X x)(j:MR X W (e::es) af)(a:(x==("__debug__"))=false:=by decide)
  (he:q8 X e es:=by rfl) (hpl:q9 X pos es:=by rfl):yI X W (.Call (.Name x p) (e::es) [] pos) (λi S=>(af i S).bind λc h=>zS n F c h):=
 let ⟨_,_,G,m,kp,b⟩:=G.ex;Vt G f d m kp b j a he hpl
end
end M
end L2
namespace L2
open PySem PySem.Spec PyProof.Rows
structure RoomH(k:Nat)(A:Around):Prop where
 dp:A.depth+3 * k+5<recursionLimit
 un:A.units+16 * k+200<cLine
def RoomH.depth(r:RoomH k A):A.depth<recursionLimit:=by have:=r.dp;omega
def RoomH.units(r:RoomH k A):A.units+64<cLine:=by have:=r.un;omega
structure FnOkH(P:ļ)(w:World)(K:R0)(mg:L0)(base:Heap)(k:Nat)(f:Addr)(fd:FuncData)(ps:K0)(sp:Sp):Prop where
 len: ∀vs H Q E,sp vs H Q E->vs.length=ps.length
 run: ∀(A:Around)(outer:List Env)(s:ĺ)(H:Hp)(args:Args)(us:A0)(vs:List V)(Q:VK)(E:XK),RoomH k A->HdA A H->Env0 P w K mg base A outer s H->BindsTo s fd args (ps.zip us)->Vals vs us->sp vs H Q E->
  codeAny (model P w) A (.call (.ref f) args) (CR PZ outer P w H s Q E) s
namespace M
section
variable{P:ļ}{w:World}{K:R0}{mg:L0}{base:Heap}{x:Str}{ps:K0}{k n:Nat}{F:List MV->Sto->R Er}
structure CalH(P:ļ)(w:World)(K:R0)(mg:L0)(base:Heap)(x:Str)(k n:Nat)(ps:K0)(F:List MV->Sto->R Er):Prop where
 ex: ∃fa fd,FnOkH P w K mg base k fa fd ps (Ba ⟨K,mg,P,w⟩ n F)/\mg x=some (.ref fa)/\PySem.W.keepIn K (.ref fa)=true/\Binds K fd ps []
end
noncomputable def Ow:List Er->Sto->R Er
 |[.val (.int i),.val (.int j)],S=>.ok (.val (.int (if j<i then j else i))) S
 |_,_=>.no
section
def V6:pY X W (λxs H Q=> ∃i j,xs=[.int i,.int j]/\Q (.int (if j<i then j else i)) H) Ow:=by
 intro e f α S H Q wd d a;unfold Ow at a;split at a
 .obtain⟨v,u,rfl,c,b⟩:=C9 d;cases wG c;cases wG b;exact⟨_,_,rfl,Post.val a wd (jV _)⟩
 .exact a.elim
end
def V7:bootBuiltins "min"=some (.builtin "min"):=by decide+kernel
noncomputable def zDI(kvs:Z0)(S:Sto):R Er:=.ok (.val (.loc ↑0)) (S++[.dic kvs])
section
variable{X:Cx}{o e:Expr}{es:Q0}
noncomputable def dN(ks:List (Key×V))(k:Key):Option V:=(ks.find? λp=>decide (p.1=k)).map (·.2)
theorem GW: ∀{ks}{vs}(r:KV ks vs) k ,(∀v,dN ks k=some v-> ∃u,valueAt vs k=some u/\RelV v u)/\(dN ks k=none->valueAt vs k=none)
 |_,_,.nil,k=>⟨λv h=>(nomatch h),λ_=>rfl⟩
 |(a,x)::ks,(b,u)::vs,.cons ⟨h1,h2⟩ l,k=>by
  cases h1;have d:=GW l k;unfold dN valueAt;by_cases c:a=k
  .simp only[find?_cons,c];exact⟨λv h=>⟨u,rfl,by cases h;exact h2⟩,λh=>nomatch h⟩
  .simp only[find?_cons,c];exact d
theorem mT: ∀{kvs}{ks}{k}{k'},DenK X.K α H kvs ks->KeyD k k'->(∀d,look kvs k=some d-> ∃v,dN ks k'=some v/\Den X.K α H d v)/\(look kvs k=none->dN ks k'=none)
 |_,_,_,_,.nil,_=>⟨λd h=>(nomatch h),λ_=>rfl⟩
 |_,_,k,k',.cons (k:=k0) (k':=k0') (v:=v0) h1 h2 l,hk=>by
  have a:=mT l hk;rw[DI];unfold dN;by_cases c:k0=k
  .subst c;have:=VB h1 hk;simp only[find?_cons,this];exact⟨λd h=>⟨v0,rfl,by cases h;exact h2⟩,λh=>nomatch h⟩
  .have b: ¬k0'=k':=λz=>c (NQ h1 (z▸hk));simp only[find?_cons,b,iN c];exact a
def TyK(X:Cx)(x:V)(H:Hp):Prop:= ∃d a,x=.ref d/\DK X H d a
def IU:FF X "dict" (TyK X):=by intro pins s σ H x v I f ⟨d,i,e,h⟩;subst e;cases f;obtain⟨_,j,m,k,o,es,n,c,b,_⟩:=bR I h;exact⟨⟨o,c,b.1⟩,λa e=>by cases e;exact⟨o,c,b.2.1⟩⟩
end
section
def vJ(i:Nat)(ρ:Rho)(S:Sto):R Er:=Vj (ρ[i]?) S
noncomputable def kJ(d:MV)(_:Rho)(S:Sto):R Er:=.ok (.val d) S
noncomputable def bJ(f:Rho->Sto->R α)(F:α->Sto->R β)(ρ:Rho)(S:Sto):R β:=(f ρ S).bind F
noncomputable def dJ(F:Er->Er->Sto->R Er)(f g:AX)(ρ:Rho)(S:Sto):R Er:=(f ρ S).bind λp S=>(g ρ S).bind λq S=>F p q S
def nJ(f:AX)(ρ:Rho)(S:Sto):R Er:=(f ρ S).bind λp S=>(jW p S).bind λk S=>.ok (.val (.bl !k)) S
def aJ(f g:AX)(ρ:Rho)(S:Sto):R Er:=(f ρ S).bind λp S=>Vk p S λS=>g ρ S
def oJ(f g:AX)(ρ:Rho)(S:Sto):R Er:=(f ρ S).bind λp S=>orF p S λS=>g ρ S
noncomputable def iJ(c:AZ)(f g:Rho->Sto->R α)(ρ:Rho)(S:Sto):R α:=(c ρ S).bind λk S=>if k=true then f ρ S else g ρ S
noncomputable def mJ(_:Rho)(S:Sto):R (Option Int):=.ok none S
noncomputable def tJ(F:Er->Option Int->Option Int->Sto->R Er)(f:AX)(g h:Rho->Sto->R (Option Int))(ρ:Rho)(S:Sto):R Er:=(f ρ S).bind λp S=>(g ρ S).bind λl S=>(h ρ S).bind λu S=>F p l u S
def lJ(k:Z0)(_:Rho)(S:Sto):R Er:=zDI k S
def zJ(_:Rho)(S:Sto):R Er:=RZ S
def fJ(n:Nat)(F:List MV->Sto->R Er)(a:Rho->Sto->R (List Er))(ρ:Rho)(S:Sto):R Er:=(a ρ S).bind λr S=>zS n F r S
def xJ(n:Nat)(F:List MV->Sto->R Er)(a:Rho->Sto->R (List Er))(ρ:Rho)(S:Sto):R Er:=(a ρ S).bind λr S=>Ff n F r S
def hJ(F:List MV->Sto->R Er)(_:Rho)(S:Sto):R Er:=zS 0 F [] S
noncomputable def eJ(t:Er->Sto->Bool)(F:Er->List Er->Sto->R Er)(f:AX)(a:Rho->Sto->R (List Er))(ρ:Rho)(S:Sto):R Er:=(f ρ S).bind λp S=>if t p S=true then(a ρ S).bind λr S=>F p r S else .no
noncomputable def gJ(t:Er->Sto->Bool)(F:Er->List Er->Sto->R Er)(f:AX)(ρ:Rho)(S:Sto):R Er:=(f ρ S).bind λp S=>if t p S=true then F p [] S else .no
noncomputable def uJ(_:Rho)(S:Sto):R Bool:=.ok true S
def pJ(i:Rho->Sto->R Wk)(g:MV->Rho->Sto->R Rho)(c:AZ)(e:AX)(n:Nat)(I:Db)(ρ:Rho)(S:Sto):R Er:=(i ρ S).bind λk S=>if k.ds.length<1000000 then(xM g c e (vN n I ρ) k.gs k.ds S).bind λo S=>.ok (.new o) S else .no
def jJ(F G:Er->Er->Sto->R Er)(f g h:AX)(ρ:Rho)(S:Sto):R Er:=(f ρ S).bind λp S=>(g ρ S).bind λq S=>chF F G p q S λS=>h ρ S
noncomputable def qJ(f:AZ)(ρ:Rho)(S:Sto):R Bool:=(f ρ S).bind λk S=>.ok (!k) S
noncomputable def rJ(f g:AZ)(ρ:Rho)(S:Sto):R Bool:=(f ρ S).bind λk S=>if k=true then g ρ S else .ok false S
noncomputable def sJ(f g:AZ)(ρ:Rho)(S:Sto):R Bool:=(f ρ S).bind λk S=>if k=true then .ok true S else g ρ S
noncomputable def wJ(_:Rho)(S:Sto):R (List Er):=.ok [] S
noncomputable def yJ(f:AX)(g:Rho->Sto->R (List Er))(ρ:Rho)(S:Sto):R (List Er):=(f ρ S).bind λp S=>(g ρ S).bind λl S=>.ok (p::l) S
noncomputable def AJ(f:AX)(ρ:Rho)(S:Sto):R Fl:=(f ρ S).bind λr S=>.ok (.ret r) S
noncomputable def BJ(f:AX)(ρ:Rho)(S:Sto):R Fl:=(f ρ S).bind λ_ S=>.ok (.next ρ) S
def CJ(f:AX)(i:Nat)(ρ:Rho)(S:Sto):R Fl:=(f ρ S).bind (UI ρ i)
noncomputable def DJ(F:Er->Er->MV->Rho->Sto->R Rho)(f g:AX)(d:MV)(ρ:Rho)(S:Sto):R Rho:=(f ρ S).bind λp S=>(g ρ S).bind λq S=>F p q d ρ S
def EJ(f:AX)(g:MV->Rho->Sto->R Rho)(ρ:Rho)(S:Sto):R Fl:=(f ρ S).bind (Vn g ρ)
def FJ(i:Rho->Sto->R Wk)(g:MV->Rho->Sto->R Rho)(b:AY)(ρ:Rho)(S:Sto):R Fl:=(i ρ S).bind λk S=>kZ g b k.gs k.ds ρ S
noncomputable def GJ(a:Rho->Sto->R (List Er))(c:Str)(ρ:Rho)(S:Sto):R Fl:=(a ρ S).bind λr S=>if r.length<=10 then .exc c [] S else .no
def HJ(cs:K0)(i:Nat)(h:AY)(n:Nat)(F:List MV->Sto->R Er)(a:Rho->Sto->R (List Er))(ρ:Rho)(S:Sto):R Fl:=(noX (a ρ S)).bind λr S=>U6 cs i (λ_ S=>.ok (.next ρ) S) h ρ (Ff n F r S)
def IJ(cs:K0)(i j:Nat)(h:AY)(n:Nat)(F:List MV->Sto->R Er)(a:Rho->Sto->R (List Er))(ρ:Rho)(S:Sto):R Fl:=(noX (a ρ S)).bind λr S=>U6 cs i (UI ρ j) h ρ (Ff n F r S)
noncomputable def JJ(ρ:Rho)(S:Sto):R Fl:=.ok (.next ρ) S
end
noncomputable def Itv(K:R0)(l:Addr)(n:Nat):It:=
 ⟨λi H=> ∃xs x,SqL K H l xs/\xs.length=n/\xs.reverse[i]? =some x,
   λi H v H'=>H'=H/\ ∀xs,SqL K H l xs->xs.reverse[i]? =some v,
   λi _=>n<=i⟩
def Ox{K:R0}(l it)(n):Turn P w K tg (Itv K l n) [it] it (λi h=>h.IsRevIter it l (((n - i:Nat)) - 1)) where
 mem:=by simp
 obj:=λi h st b hb=>by
  have e:b=it:=by simpa using hb
  subst e;obtain⟨o,e,c,d⟩:=st;exact⟨o,e,λv z=>by rw[d]at z;cases z⟩
 keep:=λi h h' st k=>st.at λo e=>k it (by simp) o e
 item:=by
  intro X hP hw hK hc i pins s σ H E I hf st hg;subst hP hw hK;obtain⟨xs,x,hq,hn,hx⟩:=hg;obtain⟨its,rv,p,hz⟩:=I.list hq;have hi:i<xs.length:=by have:=(gS.mp hx).1;rw[Ğ]at this;exact this
  have hx':=hx;rw[List.getElem?_reverse hi]at hx';obtain⟨u,hu,ru⟩:=rv.get hx';obtain⟨f0,f1,f2,f3,f4,f5⟩:=hf it (by simp);have e1:(((n - i:Nat):Int) - 1)=((xs.length - 1 - i:Nat):Int):=by omega
  have st':s.heap.IsRevIter it l (((n - i:Nat):Int) - 1):=st;rw[e1]at st';refine wpAny_pyNext_rev_item st' p.isList (x:=u) (by simpa using hu) λh' st2 sb=>?_;have I1:Inv X pins σ H {s with heap:=h'}:=I.turned (t':=s.toks) (λb o hb e=>(sb.2 b hb).trans e) f0 f1 f3 f4 f5;obtain⟨o,e,c,d⟩:=id st2;have e2:((xs.length - 1 - i:Nat):Int) - 1=(((n - (i+1):Nat):Int) - 1):=by omega
  refine⟨u,rfl,XT (s:={s with heap:=h'}) e c d ↑3 ⟨x,H,I1,ru,⟨rfl,λys hy=>by rw[I.list_inj hy hq];exact hx⟩,?_,λb hb=>(hf b hb).1⟩⟩;dsimp only;rw[<-e2];exact st2
 done:=by
  intro X hP hw hK hc i pins s σ H E I hf st hg;subst hP hw hK;have hg:n<=i:=hg;obtain⟨f0,f1,f2,f3,f4,f5⟩:=hf it (by simp);have e1:(((n - i:Nat):Int) - 1)= -1:=by omega
  have st:s.heap.IsRevIter it l (((n - i:Nat):Int) - 1):=st;rw[e1]at st;exact wpAny_pyNext_rev_end (I.ok.hd hc) st λh' eb=>⟨rfl,I.turned (t':=s.toks) (λb o hb e=>eb b o hb e) f0 f1 f3 f4 f5⟩
 self:=λ_ _ _ _ _ st h=>wpAny_pyIter_revIter st h
section
variable{a e:Expr}{p:Pos}
def YY:bootBuiltins "reversed"=some (.type "reversed"):=by decide+kernel
def iRev(K:R0)(c:TA):TI:=λσ H R=>c σ H λb a=> ∃l xs,b=[.ref l]/\SqL K a l xs/\R (Itv K l xs.length) a
def V8(u:Gl X "reversed")(j:X.mg "reversed"=none)(k:PA X [a] ta)(hs:starEach [a] X.env=[(false,eval a X.env)]:=by rfl):
  PI X tg (.Call (.Name "reversed" p) [a] [] pos) (iRev X.K ta):=by
 intro pins s σ H R I h;refine Call_ (qY I u j YY (ý (gH (k pos pins s σ H _ I h) λy d ⟨z,n,I1,t,f⟩=>?_) (by rw[hs];rfl) (by rfl)));obtain⟨l,xs,rfl,m,q⟩:=f
 cases t with
 |cons r rr=>
  cases rr;cases r;obtain⟨c,v,p1,_⟩:=I1.list m;refine call_reversed_list p1.isList (wpAny_pyIter_revIter (i:=(c.toArray.size:Int) - 1) (l:=l) ⟨_,è _ rfl,rfl,rfl⟩ ?_);refine⟨d.heap.objs.size,[d.heap.objs.size],_,_,n,rfl,I1.kept (t':=d.toks) λb o e=>hP0 _ e,Ox l _ xs.length,⟨_,è _ rfl,rfl,?_⟩,λb w=>?_,q⟩
  .have:((xs.length - 0:Nat):Int) - 1=(c.toArray.size:Int) - 1:=by rw[v.length];simp
   rw[this];rfl
  .have e:b=d.heap.objs.size:=by simpa using w
   subst e;exact I1.fpOk (à _) (I1.hok.fresh (à _))
def zDJ(rs:List Er)(S:Sto):R Wk:=match rs with
 |[p]=>match srcOf S p with
  |some a=>if a.k=true then .ok ⟨a.ds.reverse,a.gs⟩ S else .no
  |none=>.no
 |_=>.no
def V9(L:Gl X "reversed")(N:X.mg "reversed"=none)(o:MR X W [a] af)(hs:starEach [a] X.env=[(false,eval a X.env)]:=by rfl):
  Tr X W tg (.Call (.Name "reversed" p) [a] [] pos) (λn S=>(af n S).bind zDJ):=by
 obtain⟨t,o,k⟩:=o;refine⟨_,V8 L N o hs,λα n S σ H Rc wd sl q=>k α n S σ H _ wd sl (q.bind λc rs O r J e G C F b=>?_)⟩
 replace b:=b.shift G
 unfold zDJ at b;split at b
 .rename_i r1;split at b
  .rename_i v U;split at b
   .rename_i I;obtain⟨u,rfl,E⟩:=RR F;obtain⟨m,B,rfl,p1,y⟩:=IO C U E;have D: ∀α S H,B α S H-> ∃c,SqL X.K H m c/\DenL X.K α H v.ds c:=λα S H h=>by have:=y.get _ _ _ h;rw[I]at this;exact this
    obtain⟨c,Y,P⟩:=D _ _ _ p1;have hl:=P.length;refine⟨m,c,rfl,Y,b.here (u:=Itv X.K m c.length) C ⟨λα S H=>B α S H,?_,p1,?_,?_⟩⟩
    .intro i s S2 T f M;obtain⟨j,A,z⟩:=D _ _ _ f;have Q:=z.length;refine⟨λhi=>?_,λhi=>?_⟩
     .have hi:i<v.ds.reverse.length:=hi;rw[Ğ]at hi;have h1:i<j.reverse.length:=by rw[Ğ];omega
      refine⟨⟨j,j.reverse[i],A,by omega,gE0 h1⟩,?_⟩;rintro x H' ⟨rfl,hx⟩;obtain⟨d,Z,dd⟩:=z.reverse.get (hx j A);exact⟨Ext.refl _ _,M,f,d,Z,dd⟩
     .have hi:v.ds.reverse.length<=i:=hi;rw[Ğ]at hi;show c.length<=i;omega
    .intro r O J s S2 T f x w hs;exact y.stays _ _ _ _ _ _ f x w hs
    .exact y.st _ _ _ p1
   .exact b.elim
  .exact b.elim
 .exact b.elim
def augF(F:Er->Er->Sto->R Er)(i:Nat)(f:AX)(ρ:Rho)(S:Sto):R Fl:=(Vj (ρ[i]?) S).bind λp b=>(f ρ b).bind λq a=>(F p q a).bind (UI ρ i)
def Cu:bootBuiltins "sorted"=some (.builtin "sorted"):=by decide+kernel
end
def KJ(n:Nat)(F:List MV->Sto->R Er)(a:Rho->Sto->R (List Er))(ρ:Rho)(S:Sto):R Er:=(noX (a ρ S)).bind λr S=>Ff n F r S
def LJ(c:AZ)(f g:AX)(ρ:Rho)(S:Sto):R Er:=(noX (c ρ S)).bind λk S=>if k=true then f ρ S else g ρ S
def MJ(cs:K0)(i:Nat)(h:AY)(f:AX)(ρ:Rho)(S:Sto):R Fl:=U6 cs i (λ_ S=>.ok (.next ρ) S) h ρ (f ρ S)
section
noncomputable def Js(r:Addr)(j:Int):HO:=.ext λh=> ∃t u v,IsRange h r 0 j 1 t u v
def W1(z:Gl X "range")(n:X.mg "range"=none)(w:PA X [a] ta)(hs:starEach [a] X.env=[(false,eval a X.env)]:=by rfl):
  PE X (.Call (.Name "range" p3) [a] [] pos2) (λσ H Q=>ta σ H λf c=> ∃j:Int,f=[.int j]/\ ∀r,c r=none->Q (.ref r) (jS c r (Js r j))):=by
 intro pins s σ H Q I h;refine Call_ (qY I z n boot_range (ý (gH (w pos2 pins s σ H _ I h) λA i ⟨f,c,I1,y,k⟩=>?_) hs rfl));obtain⟨j,rfl,q⟩:=k;obtain⟨u,rfl,t,rfl⟩:=vals1 y;refine call_range_1 ?_;have d:=I1.hok.fresh (à _);refine⟨.ref i.heap.objs.size,_,I1.laid (o:=Js i.heap.objs.size j) (λb o e=>hP0 _ e) (à _) ⟨⟨_,_,_,IsRange.new ..⟩,⟨_,è _ rfl⟩,?_⟩,rfl,q _ d⟩;rintro C B ⟨t,u,v,p⟩ m;exact⟨t,u,v,m _ p⟩
end
section
variable{pos pos2 p2 p3:Pos}
noncomputable abbrev Xg(j:Int):List Int:=(List.range j.toNat).map Int.ofNat
theorem Cv(h:ItemsOf (λi v=> ∃t,v=Value.int (0+i * 1) t) acc j.toNat):Vals ((Xg j).map V.int) acc.toList:=by
 obtain⟨m,d⟩:=h;refine ?_
 have a: ∀(l:A0)(k:Nat),(∀i v,l[i]? =some v-> ∃t,v=Value.int ((k+i:Nat):Int) t)->Vals (((List.range' k l.length).map Int.ofNat).map V.int) l:=by
  intro l
  induction l with
  |nil=>intro k _;exact .nil
  |cons x l ih=>
   intro k c;obtain⟨t,rfl⟩:=c 0 x rfl;refine .cons ⟨t,rfl⟩ (ih _ λi v b=>?_);obtain⟨f,e⟩:=c (i+1) v b;exact⟨f,by rw[e,show k+_=k+1+i by lia]⟩
 have:=a acc.toList 0 λi v b=>by
  obtain⟨t,e⟩:=d i v (by rw[<-Ā];exact b);refine⟨t,e.trans ?_⟩;congr 1
  lia
 rw[ā,m, <-List.range_eq_range']at this;exact this
def Oy:Builtin.Range.rangeSize 0 j 1=j.toNat:=by rw[rangeSize_one];split<;>omega
def Jt:CallR X (.type "list") (λxs H Q=> ∃r j,xs=[.ref r]/\H r=some (Js r j)/\ -1000000<=j/\j<=1000000/\X.calm=true/\ ∀p,H p=none->Q (.ref p) (jS H p (.lst ((Xg j).map V.int)))):=by
 intro pins s σ H xs A Q I r h;obtain⟨c,j,rfl,f,y,z,i,q⟩:=h;obtain⟨_,rfl,d⟩:=vals1 r;cases d;obtain⟨⟨t,u,v,n⟩,_⟩:=(show ObjOk X.prog X.w H s.heap c (Js c j)from I.hok c _ f)
 refine call_list_range (I.ok.hd i) n (small_one ↑3 ↑3 (by omega) (by omega)) Oy (by omega) λh' e b o k m a=>?_;refine⟨.ref ↑1,_,I.laid (t':=e) k (à _) (show ObjOk X.prog X.w _ h' _ (.lst ((Xg j).map V.int))from⟨?_,b.toList,o,Cv a,?_⟩),rfl,q _ (I.hok.fresh (à _))⟩
 .rw[lM,lM,ù,đ];omega
 .rw[Array.toArray_toList];exact m
def Fs(rs:List Er)(S:Sto):R Er:=match rs with
 |[.val (.int j)]=>if -1000000<=j/\j<=1000000 then .ok (.new ((Xg j).map MV.int)) S else .no
 |_=>.no
def Xh(y:X.calm=true)(B:Gl X "list")(C:X.mg "list"=none)(f:Gl X "range")(c:X.mg "range"=none)(e:MR X W [a] af)(hs:starEach [a] X.env=[(false,eval a X.env)]:=by rfl)
  (he1:starEach [.Call (.Name "range" p3) [a] [] pos2] X.env=(false,eval (.Call (.Name "range" p3) [a] [] pos2) X.env)::starEach [] X.env:=by rfl) (hpl1:(backTo pos (starEach [] X.env)).any (·.1)=false:=by rfl):
  yI X W (.Call (.Name "list" p2) [.Call (.Name "range" p3) [a] [] pos2] [] pos) (λd S=>(af d S).bind Fs):=by
 obtain⟨t,e,k⟩:=e;refine⟨_,RH Jt B C GN (Eb (W1 f c e hs) Lx he1) ↑3 ↑3 he1 hpl1,λα d S σ H Q wd sl q=>k α d S σ H _ wd sl (q.bind λJ E G A F I s i r b=>?_)⟩
 replace b:=b.shift s
 unfold Fs at b;split at b
 .split at b
  .rename_i j m;obtain⟨u,rfl,n⟩:=RR r;cases wG n;refine⟨j,rfl,λv h=>?_⟩;have w:=i.newx (o:=Js v j) h;have z:=i.new (o:=Js v j) h;exact⟨v,j,rfl,yE,m.1,m.2,y,λp D=>(b.shift w).newl z D (IG _)⟩
  .exact b.elim
 .exact b.elim
end
end M
end L2
namespace L2
open PySem PySem.Spec PyProof.Rows
namespace M
structure OC(K:R0)(c:Str)(C:Addr):Prop where
 ns:PySem.W.nsIn K mainGlobals c=some (some (.ref C))
 nm:(PySem.W.clsIn K C).map (·.name)=some c
 cl:Cls K C
theorem OC.eq{K:R0}(o:OC K c C)(h:PySem.W.nsIn K mainGlobals c=some (some (.ref C'))):C'=C:=by have:=o.ns;rw[h]at this;cases this;rfl
section
variable{p:Pos}
def selM(m:Str)(l:List (Str×(List MV->Sto->R Er))):Er->Option (List MV->Sto->R Er)
 |.val (.obj c ns _)=>if m∈ns then none else l.lookup c
 |_=>none
def NJ(m:Str)(n:Nat)(l:List (Str×(List MV->Sto->R Er)))(f:AX)(a:Rho->Sto->R (List Er))(ρ:Rho)(S:Sto):R Er:=(f ρ S).bind λp S=>match selM m l p with
 |some F=>(a ρ S).bind λr S=>zS n F (p::r) S
 |none=>.no
end
def nm_of{K:R0}(e:PySem.W.clsIn K C=some cd)(h:cd.name=c):(PySem.W.clsIn K C).map (·.name)=some c:=by rw[e];exact congrArg some h
section
variable{es:Q0}{pos apos:Pos}
def VC:Er->List Er->Sto->R Er
 |p,[r],S=>match XN S r with
  |some zs=>GO p S λa=>if a.length+zs.length<=sizeLine then some (a++zs)else none
  |none=>.no
 |_,_,_=>.no
def Ju:UG X W Ef VC:=by
 intro p o x C α S q H Q f wd z A d a
 match o,d,a with
 |[],_,a=>exact a.elim
 |_::_::_,_,a=>exact a.elim
 |[r],d,a=>
  have a:Post X.g W f q (match XN S r with |some i=>GO p S λj=>if j.length+i.length<=sizeLine then some _ else none|none=>.no) Q:=a;split at a
  .rename_i i s;obtain⟨v,rfl,n⟩:=RR d;obtain⟨b,y,rfl,t,m⟩:=UL wd s n;obtain⟨c,w,j,es,rfl,B,h,e,k⟩:=IM wd z A a;split at e
   .rename_i u;cases e;exact⟨c,b,w,y,rfl,rfl,B,t,by rw[h.length,m.length];exact u,k _ (h.append m)⟩
   .cases e
  .exact a.elim
def DL(ho:yI X W a f)(i:MR X W (e::es) af)
  (hbase:attributeBase a "extend" X.env (eval a X.env)=eval a X.env:=by rfl)
  (hfew:((backTo pos (starEach (e::es) X.env)).all (λx=>!x.1)&&(backToKw pos (keywordEach [] X.env)).all (λx=>x.1.isSome)
   &&decide ((e::es).length+([]:List Keyword).length+(if([]:List Keyword).isEmpty then 0 else 1)<30))=true:=by rfl)
  (hline:(apos.endLine==pos.line)=true:=by rfl) (hs:q8 X e es:=by rfl) (hplain:q9 X pos es:=by rfl):
  yI X W (.Call (.Attribute a "extend" apos) (e::es) [] pos) (λc S=>(f c S).bind λp b=>if wF p b=true then(af c b).bind λd h=>VC p d h else .no):=
 Ek PySem.F.plainAttrs_list PySem.F.slot_list_extend PySem.F.type_list_extend Iu Ju UQ ho i hbase hfew hline hs hplain
end
theorem args_sorted1(a):argsOk "sorted" ⟨[a],[]⟩:=by unfold argsOk;kernel_rfl
theorem Cw(a):argsOk "list.sort" ⟨[a],[]⟩:=by unfold argsOk;kernel_rfl
open Classical in
def _root_.L2.Room.u128{k:Nat}{A:Around}(r:Room k A):A.units+128<cLine:=by have:=r.un;omega
section
def SI(d:MV):Prop:= ∃x r,d=.tup (.int x::r)
theorem Xi(I:↑2)(wd:Wd X.g α S H)(hu:A.units+64<cLine){k:Bool}(kd:SI d)(Y:SI f)(h1:Den X.K α H d x)(O:Den X.K α H f y)(P:RelV x u)(M:RelV y v)
  (h:LN S zR d f=some k) (prog) (w) (E) (Q) (hq:Q k s):wpAny (model prog w) A (keyLt' (tuples' true) u v) Q E s:=by
 obtain⟨m,B,rfl⟩:=kd;obtain⟨j,q,rfl⟩:=Y;obtain⟨a1,J,t,rfl,D,Z,W,_⟩:=Cp I h1 P;obtain⟨a2,ab,r,rfl,l2,F,U,_⟩:=Cp I O M;obtain⟨w1,q1,rfl,o,L⟩:=D.uncons;obtain⟨w2,q2,rfl,C,N⟩:=l2.uncons
 cases Z with
 |@cons _ u1 _ us1 rv1 rr1=>
  cases F with
  |@cons _ u2 _ us2 rv2 rr2=>
   have h':(eqv S 39 (.int m) (.int j)).bind (λk=>if k=true then Bz _ _ B q else LN S 39 _ _)=some k:=h;have p:eqv S 39 _ _=some _:=DG 38 m j;have T:=IH I wd 39 A _ _ _ _ _ _ _ #[0] o C rv1 rv2 p;cases wQ o;cases wQ C;obtain⟨G,rfl⟩:=rv1;obtain⟨aa,rfl⟩:=rv2;rw[p]at h';refine Srt.wp_keyLtI W U T ?_ hq
   cases z:decide (m=j)with
   |true=>
    rw[z]at h';have i:Bz _ _ B q=some k:=h'
    exact zDG (Nd (λd f x y u v k a b c n e=>IH I wd 39 A d f x y u v k #[0] a b c n e)
     (λd f x y u v k a b c n e=>Ca I wd 39 A d f x y u v k #[0] a b c n e) L N rr1 rr2 i)
   |false=>
    rw[z]at h';have i:_=some k:=h';cases i;rfl
theorem zDK(I:↑2)(wd:Wd X.g α S H)(hu:A.units+64<cLine)(hne:kds≠[])(hkind: ∀d,d∈kds->SI d)(ho:OrdD S kds):
  Srt.Cmp ↑4 A E' s (tuples' true) (λp=> ∃d v,d∈kds/\Den X.K α H d v/\RelV v p.1) (ltV X.K α H S kds) where
 go x y hx hy st hk Q hq:=by
  obtain⟨v1,d1,r1⟩:=NO hx;obtain⟨v2,d2,r2⟩:=NO hy;obtain⟨t,ht⟩:=ho.any _ (eZ hne x.1) _ (eZ hne y.1);have e:ltV X.K α H S kds x y=t:=by unfold ltV;rw[ht];rfl
  rw[e]at hq;exact Srt.wp_lt hk (λE Q hq=>Xi I wd hu (hkind _ (eZ hne x.1)) (hkind _ (eZ hne y.1)) d1 d2 r1 r2 ht X.prog X.w E Q hq) hq
 tr x y z h1 h2:=by unfold ltV at h1 h2 ⊢;have mx:=eZ (K:=X.K) (α:=α) (H:=H) hne x.1;have my:=eZ (K:=X.K) (α:=α) (H:=H) hne y.1;have mz:=eZ (K:=X.K) (α:=α) (H:=H) hne z.1;obtain⟨t1,e1⟩:=ho.any _ my _ mx;obtain⟨t2,e2⟩:=ho.any _ mz _ my;rw[e1]at h1;rw[e2]at h2;have h1:=h1;have h2:=h2;subst h1 h2;rw[ho.tr _ mx _ my _ mz e1 e2];rfl
 as x y h:=by unfold ltV at h ⊢;have mx:=eZ (K:=X.K) (α:=α) (H:=H) hne x.1;have my:=eZ (K:=X.K) (α:=α) (H:=H) hne y.1;obtain⟨t1,e1⟩:=ho.any _ mx _ my;rw[e1]at h;have h:=h;subst h;rw[ho.as _ mx _ my e1];rfl
def W2(I:↑2)(j:kds≠[])(b: ∀d,d∈kds->SI d)(k:DenL X.K α H kds kvs)(f:Vals kvs ks):
  wpAny ↑4 A (keyKind' ks.toArray) (λq C=>C=s/\q=tuples' true) E' s:=by
 have ne:ks≠[]:=λz=>by have c:=f.length;have h:=k.length;rw[z]at c;exact j (ĝ.mp (by rw[<-h,c];rfl))
 have all: ∀u,u∈ks-> ∃d v,d∈kds/\Den X.K α H d v/\RelV v u:=by
  intro u e;obtain⟨i,hi⟩:=getElem?_of_mem e;have m:i<kvs.length:=by rw[f.length];exact(gS.mp hi).1
  obtain⟨F,c,r⟩:=f.get (gE0 m);rw[hi]at c;cases c;obtain⟨d,h,y⟩:=k.get (gE0 m);exact⟨d,_,î h,y,r⟩
 refine Srt.wp_kindI ne λu e=>?_;obtain⟨d,v,md,D,r⟩:=all u e;obtain⟨x,E,rfl⟩:=b d md;obtain⟨a,J,p,rfl,l,n,t,_⟩:=Cp I D r;obtain⟨L,G,rfl,o,_⟩:=l.uncons
 cases n with
 |@cons _ u1 _ us1 rv rr'=>
  cases wQ o;obtain⟨B,rfl⟩:=rv;exact⟨a,_,_,B,us1,rfl,t,rfl⟩
end
section
theorem Jv(hu:X.A.units+128<cLine)(I:↑2)(wd:Wd X.g α S H)(hl:SqL X.K H l xs)(F:DenL X.K α H ds xs)
  (hlen:ds.length<64) (hpu: ∀d,d∈ds->uY d=true) (hkd:2<=ds.length-> ∀d,d∈ds->SI d) (hord:OrdD S ds) 
  (hQ: ∀(k:Db) p  ys ,k.Perm (List.range ds.length)->k.Pairwise (λi j=> ∀a c,ds[i]? =some a->ds[j]? =some c->LN S zR c a=some false)->H p=none->
   DenL X.K α H (k.filterMap (ds[·]?)) ys->Q (.ref p) (jS H p (.lst ys))):wpAny ↑4 X.A (call (.builtin "sorted") [.ref l]) (EP X pins σ Q) X.xe s:=by
 obtain⟨f,D,⟨o,n0,e0,W,_,Z⟩,_⟩:=I.list hl;have P:s.heap.IsList l f.toArray:=⟨o,e0,W,n0,Z⟩
 have m:f.length=ds.length:=by rw[<-D.length,F.length]
 have ag:=đ;refine call_function_entry_kw kind_sorted plain_sorted entry_sorted (args_sorted1 _) ?_;unfold Builtin.«sorted»;refine wB (wP ?_);refine wB (collect_list P ?_ #[0]);refine wB (wpAny_newList ?_);generalize G:(s.heap.push (seqObj "list" #[] 0)).update s.heap.objs.size (Obj.mapSeq (· ++f.toArray))=h1;have ah:h1.objs.size=↑1+1:=by rw[<-G,Heap.size_update,size_push']
 have k1: ∀b u,s.heap.get? b=some u->h1.get? b=some u:=λb u e=>by rw[<-G,ē _ _ (ă (ä e))];exact hP0 _ e
 have B:(h1.push (seqObj "list" f.toArray 0)).get? h1.objs.size=some (seqObj "list" f.toArray 0):=è _ rfl;show wpAny _ _ _ _ _ {s with heap:=h1.push (seqObj "list" f.toArray 0)};dsimp only;generalize hL:h1.objs.size=L at *;have J:↑1<=L:=by lia
 refine wB (ú (wpAny_call_entry_kw slot_list_sort ⟨_,B,rfl⟩ entry_list_sort (Srt.sort_plainS B #[0] λE y=>?_) (Cw _)));dsimp only at y;generalize af:h1.push (seqObj "list" f.toArray 0)=h2 at *;have fL:DT X pins H L:=I.fpOk J (I.hok.fresh J);have k3: ∀b u,s.heap.get? b=some u->E.heap.get? b=some u:=λb u e=>by rw[y];refine hP0 _ (hP0 _ ?_);rw[ē _ _ (ă (æ (ä e) J)), <-af];exact hP0 _ (k1 b u e)
 have M:Inv X pins σ H E:=by have:=I.kept (t':=s.toks) k3;rw[y]at this ⊢;exact this
 have U:X.A.in1.in1.units+64<cLine:=by show X.A.units+1+1+64<cLine;lia
 obtain⟨q,gL⟩: ∃q,E.heap.get? L=some (seqObj "list" #[] q):=by rw[y];exact⟨_,hP0 _ (hP0 _ (get?_update_seq B (λ_=>#[])))⟩
 refine⟨tuples' true,(λp=> ∃d v,d∈ds/\Den X.K α H d v/\RelV v p.1),ltV X.K α H S ds,λC=>?_,λout op os=>?_⟩
 .have ne:ds≠[]:=λz=>by rw[m,z]at C;exact absurd C ↑3
  have n:=hkd (m▸C);refine⟨W2 M ne n F D,zDK M wd U ne n hord,λp hp=>?_⟩;have T:p.1∈f:=(of_mem_zip hp).1;obtain⟨i,hi⟩:=getElem?_of_mem T;have O:i<xs.length:=by rw[D.length];exact(gS.mp hi).1
  obtain⟨u',N,r⟩:=D.get (gE0 O);rw[hi]at N;cases N;obtain⟨d,aa,ab⟩:=F.get (gE0 O);exact⟨d,_,î aa,ab,r⟩
 .obtain⟨k,Y,ie⟩:=SF op.symm (List.range ds.length) (Jr m m);have ib: ∀i,i∈k->i<ds.length:=λi hi=>Ą.mp (Y.mem_iff.mp hi);have eo:out.map (·.2)=k.filterMap (f[·]?):=by rw[<-ie,List.map_map];exact NP λi hi=>by rw[m];exact ib i hi
  have po:k.Pairwise (λi j=> ∀a c,ds[i]? =some a->ds[j]? =some c->LN S zR c a=some false):=by rw[<-ie,pairwise_map]at os;refine List.Pairwise.imp_of_mem (λ{i j} hi hj h a c ha hc=>?_) os;have ui:f[i]? =some (f[i]'(by rw[m];exact ib i hi)):=gE0 _;have uj:f[j]? =some (f[j]'(by rw[m];exact ib j hj)):=gE0 _;have h':(LN S zR _ _).getD false=false:=h;rw[ui,uj]at h';simp only[Option.getD_some]at h';rw[Ov M hpu F D ui ha,Ov M hpu F D uj hc]at h';obtain⟨t,ht⟩:=hord.any c (î hc) a (î ha);rw[ht]at h';have h':t=false:=h';rw[ht,h']
  have vy:=Vals.pick D k;refine⟨_,rfl,wP ⟨_,rfl,.ref L,_,?_,rfl,hQ k L _ Y po (I.hok.fresh J) (F.pick k)⟩⟩;obtain⟨f0,f1,f2,f3,f4,f5⟩:=fL
  have I6:Inv X pins σ H {E with heap:=E.heap.update L (Obj.mapSeq λ_=>(out.map (·.2)).toArray)}:=
   M.turned (λb o hb e=>(ē _ _ (Ne.symm hb)).trans e) f0 f1 f3 f4 f5
  obtain⟨n',ae⟩: ∃n',(E.heap.update L (Obj.mapSeq λ_=>(out.map (·.2)).toArray)).get? L=some _:=⟨_,by have:=get?_update_seq gL (λ_=>(out.map (·.2)).toArray);rw[eo]at this ⊢;exact this⟩
  refine Jq I6 ⟨f0,f1,f2,f3,f4,f5⟩ (ì I.sz J) ae vy ?_
  .have:=ċ (xs[·]?) k;have h3:=Y.length_eq;rw[ù]at h3
   lia
end
structure SrtJ(S:Sto)(ds:U0):Prop where
 len:ds.length<64
 pu: ∀d,d∈ds->uY d=true
 kind:2<=ds.length-> ∀d,d∈ds->SI d
 ord:OrdD S ds
open Classical in
def SJ(rs:List Er)(S:Sto):R Er:=match rs with
 |[p]=>match bZ S p with
  |some ds=>if h: ∃r,SrtJ S ds/\ ∀a,Fo S ds ds a->a=r then .ok (.new (Classical.choose h)) S else .no
  |none=>.no
 |_=>.no
def Xj(e:bZ S p=some ds)(ok:SrtJ S ds)(u: ∀a,Fo S ds ds a->a=r)(ex:Fo S ds ds r):SJ [p] S=.ok (.new r) S:=by
 unfold SJ;dsimp only;rw[e];dsimp only;have h: ∃r,SrtJ S ds/\ ∀a,Fo S ds ds a->a=r:=⟨r,ok,u⟩
 rw[dif_pos h];obtain⟨_,b⟩:=û h;rw[<-b r ex]
section
def Jw(k:X.A.units+128<cLine):CallR X (.builtin "sorted") (λxs H Q=> ∃α S l e d,xs=[.ref l]/\Wd X.g α S H/\SqL X.K H l e/\DenL X.K α H d e/\SrtJ S d/\
  ∀(b:Db) p  ys ,b.Perm (List.range d.length)->b.Pairwise (λi j=> ∀a c,d[i]? =some a->d[j]? =some c->LN S zR c a=some false)->H p=none->DenL X.K α H (b.filterMap (d[·]?)) ys->Q (.ref p) (jS H p (.lst ys))):=by
 intro pins s σ H xs o Q I r h;obtain⟨α,S,l,e,d,rfl,wd,n,m,ok,q⟩:=h;obtain⟨u,rfl,f⟩:=vals1 r;cases f;exact Jv k I wd n m ok.len ok.pu ok.kind ok.ord q
def Xk:pY X W (λxs H Q=> ∃α S l n k,xs=[.ref l]/\Wd X.g α S H/\SqL X.K H l n/\DenL X.K α H k n/\SrtJ S k/\
  ∀(f:Db) p  m ,f.Perm (List.range k.length)->f.Pairwise (λi j=> ∀a c,k[i]? =some a->k[j]? =some c->LN S zR c a=some false)->H p=none->DenL X.K α H (f.filterMap (k[·]?)) m->Q (.ref p) (jS H p (.lst m))) SJ:=by
 intro B n α S H Q wd d b;unfold SJ at b;split at b
 .split at b
  .rename_i k e;split at b
   .rename_i h;obtain⟨v,rfl,q⟩:=sU d;obtain⟨l,t,rfl,z,r⟩:=AA rfl wd e q;obtain⟨ok,u⟩:=û h;refine⟨α,S,l,t,k,rfl,wd,z,r,ok,λf p m s w y o=>?_⟩;have A:=u _ ⟨f,s,w,rfl⟩;rw[A]at o;exact Post.newl b wd y o
   .exact b.elim
  .exact b.elim
 .exact b.elim
end
section
variable{X:Cx}{a o i e:Expr}{α:B9}{H:Hp}{pins:M0}{σ:St}{s:ĺ}
def W3:MV->Option Key
 |.int i=>some (.inl i)
 |.str x=>some (.inr (bW x))
 |_=>none
def QM: ∀{k}{k'},W3 k=some k'->KeyD k k'
 |.int i,_,h=>by cases h;exact rfl
 |.str x,_,h=>by cases h;exact rfl
 |.non,_,h=>nomatch h
 |.bl _,_,h=>nomatch h
 |.tup _,_,h=>nomatch h
 |.scr _,_,h=>nomatch h
 |.loc _,_,h=>nomatch h
 |.typ _,_,h=>nomatch h
 |.obj _ _ _,_,h=>nomatch h
def QN: ∀{k}{k'}{v},W3 k=some k'->Den X.K α H k v->v=kV k'
 |.int i,_,_,h,d=>by cases h;exact wQ d
 |.str x,_,_,h,d=>by cases h;exact jG d
 |.non,_,_,h,_=>nomatch h
 |.bl _,_,_,h,_=>nomatch h
 |.tup _,_,_,h,_=>nomatch h
 |.scr _,_,_,h,_=>nomatch h
 |.loc _,_,_,h,_=>nomatch h
 |.typ _,_,_,h,_=>nomatch h
 |.obj _ _ _,_,_,h,_=>nomatch h
def GX: ∀{k}{u},RelV (kV k) u->(jT X.prog X.w).is k u=true
 |.inl i,_,h=>by obtain⟨t,rfl⟩:=(h: ∃t,_=_);exact JR _ _ i t
 |.inr x,_,h=>by obtain⟨t,rfl⟩:=(h: ∃t,_=_);exact vO _ _ x t
def pS(k:MV):Bool:=(W3 k).isSome
def D8(j:ObD X.g α H d (.dic kvs))(f:kvs.all (λp=>pS p.1)=true): ∃b,DK X H d b/\DenK X.K α H kvs b:=by
 rcases j with⟨b,h,l⟩|⟨xs,h,l⟩
 .exact⟨b,.inl h,l⟩
 .cases l with
  |nil=>exact⟨[],.inr ⟨rfl,h⟩,.nil⟩
  |@cons k nk a d v u fs xs hn e ha hd r l=>
   rw[Ĝ,aE]at f;obtain⟨i,c⟩:=í.mp f.1;have:=QN c ha;cases i<;>cases this
def AQ(S:Sto):Er->Option (Nat×List (MV×MV))
 |.val (.loc l)=>match S[l]? with
  |some (.dic kvs)=>if kvs.all (λp=>pS p.1)=true then some (l,kvs)else none
  |_=>none
 |_=>none
def Jx(wd:Wd X.g α S H)(e:AQ S r=some (l,kvs))(d:DenX X.K α H r x):
  ∃c a,x=.ref c/\α[l]? =some c/\S[l]? =some (.dic kvs)/\DK X H c a/\DenK X.K α H kvs a/\kvs.all (λp=>pS p.1)=true:=by
 unfold AQ at e;split at e
 .rename_i n;obtain⟨c,rfl,h⟩:=iL d;split at e
  .rename_i a f;split at e
   .rename_i b;obtain⟨rfl,rfl⟩:=Prod.mk.inj (â e);obtain⟨xs,i,l⟩:=D8 (wd.obj _ c _ h f) b;exact⟨c,xs,rfl,h,f,i,l,b⟩
   .cases e
  .cases e
 .cases e
def VD(a:DK X H d ks):zAZ (H d):=by rcases a with z|⟨_,z⟩<;>rw[z]<;>exact trivial
def zDL(X:Cx):TSet:=λo i v H Q=> ∃(ks:List (Key×V))(d:Addr)(k:Key),o=.ref d/\i=kV k/\DK X H d ks/\ks.length<sizeLine/\Q (jS H d (.dK (AO ks k v)))
theorem Jy:Ud X (zDL X):=by
 intro pins s σ H o i v C E u Q I y t B h;obtain⟨w,d,k,rfl,rfl,f,F,q⟩:=h;cases y;obtain⟨z,A,J,a,p⟩:=bR I f;have G:=Paired.length a;have K:=GV w k v;refine wpAny_setItem_pairs (GX t) p λh' c e=>⟨_,?_,q⟩
 have j: ∃q,h'.get? d=some q:=let ⟨q,_,_,r,_⟩:=c;⟨q,r⟩;exact I.write (VD f) (.inl rfl) (λb D n m=>(e.2 b n).trans m) j ⟨by lia,A,_,Cr a _ B,c⟩
def EE(p q:Er)(d:MV)(ρ:Rho)(S:Sto):R Rho:=match q with
 |.val k=>match AQ S p with
  |some (l,kvs)=>if pS k=true/\kvs.length<1000000 then .ok ρ (S.set l (.dic (putK kvs k d)))else .no
  |none=>.no
 |_=>.no
def VE(ho:yI X W o f)(hi:yI X W i g)
  (ha: ∀v,assign (.Subscript o i pos) X.env v=(do
   let j <-holding [v] (eval o X.env);let s <-holding [v,j] (eval i X.env)
   standAt pos
   holding [v,j,s] (setItem j s v)
   release [v,j,s] []):=by intro _;rfl):B4 X W (.Subscript o i pos) (λd b S=>(f b S).bind λp A=>(g b A).bind λq K=>EE p q d b K):=by
 obtain⟨to,ho,O⟩:=ho;obtain⟨ti,hi,T⟩:=hi;refine⟨_,Bd ho hi Jy ha,λα b S σ H d v Q wd sl Z q=>O α b S σ H _ wd sl (q.bind λu p A t N e1 n U M P=>T t b A σ N _ U (sl.ext n) ((P.shift n).bind λu2 p2 K w H2 e2 m z d2 a=>?_))⟩
 replace a:=a.shift m
 have C:=DenX.ext m M.1;have r:=(Z.ext n).ext m;unfold EE at a;split at a
 .rename_i k;split at a
  .rename_i l Y e;split at a
   .rename_i E;obtain⟨c,J,rfl,F,hS,D,L,I⟩:=Jx z e C;obtain⟨G,h⟩:=í.mp E.1;refine⟨J,c,G,rfl,QN h d2.1,D,?_,?_⟩
    .rw[L.length];exact æ E.2 (fits (à _))
    .have y:=z.writex F D.nf (o:=.dK (AO J G v));have B:=((sl.ext n).ext m).ext y;exact a σ w _ y (z.write F D.nf (.inl ⟨_,yE,(NT L (QM h) r).ex0 y.toEx0⟩)) B
   .exact a.elim
  .exact a.elim
 .exact a.elim
def Oz{c:Type}[DecidableEq c]{knd:KeyKind prog w c}{k:c}{f:c->Option Ļ}(a:knd.is k key=true)(i:(d==sysModules)=false)(b:s.heap.MapOf knd d f)
  (h:Q (.bool !(f k).isSome) {s with toks:=s.toks+1}):wpAny (model prog w) A (compareOp .NotIn key (.ref d)) Q E s:=by
 show wpAny _ _ _ Q E s;refine wB ?_;unfold contains
 try with_reducible refine ú ?_
 refine wB (Ĩ b.typeIs slot_dict_contains.lookup ?_);show wpAny _ _ _ _ E s
 refine wB (wpAny_callSpecialUnlessNone?_slot b.typeIs slot_dict_contains
  (ð slot_dict_contains b.typeIs entry_dict_contains ?_ (args_dict_contains _ _)))
 show wpAny _ _ (dictGet d key >>= _) _ _ s;refine wB (wpAny_dictGet_of a b ?_)
 cases e:f k with
 |some v=>
  rw[e]at h;show wpAny _ _ _ _ _ _;exact wP ⟨_,rfl,Ă (wP h)⟩
 |none=>
  rw[e]at h;show wpAny _ _ _ _ _ _;exact wB (wpAny_pendingKey_other i (wP ⟨_,rfl,Ă (wP h)⟩))
abbrev W4(X:Cx)(a:Bool):R2:=λx y H Q=> ∃(ks:List (Key×V))(d:Addr)(k:Key),x=kV k/\y=.ref d/\DK X H d ks/\
 Q (.bl (if a=true then !(dN ks k).isSome else(dN ks k).isSome)) H
theorem look_same(r:KV ks vs)(k):(valueAt vs k).isSome=(dN ks k).isSome:=by
 obtain⟨b,a⟩:=GW r k
 cases h:dN ks k with
 |none=>rw[a h];rfl
 |some v=>obtain⟨u,e,_⟩:=b v h;rw[e];rfl
def Pa:OpR X (compareOp .In) (W4 X false):=by intro pins s σ H x y v u Q I b f h;obtain⟨c,d,k,rfl,rfl,i,q⟩:=h;cases f;obtain⟨_,e,m,a,j⟩:=bR I i;refine wpAny_in_of (GX b) e j.mapOf ?_;rw[look_same a k];exact⟨.bl (dN c k).isSome,H,I.kept (λ_ _ z=>z),rfl,q⟩
def Jz:OpR X (compareOp .NotIn) (W4 X true):=by intro pins s σ H x y v u Q I b f h;obtain⟨c,d,k,rfl,rfl,i,q⟩:=h;cases f;obtain⟨_,e,m,a,j⟩:=bR I i;refine Oz (GX b) e j.mapOf ?_;rw[look_same a k];exact⟨.bl !(dN c k).isSome,H,I.kept (λ_ _ z=>z),rfl,q⟩
def DV(a:Bool)(p q:Er)(S:Sto):R Er:=match p with
 |.val k=>match AQ S q with
  |some (_,kvs)=>if pS k=true then .ok (.val (.bl (if a=true then !(look kvs k).isSome else(look kvs k).isSome))) S else .no
  |none=>.no
 |_=>.no
theorem Ka(l:DenK X.K α H kvs ks)(b:KeyD k k'):(dN ks k').isSome=(look kvs k).isSome:=by
 obtain⟨a,c⟩:=mT l b
 cases h:look kvs k with
 |none=>rw[c h];rfl
 |some v=>obtain⟨u,e,_⟩:=a v h;rw[e];rfl
def VF:YH X W (W4 X neg) (DV neg):=by
 intro p q x y α S H Q wd o j a;unfold DV at a;split at a
 .rename_i k;split at a
  .rename_i l h e;split at a
   .rename_i f;obtain⟨c,d,rfl,_,_,n,m,_⟩:=Jx wd e j;obtain⟨i,b⟩:=í.mp f;refine⟨d,c,i,QN b o,rfl,n,?_⟩;rw[Ka m (QM b)];exact Post.val a wd (gP _)
   .exact a.elim
  .exact a.elim
 .exact a.elim
def W5(j:yI X W a f)(e:yI X W b g)(h:behindInMarks .In b=false:=by with_unfolding_all rfl):yI X W (.Compare a [.In] [b] pos) (λc S=>(f c S).bind λp i=>(g c i).bind λq d=>DV false p q d):=MU Pa VF j e h
def Pb(j:yI X W a f)(e:yI X W b g)(h:behindInMarks .In b=false:=by with_unfolding_all rfl):MQ X W (.Compare a [.In] [b] pos) (λc S=>((f c S).bind λp i=>(g c i).bind λq d=>DV false p q d).bind jW):=rC Pa VF j e h
def SK(j:yI X W a f)(e:yI X W b g)(h:behindInMarks .NotIn b=false:=by with_unfolding_all rfl):MQ X W (.Compare a [.NotIn] [b] pos) (λc S=>((f c S).bind λp i=>(g c i).bind λq d=>DV true p q d).bind jW):=rC Jz VF j e h
end
def vI(p:Er)(S:Sto):Bool:=(AQ S p).isSome
section
variable{α:B9}
def AR:List Er->Sto->R Er
 |[r],S=>match AQ S r with |some (_,kvs)=>.ok (.new (kvs.map (·.1))) S|none=>.no
 |_,_=>.no
def YZ(h:X.calm=true):pY X W (λxs H Q=> ∃d b,xs=[.ref d]/\DK X H d b/\X.calm=true/\ ∀l,H l=none->Q (.ref l) (jS H l (.lst (b.map λp=>kV p.1)))) AR:=by
 intro o r α S H Q wd d a;unfold AR at a;split at a
 .split at a
  .rename_i n i e;obtain⟨v,rfl,f⟩:=sU d;obtain⟨c,b,rfl,s,q,m,j,_⟩:=Jx wd e f;exact⟨c,b,rfl,m,h,λl k=>Post.newl a wd k (SH j)⟩
  .exact a.elim
 .exact a.elim
def Pc(h:X.calm=true):pY X W (λxs H Q=> ∃(a:Addr)(bs:N0),xs=[.ref a]/\SqL X.K H a (bs.map V.bl)/\X.calm=true/\Q (.bl (bs.any id)) H) Nt:=by
 intro i k α S H Q wd d b;unfold Nt at b;split at b
 .split at b
  .rename_i bs e;obtain⟨v,rfl,f⟩:=sU d
   cases z:bZ S _ with
   |none=>rw[z]at e;cases e
   |some ds=>
    rw[z]at e;obtain⟨c,j,rfl,s,l⟩:=AA rfl wd z f;refine⟨c,bs,rfl,?_,h,Post.val b wd (gP _)⟩;rw[<-IL e l];exact s
  .exact b.elim
 .exact b.elim
end
section
variable{b:Expr}
def GY:CallR X (.builtin "any") (λxs H Q=> ∃(a:Addr)(bs:N0),xs=[.ref a]/\SqL X.K H a (bs.map V.bl)/\X.calm=true/\Q (.bl (bs.any id)) H):=by
 intro pins s σ H xs M Q I r h;obtain⟨a,bs,rfl,G,y,q⟩:=h;obtain⟨u,rfl,A⟩:=vals1 r;cases A;obtain⟨d,z,p,J⟩:=I.list G;have c:d.length=bs.length:=by rw[<-z.length,lM]
 refine PySem.call_any_walk (wpAny_pyIter_list p.isList ?_);have C:a≠s.heap.objs.size:=by obtain⟨o,B,_⟩:=p.isList;exact ê (ä B)
 have I1: ∀(h':Heap)(n:Nat),(∀b o,b∉[↑1]->(s.heap.push {cls:=.type "list_iterator",data:=.fields #[.ref a,.int 0 0]}).get? b=some o->h'.get? b=some o)->Inv X pins σ H {s with heap:=h',toks:=n}:=λh' n k=>
  I.kept λb o e=>k b o (by simpa using ê (ä e)) (hP0 _ e)
 refine⟨↑1,[↑1,a],[↑1],d.toArray.size,_,_,λi=>bs.getD i false,rfl,PySem.Walks.list (by first |exact I.ok.hd y|exact(I.ok.hd y)) _ a C d.toArray,⟨⟨_,è _ rfl,rfl,rfl⟩,p.isList.at λo e=>hP0 _ e⟩,?_,λh' n k=>?_⟩
 .intro i v L P O D t;have f:=by simpa using D
  have hi:i<bs.length:=by rw[<-c];exact(gS.mp f).1
  have E:(bs.map V.bl)[i]? =some (V.bl (bs.getD i false)):=by simp[ć,hi]
  obtain⟨N,j,w⟩:=z.get E;rw[f]at j;cases j;cases w;exact Ă t
 .refine⟨.bl _,H,I1 h' n k,?_,q⟩;congr 1;rw[sA,c]
  have: ∀(l:N0),(List.range l.length).any (λi=>l.getD i false)=l.any id:=by
   intro l;rw[Bool.eq_iff_iff,ġ,ġ];constructor
   .rintro⟨i,hi,h⟩;have m:=Ą.mp hi;exact⟨l[i],getElem_mem m,by simpa [ć,m]using h⟩
   .rintro⟨x,F,h⟩;obtain⟨i,hi,rfl⟩:=getElem_of_mem F;exact⟨i,Ą.mpr hi,by simpa [ć,hi]using h⟩
  exact this bs
def shrC(i j:Int):Prop:=0<=j
instance(i j:Int):Decidable (shrC i j):=inferInstanceAs (Decidable (_<=_))
end
end M
end L2
namespace PySem
def VG:typeLookup (.type "list") "keys"=pure none:=am_miss_of_fast (by decide+kernel)
def getAttr?_miss_list
  (t:s.heap.get? a=some o) (q:o.cls=.type "list") (f:o.data=.seq xs k) (r:o.dict=none) (j:typeLookup (.type "list") name=pure none) (i:(["__module__","__name__","__qualname__","__doc__","__annotations__"]:K0).contains name=false) (B:A.handled=none)
  (h: ∀h' p,(∀b o,s.heap.get? b=some o->h'.get? b=some o)->Q none {s with heap:=h',toks:=p}) (hsz:name.length+100<=sizeLine:=by size_fits):
  wpAny (model prog w) A (getAttr? (.ref a) name) Q E s:=by
 obtain⟨c,y,v,sl⟩:=o;simp only at q f r;subst q f r;obtain⟨z,g,d,p,os⟩:=s;have u: ∀m,(⟨z,g,d,m,os⟩:ĺ).TypeIs (.ref a) "list":=λ_=>⟨_,t,rfl⟩
 have D:=sub_AttributeError;have H:=F.slot_list_getattribute.lookup;have J:=F.slot_list_getattribute.bind (.ref a);have K:=am_list_getattr_none;unfold getAttr? getAttrBy? getAttrBy
 repeat (any_goals (first |assumption|exact u _|((with_reducible show wpAny _ _ (call (Value.builtin "list.__getattribute__") _ _) _ _ _);refine call_meets F.slot_list_getattribute (u _) am_entry_list_getattribute (F.args_list_getattribute_2 _ _) (meets_getattribute_miss_list a xs k sl name _ j i hsz) ⟨t,B,λh' m e n=>?_⟩)|wp_step))
 obtain⟨C,I,G⟩:=n.there;show wpAny _ _ (getattributeRaised _ _ _ _ _ _ _) _ _ _;unfold getattributeRaised
 repeat (any_goals (first |assumption|wp_step))
 exact h _ _ n.keeps
namespace F
def entry_dict_update_loop:entryFor table "dict.update.loop"=some Builtin.«dict.update.loop»:=entryFor_of_tree (by kernel_rfl)
def plain_dict_update_loop:plainId "dict.update.loop"=true:=by decide+kernel
end F
open PyProof.Rows
section
variable{K:Type}[DecidableEq K]{knd:KeyKind prog w K}
def Cy(knd:KeyKind prog w K)(h:Heap)(c:K×Ļ)(v:Ļ):Prop:= ∃a b,v=.ref a/\IsTup h a #[b,c.2]/\knd.is c.1 b=true
theorem GZ{St:Nat->Heap->Prop}(W:Walks prog w A.in1 I fp [I] n P St)(u:D∉fp)(kvs)(X:kvs.length=n)(hz:n<=sizeLine)
  (hP: ∀i v,P i v-> ∃L,kvs[i]? =some L/\Cy knd h₀ L v) (hI:h₀.get? I=none) (hD:h₀.get? D=none):
  ∀ k i  j  s ,n - i=k->i<=n->St i s.heap->s.heap.DictOf knd D (merged [] (kvs.take i))->(∀b o,h₀.get? b=some o->s.heap.get? b=some o)->
   (∀h' C,(∀b o,h₀.get? b=some o->h'.get? b=some o)->h'.DictOf knd D (merged [] kvs)->R (.ok (.ret .none)) {s with heap:=h',toks:=C})->
   codeAny (model prog w) A (.builtin "dict.update.loop" ⟨[.ref D,.ref I,rawInt j,.none],[]⟩) R s:=by
 have z:D≠I:=λe=>u (e▸W.sub _ (mS.mpr rfl));intro k
 induction k with
 |zero=>
  intro i j s Y hi p G c T;have J:i=n:=by lia
  subst J;refine codeAny_builtin F.entry_dict_update_loop ?_;rw[Around.under_plainId F.plain_dict_update_loop _];show wpAny _ A.in1 _ _ _ s;refine wB (W.done s _ _ p λh' C f=>?_);show wpAny _ A.in1 _ _ _ _;refine wB (wP ?_);rw[<-X,take_length]at G;refine wP (T h' C (λb o e=>?_) ?_)
  .exact f b o (λh=>by rw[mS.mp h,hI]at e;cases e) (c b o e)
  .obtain⟨o,es,M,q,rest⟩:=G;exact⟨o,es,M,f D o (λh=>z (mS.mp h)) q,rest⟩
 |succ k ih=>
  intro i j s Y hi p G c T;have y:i<n:=by lia
  refine codeAny_builtin F.entry_dict_update_loop ?_;rw[Around.under_plainId F.plain_dict_update_loop _];show wpAny _ A.in1 (pyNext (.ref I) >>= _) _ _ s;refine wB (W.item i s _ _ y p λv h' C K E f=>?_);obtain⟨L,S,a,aa,rfl,hT,r⟩:=hP i v K;have d: ∀b o,h₀.get? b=some o->h'.get? b=some o:=λb o e=>f b o (λh=>by rw[mS.mp h,hI]at e;cases e) (c b o e);have Q:h'.DictOf knd D (merged [] (kvs.take i)):=by obtain⟨o,es,M,q,rest⟩:=G;exact⟨o,es,M,f D o (λh=>z (mS.mp h)) q,rest⟩
  obtain⟨o,q,Z,nn,B⟩:=hT.keeps d;have O:Shared.TypeIs {s with heap:=h',toks:=C} (.ref a) "tuple":=⟨o,q,Z⟩
  refine wB (ú ?_);refine wB (wpAny_tryCatch ?_);unfold Builtin.Dict.pairItems;refine wB (į O ?_);rw[iP ↑3];refine wB ?_;show wpAny _ _ _ _ _ _;refine wB (wpAny_load q ?_);rw[B];refine wP (wP ?_);show wpAny _ _ _ _ _ _;refine ú ?_;have U:=merged_length_le [] (kvs.take i);have ab:(kvs.take i).length<=n:=by rw[<-X];exact List.length_take_le' i kvs
  refine wpAny_dictSet_pairs r Q λh2 H t=>?_;have m: ∀b o,h₀.get? b=some o->h2.get? b=some o:=λb o e=>by rw[t.2 b (λh=>by rw[h,hD]at e;cases e)];exact d b o e
  refine wP ⟨plainId_quiet F.plain_dict_update_loop _,ih (i+1) (j+1) _ #[0] y (W.frame _ _ _ E λb hb o e=>?_) ?_ m λh3 N k3 d3=>T h3 N k3 d3⟩
  .rw[t.2 b (λh=>u (h▸hb))];exact e
  .rw[merged_take_succ _ _ _ _ S];exact H
def KY(D:A.handled=none)(ho:s.heap.get? l=some o)(u:o.cls=.type "list")(J:o.dict=none)(d:o.data=.seq its c)(p:its.size=kvs.length)(L:its.size<=sizeLine)
  (hP: ∀(i:Nat) v,its[i]? =some v-> ∃G,kvs[i]? =some G/\Cy knd s.heap G v)
  (h: ∀h' z,(∀b o,s.heap.get? b=some o->h'.get? b=some o)->h'.DictOf knd ↑1 (merged [] kvs)->Q (.ref ↑1) {s with heap:=h',toks:=z}):
  wpAny (model prog w) A (call (.type "dict") [.ref l]) Q E s:=by
 refine callType_codes (Q₁:=λr f=>r=.ref ↑1/\f={s with heap:=s.heap.push {cls:=.type "dict",data:=.dict #[]}}) F.kt_called_dict (F.kt_typeCall_dict_1 _) F.entry_dict_init (kt_code_dict_new _ ⟨rfl,rfl⟩) ?_;rintro r f ⟨rfl,rfl⟩;have a:(s.heap.push {cls:=.type "dict",data:=.dict #[]}).DictOf knd ↑1 []:=Heap.DictOf.new s.heap;have m:(s.heap.push {cls:=.type "dict",data:=.dict #[]}).get? l=some o:=hP0 _ ho;have C:=ä ho;refine⟨a.typeIs,F.args_dict_init_2 _ _,?_⟩;unfold Builtin.«dict.__init__»;refine wB ?_;unfold Builtin.Dict.selfAndRest;refine wB (wpAny_notOrdered_dict a.typeIs ?_);show wpAny _ _ _ _ _ _;refine wP ?_;show wpAny _ _ (Builtin.Dict.updateFrom "dict.__init__" ↑1 (.ref l) [] .none) _ _ _;unfold Builtin.Dict.updateFrom;refine wB (į ⟨o,m,u⟩ ?_);rw[iP ↑3];refine wB (getAttr?_miss_list m u d J VG (by decide+kernel) D (λy H t=>?_) (by decide+kernel));rw[iP (show(none:Option Ļ).isNone=true from rfl)];refine wB (Ģ ?_);have j:=t l o m;refine wB (wpAny_pyIter_list ⟨o,j,u,c,d⟩ ?_);have K:l≠y.objs.size:=ê (ä j);have q:↑1<y.objs.size:=by obtain⟨n,_,_,k,_⟩:=a;exact ä (t _ _ k)
 refine wP ⟨plainId_quiet F.plain_dict_update_loop _,GZ (Walks.list (by first |exact D|exact D) y.objs.size l K its) ?_ kvs p.symm L hP ?_ ?_ _ 0 0 _ rfl (zero_le _) ⟨⟨_,è _ rfl,rfl,rfl⟩,⟨o,hP0 _ j,u,c,d⟩⟩ ?_ ?_ λh' z I B=>?_⟩
 .rw[mC,mS];rintro(e|e)
  .exact ê q e
  .exact ê C e.symm
 .cases k:s.heap.get? y.objs.size with
  |none=>rfl
  |some n=>exact absurd (ä k) (Nat.lt_asymm q)
 .cases k:s.heap.get? ↑1 with
  |none=>rfl
  |some n=>exact absurd (ä k) (ģ _)
 .obtain⟨n,es,M,k,rest⟩:=a;exact⟨n,es,M,hP0 _ (t _ _ k),rest⟩
 .intro b n e;exact hP0 _ (t _ _ (hP0 _ e))
 .exact⟨rfl,h h' z I B⟩
end
end PySem
namespace L2
namespace M
open PySem PySem.Spec PyProof.Rows
section
variable{X:Cx}{α:B9}{H:Hp}
def KD(ps:List (Key×V)):List (Key×V):=ps.foldl (λa p=>AO a p.1 p.2) []
inductive PairsV(K:R0)(H:Hp):List V->List (Key×V)->Prop
 |nil:PairsV K H [] []
 |cons {a:Addr} {k:Key} {v:V} {vs ps}:SqT K H a [kV k,v]->PairsV K H vs ps->PairsV K H (.ref a::vs) ((k,v)::ps)
def VH(r:KV ps qs): ∀{as}{bs},KV as bs->KV (ps.foldl (λa p=>AO a p.1 p.2) as) (merged bs qs):=by
 induction r with
 |nil=>intro as bs h;exact h
 |@cons p q ps qs h t ih=>
  intro as bs b;rw[ħ];show KV _ _;rw[h.1];exact ih (Cr b _ h.2)
def Pd(I:↑2)(r:PairsV X.K H vs ps): ∀{us},Vals vs us-> ∃b:List (Key×Ļ),KV ps b/\b.length=us.length/\ ∀(i:Nat) v,us[i]? =some v-> ∃c,b[i]? =some c/\Cy (jT X.prog X.w) s.heap c v:=by
 induction r with
 |nil=>intro us h;cases h;exact⟨[],.nil,rfl,λi v h=>by simp at h⟩
 |@cons a k v vs ps hq t ih=>
  intro us h
  cases h with
  |@cons _ u _ us ru rt=>
   cases ru;obtain⟨b,y,m,o⟩:=ih rt;obtain⟨j,p,q,z⟩:=I.tuple hq;obtain⟨f,d,rfl,e,n⟩:=vals2 p;refine⟨(k,d)::b,.cons ⟨rfl,n⟩ y,by rw[lC,lC,m],λi w hw=>?_⟩
   cases i with
   |zero=>
    cases hw;exact⟨_,rfl,a,f,rfl,q,GX e⟩
   |succ i=>exact o i w hw
theorem SN(ps):(KD ps).length<=ps.length:=by
 have: ∀(ps as:List (Key×V)),(ps.foldl (λa p=>AO a p.1 p.2) as).length<=as.length+ps.length:=by
  intro ps
  induction ps with
  |nil=>intro as;exact à _
  |cons p ps ih=>
   intro as;rw[ħ,lC];have:=ih (AO as p.1 p.2);have:=GV as p.1 p.2
   lia
 have:=this ps [];rw[ç,İ]at this;exact this
def Cz{K:R0}(r:PairsV K H vs ps):ps.length=vs.length:=by
 induction r with
 |nil=>rfl
 |cons _ _ ih=>rw[lC,lC,ih]
theorem SO:CallR X (.type "dict") (λxs H Q=> ∃l f ps,xs=[.ref l]/\SqL X.K H l f/\PairsV X.K H f ps/\X.calm=true/\ ∀d,H d=none->Q (.ref d) (jS H d (.dK (KD ps)))):=by intro pins s σ H xs O Q I r h;obtain⟨l,f,ps,rfl,F,k,p,q⟩:=h;obtain⟨u,rfl,B⟩:=vals1 r;cases B;obtain⟨m,j,⟨o,n,y,b,C,a⟩,L⟩:=I.list F;obtain⟨J,E,z,A⟩:=Pd I k j;have M:=j.length;refine KY (I.ok.hd p) y b C a (by rw[sA,z]) (by rw[sA];lia) (λi v e=>A i v (by simpa using e)) λh' N t c=>?_;have D:=Cz k;have G:=SN ps;refine⟨.ref ↑1,_,I.laid t (à _) (show ObjOk X.prog X.w _ h' _ (.dK (KD ps))from⟨by lia,Ċ.mpr (Ne.symm (ê (NH I))),_,VH E .nil,c⟩),rfl,q _ (I.hok.fresh (à _))⟩
def AS:List MV->Option (List (MV×MV))
 |[]=>some []
 |.tup [k,v]::r=>if pS k=true then(AS r).map ((k,v)::·)else none
 |_::_=>none
def Pe(ps:Z0):List (MV×MV):=ps.foldl (λa p=>putK a p.1 p.2) []
theorem NV{K:R0}: ∀{ds}{kvs}{vs},AS ds=some kvs->DenL X.K α H ds vs-> ∃ps,PairsV X.K H vs ps/\DenK X.K α H kvs ps
 |[],kvs,vs,e,l=>by cases e;rw[l.isnil];exact⟨[],.nil,.nil⟩
 |d::ds,kvs,vs,e,l=>by
  obtain⟨v,r,rfl,h,i⟩:=l.uncons;unfold AS at e;split at e
  .cases (by assumption:d::ds=[])
  .rename_i k y D p;obtain⟨rfl,rfl⟩:=List.cons.inj p;split at e
   .rename_i m
    cases z:AS ds with
    |none=>rw[z]at e;cases e
    |some ms=>
     rw[z]at e;cases e;obtain⟨ps,p1,p2⟩:=NV (K:=K) z i;obtain⟨a,B,rfl,j,n⟩:=wD h;obtain⟨E,C,rfl,c,f⟩:=n.uncons;obtain⟨u,A,rfl,t,s⟩:=f.uncons;have q:=s.isnil;subst q;obtain⟨w,b⟩:=í.mp m;have o:=QN b c;subst o;exact⟨_,.cons j p1,.cons (QM b) t p2⟩
   .cases e
  .cases e
theorem DM: ∀{kvs}{ps},DenK X.K α H kvs ps-> ∀{as}{bs},DenK X.K α H as bs->DenK X.K α H (kvs.foldl (λb p=>putK b p.1 p.2) as) (ps.foldl (λb p=>AO b p.1 p.2) bs)
 |_,_,.nil,as,bs,h=>h
 |_,_,.cons hk a l,as,bs,h=>by exact DM l (NT h hk a)
def ZA:List Er->Sto->R Er
 |[r],S=>match (bZ S r).bind AS with |some kvs=>.ok (.val (.loc S.length)) (S++[.dic (Pe kvs)])|none=>.no
 |_,_=>.no
def LQ:bootBuiltins "dict"=some (.type "dict"):=by decide+kernel
def Ft(k:X.calm=true):pY X W (λxs H Q=> ∃l b ps,xs=[.ref l]/\SqL X.K H l b/\PairsV X.K H b ps/\X.calm=true/\ ∀d,H d=none->Q (.ref d) (jS H d (.dK (KD ps)))) ZA:=by
 intro s b α S H Q wd d a;unfold ZA at a;split at a
 .split at a
  .rename_i r e;obtain⟨v,rfl,j⟩:=sU d
   cases z:bZ S _ with
   |none=>rw[z]at e;cases e
   |some ds=>
    rw[z]at e;obtain⟨h,n,rfl,i,l⟩:=AA rfl wd z j;obtain⟨ps,p1,p2⟩:=NV (K:=X.K) e l;refine⟨h,n,ps,rfl,i,p1,k,λp f=>?_⟩;have c:=wd.newx (o:=.dK (KD ps)) f;obtain⟨x,q⟩:=wd.put (m:=.dic _) f (.inl ⟨_,yE,(DM p2 .nil).ex0 ⟨⟨[p],rfl⟩,c.tup,c.frz⟩⟩);exact a _ _ _ x q (DenE.val (eY (by rw[<-wd.len,é (à _),sub_self];rfl)))
  .exact a.elim
 .exact a.elim
end
section
variable{apos pos:Pos}{α:B9}{H:Hp}{σ:St}
def Fv(ks ps:List (Key×V)):List (Key×V):=ps.foldl (λa p=>AO a p.1 p.2) ks
theorem SQ: ∀ ps a ,(Fv a ps).length<=a.length+ps.length
 |[],a=>à _
 |p::ps,a=>by
  have c:=SQ ps (AO a p.1 p.2);have b:=GV a p.1 p.2;show(Fv (AO a p.1 p.2) ps).length<=_;rw[lC]
  lia
def D9(X:Cx):V->List V->Hp->VK->Prop:=λx a H Q=> ∃(ks ps:List (Key×V))(d p:Addr),x=.ref d/\a=[.ref p]/\d≠p/\DK X H d ks/\DK X H p ps/\ks.length+ps.length<2000000/\Q .non (jS H d (.dK (Fv ks ps)))
theorem Xl:Uv X "dict.update" (D9 X):=by
 intro pins s σ H x u v T Q I E L h;obtain⟨t,ps,d,p,rfl,rfl,m,k,M,O,q⟩:=h;obtain⟨S,rfl,K⟩:=vals1 L;cases E;cases K;have y:s.TypeIs _ "dict":=(IU pins s σ H (.ref d) _ I rfl ⟨d,t,rfl,k⟩).1;obtain⟨z,w,u,o,D⟩:=bR I k;obtain⟨U,e,i,a,c⟩:=bR I M;have P:=Paired.length o;have J:=Paired.length a;have n:=đ
 refine call_meetsIn PySem.F.slot_dict_update y PySem.F.entry_dict_update (PySem.F.args_dict_update_2 _ _) (meets_dict_update _ d p m e)
  ⟨u,i,D,c,by rw[n];lia,λh' r _ C=>?_⟩
 have j: ∃q,h'.get? d=some q:=let ⟨q,_,_,G,_⟩:=r;⟨q,G⟩;have B:=SQ ps t;refine⟨.non,jS H d _,?_,rfl,q⟩;exact I.write (VD k) (.inl rfl) (λb N f A=>(C.2 b f).trans A) j ⟨by rw[n];lia,w,_,VH a o,r⟩
def HA(kvs ps:Z0):List (MV×MV):=ps.foldl (λa p=>putK a p.1 p.2) kvs
def EF(p:Er)(rs:List Er)(S:Sto):R Er:=match rs with
 |[r]=>match AQ S p with
  |some (l,kvs)=>match AQ S r with
   |some (m,ps)=>if l≠m/\kvs.length+ps.length<1000000 then .ok (.val .non) (S.set l (.dic (HA kvs ps)))else .no
   |none=>.no
  |none=>.no
 |_=>.no
theorem Xm:UG X W (D9 X) EF:=by
 intro p E x J α S G H Q C wd B s y a;unfold EF at a;split at a
 .rename_i r;split at a
  .rename_i l A w;split at a
   .rename_i m ps D;split at a
    .rename_i t
     cases y with
     |cons dv n1 l1=>
     cases l1;obtain⟨c,n,rfl,h,F,b,q,_⟩:=Jx wd w s;obtain⟨j,f,rfl,u,v,d,e,_⟩:=Jx wd D dv.1;have i:c≠j:=λz=>t.1 (by subst z;exact(List.getElem?_inj (gS.mp h).1 wd.nd).mp (h.trans u.symm));have I:=DenK.length q;have K:=DenK.length e;refine⟨n,f,c,j,rfl,rfl,i,b,d,by lia,?_⟩;have k:=wd.writex h b.nf (o:=.dK (Fv n f));exact(Post.shift (B.trans k) a).val (wd.write h b.nf (.inl ⟨_,yE,(DM e q).ex0 k.toEx0⟩)) DA
    .exact a.elim
   .exact a.elim
  .exact a.elim
 .exact a.elim
def Fw(ho:yI X W o f)(i:MR X W (e::es) af)
  (hbase:attributeBase o "update" X.env (eval o X.env)=eval o X.env:=by rfl)
  (hfew:((backTo pos (starEach (e::es) X.env)).all (λx=>!x.1)&&(backToKw pos (keywordEach [] X.env)).all (λx=>x.1.isSome)
   &&decide ((e::es).length+([]:List Keyword).length+(if([]:List Keyword).isEmpty then 0 else 1)<30))=true:=by rfl)
  (hline:(apos.endLine==pos.line)=true:=by rfl) (hs:q8 X e es:=by rfl) (hplain:q9 X pos es:=by rfl):
  yI X W (.Call (.Attribute o "update" apos) (e::es) [] pos) (λa S=>(f a S).bind λp d=>if vI p d=true then(af a d).bind λh r=>EF p h r else .no):=by
 obtain⟨K,ho,B⟩:=ho;obtain⟨t,i,k⟩:=i;refine⟨_,Ct IU PySem.F.plainAttrs_dict PySem.F.slot_dict_update PySem.F.type_dict_update Xl ho i hbase hfew hline hs hplain,λα a S σ H Q wd sl q=>B α a S σ H _ wd sl (q.bind λu p d b y L w z v n=>?_)⟩;split at n
 .rename_i m;obtain⟨⟨l,E⟩,m⟩:=í.mp m;obtain⟨c,xs,rfl,_,_,I,_⟩:=Jx z m v.1;exact⟨⟨c,xs,rfl,I⟩,k b a d σ y _ z (sl.ext w) ((n.shift w).bind λG h r j D M s C J A=>Xm p h _ G j r y D Q b C s (v.1.ext s) J A)⟩
 .exact n.elim
end
section
open Classical in
def ZC(n:Nat)(p q:Er)(S:Sto):R Er:=match p with
 |.val k=>match q with
  |.val d=>if pS k=true/\S[n]? =some (.dic [])then .ok (.val (.loc n)) (S.set n (.dic [(k,d)]))else .no
  |_=>.no
 |_=>.no
def Pf(P:yI X W a f)(B:yI X W b g):yI X W (.Dict [some a] [b] pos) (λy S=>(f y (S++[.dic []])).bind λp L=>(g y L).bind λq S2=>ZC ↑0 p q S2):=by
 obtain⟨ta,P,fa⟩:=P;obtain⟨tb,B,fb⟩:=B;refine⟨λσ H Q=> ∀p,H p=none->ta σ (jS H p (.dK [])) λv D=>tb σ D λu n=> ∃k,v=kV k/\DK X n p []/\Q (.ref p) (jS n p (.dK [(k,u)])),λpins s σ H Q I h=>?_,λα y S σ H Q wd sl q p hp=>?_⟩
 .have I0:=I.laid (a:=↑1) (o:=.dK []) (t':=s.toks) (h':=s.heap.push {cls:=.type "dict",data:=.dict #[]}) (λ_ _ q=>hP0 _ q) (à _)
   ⟨zero_le _,Ċ.mpr (Ne.symm (ê (NH I))),[],.nil,Heap.DictOf.new s.heap⟩
  refine wpAny_Dict_pairs (knd:=jT X.prog X.w) (pairs:=[(eval a X.env,do let x <-eval b X.env;standAt pos;pure x)]) rfl (by simp) (by simp) ?_;refine evalPairs_cons (ü (P _ _ _ _ _ I0 (h _ (I.hok.fresh (à _)))) (λkv s1 M=>?_) λ_ _ e=>e);obtain⟨v,D,I1,r1,t1⟩:=M;refine wB (ü (B _ _ _ _ _ I1 t1) (λvv s2 T=>?_) λ_ _ e=>e);obtain⟨u,n,Y,r2,k,rfl,t,q⟩:=T;refine wB (wpAny_standAt (wP (evalPairs_nil ?_)));obtain⟨z,hs,vs,U,dm⟩:=bR Y t;have hl:([]:List (Key×V)).length=vs.length:=Paired.length U;have O:vs=[]:=ĝ.mp hl.symm;subst O;refine⟨[(k,vv)],⟨GX (X:=X) r1,rfl,trivial⟩,dm,λh' C F=>⟨.ref _,_,?_,rfl,q⟩⟩;have he: ∃q,h'.get? ↑1=some q:=let ⟨q,_,_,hq,_⟩:=C;⟨q,hq⟩;exact Y.write (t':=_) (x:=↑1) (e:=↑1) (VD t) (.inl rfl) (λb uo B eo=>(F.2 b B).trans eo) he ⟨by rw[đ];simp,hs,_,.cons ⟨rfl,r2⟩ .nil,C⟩
 .obtain⟨x,w'⟩:=wd.put (ho:=.dK []) (m:=.dic []) hp (.inl ⟨[],yE,.nil⟩);refine fa (α++[p]) y (S++[.dic []]) σ _ _ w' (sl.ext x) ((q.shift x).bind λv r L G D e1 E w1 d1 q1=>?_);refine fb G y L σ D _ w1 (sl.ext (x.trans E)) ((q1.shift E).bind λu r2 S2 j n e2 N J d2 i=>?_);unfold ZC at i;split at i
  .rename_i k;split at i
   .rename_i d;split at i
    .rename_i hk;obtain⟨Z,A⟩:=í.mp hk.1;have dk:Den X.K j n k v:=d1.1.ext N;have ek:=QN (X:=X) (α:=j) (H:=n) A dk;subst ek;have c:j[↑0]? =some p:=by obtain⟨t1,M⟩:=E.pre;obtain⟨t2,T⟩:=N.pre;rw[T,M,aA,aA, <-wd.len,é (à _),sub_self];rfl
     obtain⟨ks,t,dl⟩:=D8 (J.obj _ p _ c hk.2) rfl;cases dl;refine⟨Z,rfl,t,?_⟩;have xw:=J.writex c t.nf (o:=.dK [(Z,u)]);exact(Post.shift (N.trans xw) i).val (J.write c t.nf (.inl ⟨_,yE,.cons (QM A) (d2.1.ext xw) .nil⟩)) (eY (by rw[c]))
    .exact i.elim
   .exact i.elim
  .exact i.elim
end
section
theorem SR:CallR X (.builtin "len") (λxs H Q=> ∃d a,xs=[.ref d]/\DK X H d a/\Q (.int a.length) H):=by intro pins s σ H i p Q I f h;obtain⟨d,a,rfl,k,q⟩:=h;obtain⟨n,rfl,e⟩:=vals1 f;cases e;obtain⟨z,b,i,c,m⟩:=bR I k;have j:=Paired.length c;have o:=đ;refine PySem.call_len_dict b m #[0] ⟨.int a.length,H,(I.tok _).tok _,by rw[j];exact⟨_,rfl⟩,q⟩
def SS:List Er->Sto->R Er
 |[r],S=>match AQ S r with
  |some (_,kvs)=>.ok (.val (.int kvs.length)) S
  |none=>.no
 |_,_=>.no
def Fx:pY X W (λxs H Q=> ∃d b,xs=[.ref d]/\DK X H d b/\Q (.int b.length) H) SS:=by
 intro n o α S H Q wd d a;unfold SS at a;split at a
 .split at a
  .rename_i l j e;obtain⟨v,rfl,h⟩:=sU d;obtain⟨c,b,rfl,p,m,f,k,_⟩:=Jx wd e h;have i:=DenK.length k;refine⟨c,b,rfl,f,?_⟩;rw[i];exact Post.val a wd (jV _)
  .exact a.elim
 .exact a.elim
def d1J(f g:AX)(ρ:Rho)(S:Sto):R Er:=(f ρ (S++[.dic []])).bind λp b=>(g ρ b).bind λq a=>ZC ↑0 p q a
def Kb(c:yI X W a f)(d:yI X W b g):yI X W (.Dict [some a] [b] pos) (d1J f g):=Pf c d
end
section
variable{a:Expr}{pos apos:Pos}
def E3:V->List V->Hp->VK->Prop:=λx a H Q=> ∃l xs y,x=.ref l/\a=[]/\H l=some (.lst xs)/\xs[xs.length - 1]? =some y/\Q y (jS H l (.lst (xs.eraseIdx (xs.length - 1))))
def Xn:Uv X "list.pop" E3:=by
 intro pins s σ H x o v m Q I i k h;obtain⟨l,xs,y,rfl,rfl,d,j,q⟩:=h;cases i;have b:=k.zero;subst b;obtain⟨z,a,n,r,f,e⟩:=I.lstM d;obtain⟨w,hw,c⟩:=r.get j
 refine call_meets F.slot_list_pop ⟨_,e,rfl⟩ F.entry_list_pop (F.args_list_pop_1 _)
  (MeetsSeq.list_pop_last l a.toArray n w (by rw[sA, <-f, <-Ā];exact hw) (by rw[sA];omega)) ⟨e,?_⟩
 refine⟨y,_,I.lset (its':=a.eraseIdx (xs.length - 1)) d e ?_ (r.eraseIdx (xs.length - 1)) ?_,c,q⟩
 .show a.toArray.eraseIdxIfInBounds (a.toArray.size - 1)=(a.eraseIdx (xs.length - 1)).toArray;rw[List.eraseIdxIfInBounds_toArray,sA,f]
 .have:=RI xs (xs.length - 1);omega
noncomputable def EG(p:Er)(rs:List Er)(S:Sto):R Er:=match p,rs with
 |.val (.loc l),[]=>match S[l]? with
  |some (.lst ds)=>match ds[ds.length - 1]? with
   |some d=>.ok (.val d) (S.set l (.lst (ds.eraseIdx (ds.length - 1))))
   |none=>.no
  |_=>.no
 |_,_=>.no
def Xo:UG X W E3 EG:=by
 intro p z x B α S A H Q v wd t u n b;unfold EG at b;split at b
 .rename_i l;obtain⟨a,rfl,h⟩:=iL u;cases n;obtain⟨s,w,r⟩:=wd.of h;rw[w]at b
  cases s with
  |lst ds=>
   obtain⟨e,j,i⟩:=r;dsimp only at b;split at b
   .rename_i d m;obtain⟨y,k,q⟩:=i.at m;have c:e.length=ds.length:=i.length;have f:=wd.writex h (Mo j) (o:=.lst (e.eraseIdx (e.length - 1)));refine⟨a,e,y,rfl,rfl,j,by rw[c];exact k,?_⟩;exact(b.shift (t.trans f)).val (wd.write h (Mo j) ⟨_,yE,by rw[c];rw[c]at f;exact(i.eraseIdx (ds.length - 1)).ext f⟩) (q.ext f)
   .exact b.elim
  |dic _=>exact b.elim
  |ins _ _=>exact b.elim
  |rcd _ _=>exact b.elim
  |fdc _=>exact b.elim
 .exact b.elim
def VI(ho:yI X W a f)(c:attributeBase a "pop" X.env (eval a X.env)=eval a X.env:=by rfl)(b:(apos.endLine==pos.line)=true:=by rfl):
  yI X W (.Call (.Attribute a "pop" apos) [] [] pos) (λe S=>(f e S).bind λp d=>if wF p d=true then EG p [] d else .no):=
 YJ PySem.F.plainAttrs_list PySem.F.slot_list_pop PySem.F.type_list_pop Xn Xo UQ ho c b
end
section
variable{K:Type}[DecidableEq K]
def TSet(knd:KeyKind prog w K)(h:Heap)(a:Addr)(S:K->Bool)(n:Nat)(b:Bool):Prop:=
 ∃o es c t,h.get? a=some o/\o.ExactSet/\o.data=.set es c t/\ElemsOf knd es.toList/\(∀k,S k=true↔ ∃e∈es.toList,knd.is k e.2=true)
  /\es.size<scanBound/\t.fits es.size=true/\es.size=n/\t.led=b/\(es.size=0\/t.plain=false)/\(es.toList.map (·.2)).Pairwise (λx y=> ∀k,knd.is k x=true-> ¬knd.is k y=true)
end
def StrT(val:Nat->Key)(i:Nat)(v:Ļ):Prop:= ∃x t,val i=.inr x/\v=.str x t
def StrT.is(h:StrT val i v):(jT P w).is (val i) v=true/\v.scannable=true/\plainKind v=false:=by obtain⟨x,t,e,rfl⟩:=h;rw[e];exact⟨vO P w x t,rfl,rfl⟩
def SetAt(h:Heap)(D:Addr)(es:Array (Int×Ļ))(a:Nat)(t:SetTable):Prop:= ∃o,h.get? D=some o/\o.ExactSet/\o.data=.set es a t/\t.fits es.size=true
def SetAt.keep(x:SetAt h D es ep t)(m: ∀o,h.get? D=some o->h'.get? D=some o):SetAt h' D es ep t:=by obtain⟨o,a,r⟩:=x;exact⟨o,m o a,r⟩
section
theorem Pg:CallR X (.type "dict") (λxs H Q=> ∃d a,xs=[.ref d]/\DK X H d a/\ ∀p,H p=none->Q (.ref p) (jS H p (.dK a))):=by intro pins s σ H xs y Q I r h;obtain⟨d,a,rfl,k,q⟩:=h;obtain⟨u,rfl,j⟩:=vals1 r;cases j;obtain⟨v,m,z,i,t⟩:=bR I k;have A:=Paired.length i;refine kt_call_dict m t #[0] λh' f c=>?_;have n: ∀b o,s.heap.get? b=some o->h'.get? b=some o:=λb o e=>(c.2 b (ê (ä e))).trans (hP0 _ e);refine⟨.ref ↑1,_,I.laid n (à _) (show ObjOk X.prog X.w _ h' _ (.dK a)from⟨v,Ċ.mpr (Ne.symm (ê (NH I))),_,i,f⟩),rfl,q _ (I.hok.fresh (à _))⟩
def Kc:List Er->Sto->R Er
 |[r],S=>match AQ S r with |some (_,kvs)=>.ok (.val (.loc S.length)) (S++[.dic kvs])|none=>.no
 |_,_=>.no
def W6:pY X W (λxs H Q=> ∃d b,xs=[.ref d]/\DK X H d b/\ ∀p,H p=none->Q (.ref p) (jS H p (.dK b))) Kc:=by
 intro s u α S H Q wd d a;unfold Kc at a;split at a
 .split at a
  .rename_i l f e;obtain⟨v,rfl,k⟩:=sU d;obtain⟨c,b,rfl,r,t,j,q,_⟩:=Jx wd e k;refine⟨c,b,rfl,j,λp i=>?_⟩;have h:=wd.newx (o:=.dK b) i;obtain⟨x,n⟩:=wd.put (m:=.dic f) i (.inl ⟨_,yE,q.ex0 ⟨⟨[p],rfl⟩,h.tup,h.frz⟩⟩);exact a _ _ _ x n (DenE.val (eY (by rw[<-wd.len,é (à _),sub_self];rfl)))
  .exact a.elim
 .exact a.elim
end
section
variable{e:Expr}{apos pos:Pos}
def rGX(X:Cx):V->List V->Hp->VK->Prop:=λx a H Q=> ∃(ks:List (Key×V))(d:Addr)(k:Key)(y:V),x=.ref d/\(a=[kV k,y]\/(a=[kV k]/\y=.non))/\DK X H d ks/\Q ((dN ks k).getD y) H
def Xp:Uv X "dict.get" (rGX X):=by
 intro pins s σ H x U v T Q I N p h;obtain⟨n,d,k,y,rfl,j,t,q⟩:=h;cases N;have B:s.TypeIs (.ref d) "dict":=(IU pins s σ H (.ref d) (.ref d) I rfl ⟨d,n,rfl,t⟩).1;obtain⟨_,G,S,J,M⟩:=bR I t;obtain⟨D,P⟩:=GW J k
 have o: ∀(A:Around)(a b:Ļ)(K:Option Ļ->Sem Fin),RelV (kV k) a->RelV y b->(∀v,K (some v)=ret v)->(K none=Builtin.Dict.missed d a >>= λr=>match r with |some v=>ret v|none=>ret b)->
   wpAny ↑4 A (dictGet d a >>= K) (λm O=> ∃v,m=.done (.ret v)/\EP X pins σ Q v O) (λ_ _=>False) s:=λA a b K c i C L=>by
  refine wB (wpAny_dictGet_of (knd:=jT X.prog X.w) (GX (X:=X) c) M.mapOf ?_)
  cases f:dN n k with
  |some v=>
   obtain⟨u,e,E⟩:=D v f;rw[f]at q;rw[e,C];exact wP ⟨u,rfl,v,H,I.tok _,E,q⟩
  |none=>
   rw[f]at q;rw[P f,L];exact wB (wpAny_missed_other G (wP ⟨b,rfl,y,H,I.tok _,i,q⟩))
 rcases j with rfl|⟨rfl,rfl⟩
 .obtain⟨a,b,rfl,c,i⟩:=vals2 p;refine ð PySem.F.slot_dict_get B PySem.F.entry_dict_get ?_ (PySem.F.args_dict_get_3 _ _ _);show wpAny _ _ (dictGet d a >>= _) _ _ s;exact ü (o _ a b _ c i (λ_=>rfl) rfl) (λ_ _ z=>z) λ_ _ z=>z.elim
 .obtain⟨a,rfl,c⟩:=vals1 p;refine ð PySem.F.slot_dict_get B PySem.F.entry_dict_get ?_ (PySem.F.args_dict_get_2 _ _);show wpAny _ _ (dictGet d a >>= _) _ _ s;exact ü (o _ a .none _ c rfl (λ_=>rfl) rfl) (λ_ _ z=>z) λ_ _ z=>z.elim
def EH(p:Er)(rs:List Er)(S:Sto):R Er:=match AQ S p with
 |some (_,kvs)=>match rs with
  |[.val k,r]=>if pS k=true then(match look kvs k with |some d=>.ok (.val d) S|none=>.ok r S)else .no
  |[.val k]=>if pS k=true then .ok (.val ((look kvs k).getD .non)) S else .no
  |_=>.no
 |none=>.no
def Xq:UG X W (rGX X) EH:=by
 intro p D x G α S F H Q B wd j y v a;unfold EH at a;split at a
 .rename_i l i A;obtain⟨c,u,rfl,C,E,h,w,_⟩:=Jx wd A y;split at a
  .rename_i k r
   cases v with
   |cons dk n1 l1=>
    cases l1 with
    |cons dy n2 l2=>
     cases l2;split at a
     .rename_i f;obtain⟨m,b⟩:=í.mp f;obtain⟨q,n⟩:=mT w (QM b);have t:=QN (X:=X) (α:=α) (H:=H) b dk.1;subst t;refine⟨u,c,m,_,rfl,.inl rfl,h,?_⟩
      cases e:look i k with
      |some d=>
       obtain⟨z,o,s⟩:=q d e;rw[e]at a;rw[o];exact(Post.shift j a).val wd s
      |none=>
       rw[e]at a;rw[n e];exact a _ α H j wd dy
     .exact a.elim
  .rename_i k
   cases v with
   |cons dk n1 l1=>
    cases l1;split at a
    .rename_i f;obtain⟨m,b⟩:=í.mp f;obtain⟨q,n⟩:=mT w (QM b);have t:=QN (X:=X) (α:=α) (H:=H) b dk.1;subst t;refine⟨u,c,m,.non,rfl,.inr ⟨rfl,rfl⟩,h,?_⟩
     cases e:look i k with
     |some d=>
      obtain⟨z,o,s⟩:=q d e;rw[e]at a;rw[o];exact(Post.shift j a).val wd s
     |none=>
      rw[e]at a;rw[n e];exact(Post.shift j a).val wd DA
    .exact a.elim
  .exact a.elim
 .exact a.elim
def Fy(ho:yI X W o f)(i:MR X W (e::es) af)
  (hbase:attributeBase o "get" X.env (eval o X.env)=eval o X.env:=by rfl)
  (hfew:((backTo pos (starEach (e::es) X.env)).all (λx=>!x.1)&&(backToKw pos (keywordEach [] X.env)).all (λx=>x.1.isSome)
   &&decide ((e::es).length+([]:List Keyword).length+(if([]:List Keyword).isEmpty then 0 else 1)<30))=true:=by rfl)
  (hline:(apos.endLine==pos.line)=true:=by rfl) (hs:q8 X e es:=by rfl) (hplain:q9 X pos es:=by rfl):
  yI X W (.Call (.Attribute o "get" apos) (e::es) [] pos) (λa S=>(f a S).bind λp d=>if vI p d=true then(af a d).bind λh r=>EH p h r else .no):=by
 obtain⟨K,ho,B⟩:=ho;obtain⟨t,i,k⟩:=i;refine⟨_,Ct IU PySem.F.plainAttrs_dict PySem.F.slot_dict_get PySem.F.type_dict_get Xp ho i hbase hfew hline hs hplain,λα a S σ H Q wd sl q=>B α a S σ H _ wd sl (q.bind λu p d b y L w z v n=>?_)⟩;split at n
 .rename_i m;obtain⟨⟨l,E⟩,m⟩:=í.mp m;obtain⟨c,xs,rfl,_,_,I,_⟩:=Jx z m v.1;exact⟨⟨c,xs,rfl,I⟩,k b a d σ y _ z (sl.ext w) ((n.shift w).bind λG h r j D M s C J A=>Xq p h _ G j r y D Q b C s (v.1.ext s) J A)⟩
 .exact n.elim
end
section
variable{apos pos:Pos}
def rSX(X:Cx):V->List V->Hp->VK->Prop:=λx a H Q=> ∃(ks:List (Key×V))(d:Addr)(k:Key)(y:V),x=.ref d/\a=[kV k,y]/\DK X H d ks/\ks.length<sizeLine/\(∀v,dN ks k=some v->Q v H)/\(dN ks k=none->Q y (jS H d (.dK (AO ks k y))))
theorem W7:Uv X "dict.setdefault" (rSX X):=by
 intro pins s σ H x vs v us Q I G O h;obtain⟨f,d,k,y,rfl,rfl,n,U,K,B⟩:=h;obtain⟨Y,L,rfl,N,t⟩:=vals2 O;cases G;have w:=(IU pins s σ H (.ref d) _ I rfl ⟨d,f,rfl,n⟩).1;obtain⟨_,r,Z,m,E⟩:=bR I n;have W:=Paired.length m;obtain⟨p,S⟩:=GW m k;have hp:=GV f k y;refine ð PySem.F.slot_dict_setdefault w PySem.F.entry_dict_setdefault ?_ (PySem.F.args_dict_setdefault_3 _ _ _);refine wB ?_;refine wB (wpAny_notOrdered_dict w ?_);refine wP ?_;show wpAny _ _ (if _=true then _ else _) _ _ s;rw[iN (by rw[r];exact xF0)];refine wB (kt_dictSetDefault_pairs (GX N) E (λu i=>?_) (λP h' c j=>?_) #[0])
 .cases a:dN f k with
  |some v=>
   obtain⟨M,e,z⟩:=p v a;rw[i]at e;cases e;exact wP ⟨u,rfl,v,H,I.tok _,z,K v a⟩
  |none=>rw[S a]at i;cases i
 .cases a:dN f k with
  |some v=>
   obtain⟨M,e,_⟩:=p v a;rw[P]at e;cases e
  |none=>
   have A: ∃q,h'.get? d=some q:=let ⟨q,_,_,J,_⟩:=c;⟨q,J⟩;exact wP ⟨L,rfl,y,_,I.write (o:=.dK _) (VD n) (.inl rfl) (λb T D C=>(j.2 b D).trans C) A ⟨by lia,r,_,Cr m _ t,c⟩,t,B a⟩
def IV(p:Er)(k y:MV)(S1:Sto):R Er:=match AQ S1 p with
 |some (l,kvs)=>if pS k=true/\kvs.length<1000000 then(match look kvs k with
  |some d=>.ok (.val d) S1
  |none=>.ok (.val y) (S1.set l (.dic (putK kvs k y))))else .no
 |none=>.no
def Da(p:Er)(rs:List Er)(S:Sto):R Er:=match rs with
 |[.val k,r]=>(bD r S).bind λy a=>IV p k y a
 |_=>.no
def W8:UG X W (rSX X) Da:=by
 intro p J x vs α S z H Q n wd U Y s a
 match J,s,a with
 |[],_,a=>exact a.elim
 |[.val _],_,a=>exact a.elim
 |.new _::_,_,a=>exact a.elim
 |.val _::_::_::_,_,a=>exact a.elim
 |[.val k,r],s,a=>
  cases s with
  |cons dk n1 l1=>
   cases l1 with
   |cons d n2 l2=>
    cases l2;obtain⟨N,G,α',Z,E,C,h,F⟩:=aO wd U d;have a:Post X.g W n z ((bD r S).bind λy O=>IV p k y O) Q:=a;rw[Z]at a;have a:Post X.g W n z (IV p k N G) Q:=a;unfold IV at a;split at a
    .rename_i l j A;split at a
     .rename_i w
      have q:DenX X.K α' H p x:=by
       cases p with
       |val m=>exact Den.ex0 C Y
       |new ds=>cases A
      obtain⟨c,T,rfl,o,hS,b,u,_⟩:=Jx h A q;obtain⟨L,e⟩:=í.mp w.1;obtain⟨B,P⟩:=mT u (QM e);have M:=QN e (Den.ex0 C dk.1);subst M;refine⟨T,c,L,_,rfl,rfl,b,?_,λv f=>?_,λf=>?_⟩
      .rw[u.length];exact æ w.2 (fits (à _))
      .cases i:look j k with
       |some d2=>
        obtain⟨I,t,D⟩:=B d2 i;rw[t]at f;cases f;rw[i]at a;exact(Post.shift E a).val h D
       |none=>rw[P i]at f;cases f
      .cases i:look j k with
       |some d2=>obtain⟨I,t,D⟩:=B d2 i;rw[t]at f;cases f
       |none=>
        rw[i]at a;exact(Post.shift (E.trans (h.writex o b.nf)) a).val (h.write o b.nf (.inl ⟨_,yE,(NT u (QM e) F).ex0 (h.writex o b.nf).toEx0⟩)) (F.ext (h.writex o b.nf))
     .exact a.elim
    .exact a.elim
def Ph(ho:yI X W o f)(i:MR X W (e::es) af)
  (hbase:attributeBase o "setdefault" X.env (eval o X.env)=eval o X.env:=by rfl)
  (hfew:((backTo pos (starEach (e::es) X.env)).all (λx=>!x.1)&&(backToKw pos (keywordEach [] X.env)).all (λx=>x.1.isSome)
   &&decide ((e::es).length+([]:List Keyword).length+(if([]:List Keyword).isEmpty then 0 else 1)<30))=true:=by rfl)
  (hline:(apos.endLine==pos.line)=true:=by rfl) (hs:q8 X e es:=by rfl) (hplain:q9 X pos es:=by rfl):
  yI X W (.Call (.Attribute o "setdefault" apos) (e::es) [] pos) (λa S=>(f a S).bind λp d=>if vI p d=true then(af a d).bind λh r=>Da p h r else .no):=by
 obtain⟨K,ho,B⟩:=ho;obtain⟨t,i,k⟩:=i;refine⟨_,Ct IU PySem.F.plainAttrs_dict PySem.F.slot_dict_setdefault PySem.F.type_dict_setdefault W7 ho i hbase hfew hline hs hplain,λα a S σ H Q wd sl q=>B α a S σ H _ wd sl (q.bind λu p d b y L w z v n=>?_)⟩;split at n
 .rename_i m;obtain⟨⟨l,E⟩,m⟩:=í.mp m;obtain⟨c,xs,rfl,_,_,I,_⟩:=Jx z m v.1;exact⟨⟨c,xs,rfl,I⟩,k b a d σ y _ z (sl.ext w) ((n.shift w).bind λG h r j D M s C J A=>W8 p h _ G j r y D Q b C s (v.1.ext s) J A)⟩
 .exact n.elim
end
section
variable{X:Cx}{o:Expr}{g:AX}{pos apos p:Pos}{m:Str}{C:Addr}
theorem DenF.look{K:R0}: ∀{fs gs},DenF K α H fs gs->fs.lookup fld=some d-> ∃v,gs.lookup fld=some v/\Den K α H d v
 |_,_,.nil,h=>by simp at h
 |(x,_)::_,_,.cons a l,h=>by
  rw[Ĕ]at h;rw[Ĕ];by_cases e:(fld==x)=true
  .rw[e]at h ⊢;cases h;exact⟨_,rfl,a⟩
  .have e:(fld==x)=false:=by simpa using e
   rw[e]at h ⊢;exact DenF.look l h
theorem DenF.miss{K:R0}: ∀{fs gs},DenF K α H fs gs->fs.lookup fld=none->gs.lookup fld=none
 |_,_,.nil,h=>rfl
 |(x,_)::_,_,.cons a l,h=>by
  rw[Ĕ]at h;rw[Ĕ];by_cases e:(fld==x)=true
  .rw[e]at h;cases h
  .have e:(fld==x)=false:=by simpa using e
   rw[e]at h ⊢;exact DenF.miss l h
noncomputable def Dc(f:Str)(v:MV):List (Str×MV)->List (Str×MV)
 |[]=>[(f,v)]
 |(g,x)::r=>if g=f then(g,v)::r else(g,x)::Dc f v r
theorem DenF.put{K:R0}(a:Den K α H d v): ∀{fs gs},DenF K α H fs gs->DenF K α H (Dc fld d fs) (vG fld v gs)
 |_,_,.nil=>.cons a .nil
 |(x,_)::_,_,.cons b l=>by
  unfold Dc vG;split
  .exact .cons a l
  .exact .cons b (DenF.put a l)
theorem DenF.len{K:R0}: ∀{fs gs},DenF K α H fs gs->gs.length=fs.length
 |_,_,.nil=>rfl
 |_,_,.cons b l=>by rw[lC,lC,DenF.len l]
noncomputable def NW(c:Str):Er->Sto->Option (Nat×List (Str×MV))
 |.val (.loc l),S=>match S[l]? with
  |some (.rcd c' fs)=>if c'=c then some (l,fs)else none
  |_=>none
 |_,_=>none
def Pi(o:OC X.K c C)(wd:Wd X.g α S H)(d:DenX X.K α H r u)(h:NW c r S=some (l,fs)):r=.val (.loc l)/\ ∃a e b,u=.ref a/\α[l]? =some a/\H a=some (.ins C e b)/\DenF X.K α H fs b:=by
 unfold NW at h;split at h
 .rename_i q;split at h
  .rename_i t i p;split at h
   .rename_i n;subst n;cases h;obtain⟨a,rfl,f⟩:=iL d;obtain⟨s,e,b,j,k,m⟩:=wd.obj _ a _ f p;cases o.eq j;exact⟨rfl,a,e,b,rfl,f,k,m⟩
   .cases h
  .cases h
 .cases h
def oC(c a:Str)(r:Er)(S:Sto):R Er:=match NW c r S with
 |some (_,fs)=>match fs.lookup a with |some d=>.ok (.val d) S|none=>.no
 |none=>.no
def fA(T: ∃C,OC X.K c C/\NoAttr X.K C fld)(h:yI X W e f)(A:attributeBase e fld X.env (eval e X.env)=eval e X.env:=by rfl):yI X W (.Attribute e fld pos) (λi S=>(f i S).bind (oC c fld)):=by
 obtain⟨C,j,n⟩:=T;obtain⟨t,h,k⟩:=h;refine⟨_,N4 h A,λα i S σ H Q wd sl q=>k α i S σ H _ wd sl (q.bind λu r L y J M s m p b=>?_)⟩
 replace b:=b.shift s
 unfold oC at b;split at b
 .rename_i l fs E;obtain⟨rfl,a,B,o,rfl,I,z,D⟩:=Pi j m p.1 E;split at b
  .rename_i d F;obtain⟨v,w,G⟩:=D.look F;exact⟨a,C,B,o,v,rfl,z,j.cl,n,w,Post.val b m G⟩
  .exact b.elim
 .exact b.elim
def SV(c a:Str)(ρ:Rho)(d:MV)(r:Er)(S:Sto):R Fl:=match NW c r S with
 |some (l,fs)=>if fs.length<1000 then .ok (.next ρ) (S.set l (.rcd c (Dc a d fs)))else .no
 |none=>.no
def E4(c a:Str)(f g:AX)(ρ:Rho)(S:Sto):R Fl:=(f ρ S).bind λr S=>(bD r S).bind λd S=>(g ρ S).bind (SV c a ρ d)
def LR(T: ∃C,OC X.K c C/\NoAttr X.K C fld)(p:yI X W e f)(ho:yI X W o g)(hs:swapsWith e (some (.Attribute o fld pos')) pos.line X.env=pure false:=by rfl):
  Lg X W (.Assign [.Attribute o fld pos'] e pos) (λb S=>(f b S).bind λr S=>(bD r S).bind λd S=>(g b S).bind (SV c fld b d)):=by
 obtain⟨C,n,I⟩:=T;obtain⟨t,p,k⟩:=p;obtain⟨to,ho,J⟩:=ho;refine⟨_,N5 ho p hs,λα b S σ H D wd sl q=>k α b S σ H _ wd sl (q.expr λu r S1 M N e1 m Z L i=>?_)⟩;obtain⟨P,z,α',e2,x',G,O,de⟩:=aO Z m L;rw[e2]at i;have i:PostS X.g W α H D ((g b z).bind (SV c fld b P)):=i;refine J α' b z σ N _ O ((sl.ext m).ex0 G) ((i.shift x').expr λu2 r2 S2 s Y e3 j w d2 h=>?_)
 replace h:=h.shift j
 unfold SV at h;split at h
 .rename_i l fs U;obtain⟨rfl,a,y,A,rfl,B,E,F⟩:=Pi n w d2.1 U;split at h
  .rename_i Q;have nf:=Mo (H:=Y) E;have v:=w.writex (o:=.ins C y (vG fld u A)) B nf;refine⟨a,C,y,A,rfl,E,n.cl,I,by rw[F.len];exact Q,h σ s _ v (w.write B nf ⟨C,y,_,n.ns,yE,(DenF.put (de.ext j) F).ex0 v.toEx0⟩) (((((sl.ext m).ex0 G).ext j).ext v))⟩
  .exact h.elim
 .exact h.elim
def RJ(c m:Str)(n:Nat)(F:List MV->Sto->R Er)(f:AX)(a:Rho->Sto->R (List Er))(ρ:Rho)(S:Sto):R Er:=(f ρ S).bind λp S=>match NW c p S with
 |some (_,fs)=>if fs.lookup m=none then(a ρ S).bind λr S=>zS n F (p::r) S else .no
 |none=>.no
def zBD(P:ļ)(w:World)(K:R0)(mg:L0)(base:Heap)(m:Str)(k n:Nat)(c:Str)(F:List MV->Sto->R Er):Prop:= ∃C a b ps,OC K c C/\Meth K C m a/\FnOk P w K mg base PZ k a b ps (Ba ⟨K,mg,P,w⟩ n F)/\Binds K b ps []
def NY{pl:Sem Bool}(T:zBD X.prog X.w X.K X.mg X.base m k n c F)(p:Room k X.A)(h:yI X W o f)(i:MR X W (e::es) af)
  (hst:q8 X e es:=by rfl) (hpl:q9 X pos es:=by rfl)
  (ht:eval (.Call (.Attribute o m apos) (e::es) [] pos) X.env=(do
   let s <-eval o X.env
   standAt apos.atName
   let (f,first) <-holding [s] (getMethod s m pl)
   callWith pos f first (backTo pos (starEach (e::es) X.env)) (backToKw pos (keywordEach [] X.env))):=by rfl):
  yI X W (.Call (.Attribute o m apos) (e::es) [] pos) (RJ c m n F f af):=by
 obtain⟨C,fa,fd,ps,z,U,G,P⟩:=T;obtain⟨to,h,I⟩:=h;obtain⟨ta,i,E⟩:=i;refine⟨_,Uo h z.cl U G p P .nil Mg i hst hpl ht,λα B S σ H Q wd sl q=>I α B S σ H _ wd sl (Post.bind q λu r Z j L e1 y D v d=>?_)⟩;split at d
 .rename_i l fs p;obtain⟨rfl,a,dx,J,rfl,hl,O,hF⟩:=Pi z D v.1 p;split at d
  .rename_i hn;refine⟨a,dx,J,rfl,O,hF.miss hn,E j B Z σ L _ D (sl.ext y) ?_⟩;refine(Post.shift y d).bind λus rs S2 M H2 e2 t Y d2 N=>?_;rw[aN];exact RS t Y (ArgsE.cons (DenE.val (v.1.ext t)) (λds b er=>by cases er) d2) N
  .exact d.elim
 .exact d.elim
def Kd(c:Str)(n:Nat)(F:List MV->Sto->R Er)(rs:List Er)(S:Sto):R Er:=if rs.length+1=n then
  (noX (F (zP (.val (.loc S.length)::rs) (S++[.rcd c []])).1 (zP (.val (.loc S.length)::rs) (S++[.rcd c []])).2)).bind λr a=>match r with |.val .non=>.ok (.val (.loc S.length)) a|_=>.no
 else .no
def InB(P:ļ)(w:World)(K:R0)(mg:L0)(base:Heap)(k n:Nat)(c:Str)(F:List MV->Sto->R Er):Prop:= ∃C b a ps,OC K c C/\mg c=some (.ref C)/\Mk K C b/\FnOk P w K mg base PZ k b a ps (Ba ⟨K,mg,P,w⟩ n F)/\Binds K a ps []
def Pj(T:InB X.prog X.w X.K X.mg X.base k n c F)(hr:Room (k+1) X.A)(hg:Gl X c)(s:MR X W (e::es) af)(B:(c==("__debug__"))=false:=by decide)
  (hs:q8 X e es:=by rfl) (hpl:q9 X pos es:=by rfl):yI X W (.Call (.Name c p) (e::es) [] pos) (λj S=>(af j S).bind (Kd c n F)):=by
 obtain⟨C,fi,fd,ps,oc,hm,M',G,hb⟩:=T;obtain⟨t,s,kk⟩:=s;refine⟨_,Uq M' G hr hg hm hb .nil Mg s B hs hpl,λα j S σ H Q wd sl q=>kk α j S σ H _ wd sl (q.bind λvs u d f H1 e1 Z I Y a=>?_)⟩;intro x E hx h L;rw[aN];unfold Kd at a;split at a
 .rename_i hl;have M:=I.newx (o:=.own x) h;have wa:=I.new (o:=.own x) h;have J:(jS H1 E (.own x)) x=none:=by rw[zU (Ne.symm L)];exact hx
  obtain⟨N,wb⟩:=wa.put (ho:=.ins C E []) (m:=.rcd c []) J ⟨C,E,[],oc.ns,yE,.nil⟩;have i:(f++[x])[d.length]? =some x:=by rw[<-I.len,é (à _),sub_self];rfl
  have xx:=Z.trans (M.trans N);have da:ArgsE X.K H (f++[x]) _ (.val (.loc d.length)::u) (.ref x::vs):=ArgsE.cons (DenE.val (eY i)) (λds b er=>by cases er) (Y.ext (M.trans N));obtain⟨y,P,y2,w2,l2⟩:=sR wb xx da;refine⟨y,_,_,w2,l2,by rw[DC];exact hl,?_⟩
  cases z:F (zP (.val (.loc d.length)::u) (d++[.rcd c []])).1 (zP (.val (.loc d.length)::u) (d++[.rcd c []])).2 with
  |ok r S3=>
   rw[z]at a;intro v D H3 O U d3;have a:Post X.g W α H (match r with |Er.val .non=>R.ok (Er.val (.loc d.length)) S3|_=>.no) Q:=a;split at a
   .exact⟨rA d3.1,a _ D H3 (P.trans O) U (DenE.val (eY (O.at (y2.at i))))⟩
   .exact a.elim
  |exc c fs S3=>rw[z]at a;exact a.elim
  |no=>rw[z]at a;exact a.elim
 .exact a.elim
end
section
variable{a:Expr}
def zDM(X:Cx):R2:=λx y H Q=> ∃(ks:List (Key×V))(d:Addr)(k:Key)(v:V),x=.ref d/\y=kV k/\DK X H d ks/\dN ks k=some v/\Q v H
def Pk:IxR X (zDM X):=by intro b c pins s σ H x y u v Q I i m h a;obtain⟨t,d,k,e,rfl,rfl,r,p,q⟩:=h;cases i;obtain⟨_,w,z,n,f⟩:=bR I r;obtain⟨A,j,o⟩:=(GW n k).1 e p;exact subscriptTail_builtinR f.typeIs slot_dict_getitem.lookup (wpAny_getItem_of (GX m) f.mapOf j ⟨rfl,e,H,I.tok _,o,q⟩) a
def Ke(p q:Er)(S:Sto):R Er:=match AQ S p,q with
 |some (_,kvs),.val k=>if pS k=true then(match look kvs k with |some d=>.ok (.val d) S|none=>.no)else .no
 |_,_=>.no
def Xr:YH X W (zDM X) Ke:=by
 intro p q x y α S H Q wd h m a;unfold Ke at a;split at a
 .rename_i l t k o;obtain⟨c,r,rfl,z,A,e,v,_⟩:=Jx wd o h;split at a
  .rename_i f;obtain⟨j,b⟩:=í.mp f;have w:=QN b m;subst w;split at a
   .rename_i d n;obtain⟨i,s,u⟩:=(mT v (QM b)).1 d n;exact⟨r,c,j,i,rfl,rfl,e,s,Post.val a wd u⟩
   .exact a.elim
  .exact a.elim
 .exact a.elim
def W9(i:yI X W a f)(e:yI X W b g)(hs:FX b:=by exact λ_ _=>rfl):yI X W (.Subscript a b pos) (λc S=>(f c S).bind λp h=>(g c h).bind λq d=>Ke p q d):=Mq Pk Xr i e hs
def zDN(X:Cx):R2:=λx y H Q=> ∃(α:B9)(kvs:Z0)(xs:List (NK×Addr×Ļ))(a d:Addr)(k b:MV)(nk:NK),x=.ref d/\y=.ref a/\DD X H d xs/\DenN X.K α H kvs xs/\kN k=some nk/\qZ nk<=4/\Den X.K α H k (.ref a)/\
 look kvs k=some b/\ ∀v,Den X.K α H b v->Q v H
def Pl(M:X.A.units+64<cLine):IxR X (zDN X):=by intro i c pins s σ H x y u v Q I F B h b;obtain⟨α,J,xs,a,d,k,P,S,rfl,rfl,o,l,m,e,t,f,q⟩:=h;cases F;cases B;obtain⟨D,p,N⟩:=UV I o l;have L:s.TypeIs (.ref d) "dict":=(V3 pins s σ H (.ref d) (.ref d) I rfl ⟨d,xs,rfl,o⟩).1;obtain⟨O,j,n,K,E,C⟩:=Fp l m f;exact subscriptTail_builtinR (x:=j) L slot_dict_getitem.lookup (wpAny_getItem_heap (knd:=sP X.prog X.w) (Q:=λr G=>r=j/\EP X pins σ Q r G) (show X.A.units+1+4<cLine by omega) ⟨NG I m t rfl,e⟩ D K ⟨rfl,n,H,I.kept (t':=_) (λ_ _ z=>z),C,q n E⟩) b
def Kf(p q:Er)(S:Sto):R Er:=match NL S p,q with
 |some (_,kvs),.val k=>if keyOk k=true then(match look kvs k with |some d=>.ok (.val d) S|none=>.no)else .no
 |_,_=>.no
def Xs:YH X W (zDN X) Kf:=by
 intro p q x y α S H Q wd u e a;unfold Kf at a;split at a
 .rename_i l b k f;split at a
  .rename_i i;obtain⟨m,w,j,n⟩:=NN i;obtain⟨c,xs,rfl,_,_,t,r⟩:=Ck wd f u;obtain⟨h,rfl⟩:=UY (X:=X) (α:=α) (H:=H) n e;split at a
   .rename_i d s;exact⟨α,b,xs,h,c,k,d,m,rfl,rfl,t,r,w,j,e,s,λv o=>Post.val a wd o⟩
   .exact a.elim
  .exact a.elim
 .exact a.elim
def X1(d:X.A.units+64<cLine)(j:yI X W a f)(h:yI X W b g)(hs:FX b:=by exact λ_ _=>rfl):yI X W (.Subscript a b pos) (λc S=>(f c S).bind λp i=>(g c i).bind λq e=>Kf p q e):=Mq (Pl d) Xs j h hs
end
end M
end L2
namespace PySem
def ZD:typeLookup (.type "zip") "keys"=pure none:=am_miss_of_fast (by decide+kernel)
theorem DX:typeLookup (.type "zip") "__getattr__"=pure none:=by rw[typeLookup_type];kernel_rfl
def pT:entryFor table "zip.__getattribute__"=some Builtin.«object.__getattribute__»:=
 entryFor_alias (id':="object.__getattribute__") (by kernel_rfl) (by decide+kernel) (by decide+kernel) (by kernel_rfl)
def lW(a)(xs)(sl)(name)(u)(e:typeLookup (.type "zip") name=pure none)(b:(["__module__","__name__","__qualname__","__doc__","__annotations__"]:K0).contains name=false)(hsz:name.length+100<=sizeLine:=by size_fits):
  Meets (Builtin.«object.__getattribute__» ⟨[.ref a,.str name u],[]⟩) (λA R s=>s.heap.get? a=some {cls:=.type "zip",dict:=none,data:=.fields xs,slots:=sl}/\raisesAttr (.ref a) name A R s):=
 Meets.of_wp λprog w A R s c=>by
  obtain⟨i,g,d,f,os⟩:=s;obtain⟨h,c⟩:=c
  repeat (any_goals (first |assumption|wp_step))
  simp only[b,fT,iF]
  repeat (any_goals (first |assumption|wp_step))
  exact wpAny_raiseAttrError c.1 c.2 (attrMsg_fits (by decide+kernel) hsz)
def getAttr?_miss_zip
  (m:s.heap.get? a=some {cls:=.type "zip",dict:=none,data:=.fields xs,slots:=sl}) (f:typeLookup (.type "zip") name=pure none) (c:(["__module__","__name__","__qualname__","__doc__","__annotations__"]:K0).contains name=false) (q:A.handled=none)
  (h: ∀h' k,(∀b o,s.heap.get? b=some o->h'.get? b=some o)->Q none {s with heap:=h',toks:=k}) (hsz:name.length+100<=sizeLine:=by size_fits):
  wpAny (model prog w) A (getAttr? (.ref a) name) Q E s:=by
 obtain⟨p,g,d,k,os⟩:=s;have n: ∀i,(⟨p,g,d,i,os⟩:ĺ).TypeIs (.ref a) "zip":=λ_=>⟨_,m,rfl⟩
 have t:=sub_AttributeError;have v:=F.slot_zip_getattribute.lookup;have z:=F.slot_zip_getattribute.bind (.ref a);have B:=DX;unfold getAttr? getAttrBy? getAttrBy
 repeat (any_goals (first |assumption|exact n _|((with_reducible show wpAny _ _ (call (Value.builtin "zip.__getattribute__") _ _) _ _ _);refine call_meets F.slot_zip_getattribute (n _) pT (F.args_zip_getattribute_2 _ _) (lW a xs sl name _ f c hsz) ⟨m,q,λh' i e j=>?_⟩)|wp_step))
 obtain⟨r,y,u⟩:=j.there;show wpAny _ _ (getattributeRaised _ _ _ _ _ _ _) _ _ _;unfold getattributeRaised
 repeat (any_goals (first |assumption|wp_step))
 exact h _ _ j.keeps
def ZE(h:Q (s.heap.get? a) s):wpAny M A (loadIfAlive a) Q E s:=λ_ _ _=>h
end PySem
namespace L2
namespace M
open PySem PySem.Spec PyProof.Rows
noncomputable def X2(a b:Ļ)(TI TO:Addr):Obj:={cls:=.type "zip",dict:=none,data:=.fields #[a,b,.bool false,.ref TI,.ref TO],slots:=#[]}
structure ZipSt2(k1 k2:Bool)(z TI TO i1 i2 l1 l2:Addr)(i:Nat)(h:Heap):Prop where
 z: ∃T b,h.get? z=some (X2 (rawInt (T:Nat)) (.bool b) TI TO)/\T≠z/\T≠i1/\T≠i2/\ ∃o,h.get? T=some o
 ti:IsPair h TI (.ref i1) (.ref i2)
 s1:IsSub k1 h i1 l1 i
 s2:IsSub k2 h i2 l2 i
section
variable{TI TO:Addr}
def ZF{T:Addr}(a:s.heap.get? z=some (X2 (rawInt  T ) (.bool b) TI TO))(e:s.heap.get? T=some o)
  (hQ: ∀h',h'.get? z=some (X2 (rawInt  T ) (.bool true) TI TO)->Heap.SameBut z s.heap h'->Q false {s with heap:=h'}):
  wpAny (model prog w) A (Builtin.SmallTypes.ownedTupleIsFree (.ref z)) Q E s:=by
 refine wB (ò a rfl rfl ?_);show wpAny _ _ (loadIfAlive T >>= _) _ _ _;refine wB (ZE ?_);rw[e];show wpAny _ _ _ _ _ _;refine wB (ò a rfl rfl ?_)
 cases b with
 |true=>
  refine wP (hQ s.heap a ?_);exact⟨rfl,λ_ _=>rfl⟩
 |false=>
  show wpAny _ _ _ _ _ _;exact wB (þ a (by simp) λh' c d=>wP (hQ h' c d))
theorem Kg{Q:VP}(D:Apart5 z TI TO i1 i2)(Z:Off l1 z TO i1 i2)(N:Off l2 z TO i1 i2)(st:ZipSt2 k1 k2 z TI TO i1 i2 l1 l2 i s.heap)(t:IsSeq k1 s.heap l1 xs)(G:IsSeq k2 s.heap l2 ys)(hx:xs[i]? =some x)(X:ys[i]? =some y)
  (hQ: ∀h',ZipSt2 k1 k2 z TI TO i1 i2 l1 l2 (i+1) h'->IsPair h' ↑1 x y->
   (∀c o,c≠z->c≠i1->c≠i2->s.heap.get? c=some o->h'.get? c=some o)->Q (.ref ↑1) {s with heap:=h'}):
  wpAny (model prog w) A (Builtin.«zip.__next__» ⟨[.ref z],[]⟩) (λI Y=> ∃v,I=.done (.ret v)/\Q v Y) E s:=by
 obtain⟨⟨T,b,B,M,K,L,J,O⟩,k,h1,S⟩:=st;show wpAny _ _ (field (.ref z) 2 >>= _) _ _ _;refine wB (ò B rfl (x:=.bool false) rfl ?_);show wpAny _ _ _ _ _ _;refine wB (ò B rfl (x:=.ref TI) rfl (wB (Č k rfl ?_)));show wpAny _ _ _ _ _ _;refine wB (ZF B O λha p d=>?_);rw[iN xF0];simp only[List.forIn_toArray,forIn_cons,forIn_nil];refine wB (wB (wB (ú ?_)));show wpAny _ _ _ _ _ _;refine wB (mY (h1.move λo e=>d.extBut _ _ D.i1z e) (t.move λo e=>d.extBut _ _ Z.1 e) hx λU r h=>wP ?_);refine wP ?_;refine wB (wB (ú ?_));show wpAny _ _ _ _ _ _;have q: ∀c o,c≠z->c≠i1->s.heap.get? c=some o->U.get? c=some o:=λc o F m e=>h.extBut _ _ m (d.extBut _ _ F e);refine wB (mY (S.move λo e=>q _ o D.i2z D.i12.symm e) (G.move λo e=>q _ o N.1 N.2.2.1 e) X λj u a=>wP ?_);refine wP (wP ?_);have f: ∀c o,c≠z->c≠i1->c≠i2->s.heap.get? c=some o->j.get? c=some o:=λc o F m W e=>a.extBut _ _ W (q c o F m e);have hsz:j.objs.size=s.heap.objs.size:=by rw[a.1,h.1,d.1]
 refine wB (wpAny_newTuple (hsz:=by show 2<=sizeLine;decide) ?_);refine wP ⟨_,rfl,?_⟩;show Q (.ref j.objs.size) _;have H:j.get? z=some _:=a.extBut _ _ D.i2z.symm (h.extBut _ _ D.i1z.symm p)
 have C: ∀{n:Nat},n=↑1->j.objs.size=n->Q (.ref n) {s with heap:=j.push {cls:=.type "tuple",data:=.seq #[x,y]}}:=λ{n} e1 e2=>by
  subst e1;refine hQ _ ⟨⟨T,true,hP0 _ H,M,K,L,J,hP0 _ (f T J M K L O)⟩,hP0 _ (f TI _ D.TIz D.TIi1 D.TIi2 k),?_,?_⟩ ?_ λc o P c3 c4 e=>hP0 _ (f c o P c3 c4 e)
  .exact r.move λo e=>hP0 _ (a.extBut _ _ D.i12 e)
  .exact u.move λo e=>hP0 _ e
  .rw[<-e2];exact è _ rfl
 exact C hsz rfl
def Pm(C:A.handled=none)(D:Apart5 z TI TO i1 i2)(F:Off l1 z TO i1 i2)(G:Off l2 z TO i1 i2)(st:ZipSt2 k1 k2 z TI TO i1 i2 l1 l2 i s.heap)(f:IsSeq k1 s.heap l1 xs)(v:IsSeq k2 s.heap l2 ys)(j:xs[i]? =none\/ys[i]? =none)
  (hE: ∀h' e,(∀c o,c≠z->c≠i1->c≠i2->s.heap.get? c=some o->h'.get? c=some o)->(∃o,h'.get? e=some o/\o.cls=.type "StopIteration")->E (.ref e) {s with heap:=h'}):
  wpAny (model prog w) A (Builtin.«zip.__next__» ⟨[.ref z],[]⟩) Q E s:=by
 obtain⟨⟨T,b,r,Z,X,Y,W,S⟩,u,H,L⟩:=st;show wpAny _ _ (field (.ref z) 2 >>= _) _ _ _;refine wB (ò r rfl rfl ?_);show wpAny _ _ _ _ _ _;refine wB (ò r rfl (x:=.ref TI) rfl (wB (Č u rfl ?_)));show wpAny _ _ _ _ _ _;refine wB (ZF r S λU J a=>?_);rw[iN xF0];simp only[List.forIn_toArray,forIn_cons,forIn_nil];refine wB (wB (wB (ú ?_)));show wpAny _ _ _ _ _ _
 cases B:xs[i]? with
 |none=>
  exact wB (GP C (H.move λo e=>a.extBut _ _ D.i1z e) (f.move λo e=>a.extBut _ _ F.1 e) B λt e d n=>hE t e (λc o p y _ q=>d _ _ y (a.extBut _ _ p q)) n)
 |some x=>
  have N:ys[i]? =none:=by rcases j with h|h;(rw[B]at h;cases h);exact h
  refine wB (mY (H.move λo e=>a.extBut _ _ D.i1z e) (f.move λo e=>a.extBut _ _ F.1 e) B λt K d=>wP ?_);refine wP ?_;refine wB (wB (ú ?_));show wpAny _ _ _ _ _ _;have k: ∀c o,c≠z->c≠i1->s.heap.get? c=some o->t.get? c=some o:=λc o M I e=>d.extBut _ _ I (a.extBut _ _ M e);exact wB (GP C (L.move λo e=>k _ o D.i2z D.i12.symm e) (v.move λo e=>k _ o G.1 G.2.2.1 e) N λO e m n=>hE O e (λc o p y P q=>m _ _ P (k c o p y q)) n)
end
def ZSt(b e:Bool)(z TI TO f a c d:Addr)(i:Nat)(h:Heap):Prop:=ZipSt b e z TI TO f a c d i h\/ZipSt2 b e z TI TO f a c d i h
section
variable{TI TO:Addr}
def Xt(D:Apart5 z TI TO i1 i2)(p:Off l1 z TO i1 i2)(t:Off l2 z TO i1 i2)(st:ZSt k1 k2 z TI TO i1 i2 l1 l2 i s.heap)(f:IsSeq k1 s.heap l1 xs)(a:IsSeq k2 s.heap l2 ys)(q:xs[i]? =some x)(m:ys[i]? =some y)
  (hQ: ∀h',ZSt k1 k2 z TI TO i1 i2 l1 l2 (i+1) h'->IsPair h' ↑1 x y->(∀c o,c≠z->c≠TO->c≠i1->c≠i2->s.heap.get? c=some o->h'.get? c=some o)->Q (some (.ref ↑1)) {s with heap:=h'}):
  wpAny (model prog w) A (pyNext (.ref z)) Q E s:=by
 rcases st with st|st
 .have d:s.TypeIs (.ref z) "zip":=⟨_,st.z,rfl⟩
  have k:=ä st.z;obtain⟨p1,C,_⟩:=st.s1.there;obtain⟨p2,G,_⟩:=st.s2.there
  refine wB (ě (ô d ĉ (ð ĉ d ĳ
   (YR D p t st f a q m λh' h r j H u n=>wP (hQ h' (.inr ⟨⟨↑1,false,h,ă k,ă (ä C),ă (ä G),_,u⟩,n TI _ D.TIz D.TITO D.TIi1 D.TIi2 st.ti,j,H⟩) u n)) (Ĭ _))))
 .obtain⟨T,b,k,_⟩:=st.z;have d:s.TypeIs (.ref z) "zip":=⟨_,k,rfl⟩
  refine wB (ě (ô d ĉ (ð ĉ d ĳ
   (Kg D p t st f a q m λh' h r j=>wP (hQ h' (.inr h) r λc o B _ v F e=>j c o B v F e)) (Ĭ _))))
def X3(p:A.handled=none)(D:Apart5 z TI TO i1 i2)(q:Off l1 z TO i1 i2)(r:Off l2 z TO i1 i2)(st:ZSt k1 k2 z TI TO i1 i2 l1 l2 i s.heap)(h:IsSeq k1 s.heap l1 xs)(f:IsSeq k2 s.heap l2 ys)(a:xs[i]? =none\/ys[i]? =none)
  (hQ: ∀h',(∀c o,c≠z->c≠TO->c≠i1->c≠i2->s.heap.get? c=some o->h'.get? c=some o)->Q none {s with heap:=h'}):
  wpAny (model prog w) A (pyNext (.ref z)) Q E s:=by
 rcases st with st|st
 .have j:s.TypeIs (.ref z) "zip":=⟨_,st.z,rfl⟩
  refine wB (ě (ô j ĉ (ð ĉ j ĳ
   (Ew p D q r st h f a λh' e k m=>?_) (Ĭ _))))
  obtain⟨o,n,d⟩:=m;exact wB (ı ⟨o,n,d⟩ isSubtype_stop (wP (hQ h' k)))
 .obtain⟨T,b,v,_⟩:=st.z;have j:s.TypeIs (.ref z) "zip":=⟨_,v,rfl⟩
  refine wB (ě (ô j ĉ (ð ĉ j ĳ
   (Pm p D q r st h f a λh' e k m=>?_) (Ĭ _))))
  obtain⟨o,n,d⟩:=m;exact wB (ı ⟨o,n,d⟩ isSubtype_stop (wP (hQ h' λc o u _ t y e=>k c o u t y e)))
def ZSt.frame(st:ZSt k1 k2 z TI TO i1 i2 l1 l2 i h)(n:d≠z/\d≠TI/\d≠TO/\d≠i1/\d≠i2)(k: ∀b o,b≠d->h.get? b=some o->h'.get? b=some o)(q: ∃o,h'.get? d=some o):ZSt k1 k2 z TI TO i1 i2 l1 l2 i h':=by
 obtain⟨f,c,p,j,m⟩:=n;rcases st with⟨hz,hTI,⟨a,b,hTO⟩,h1,h2⟩|⟨⟨T,b,hz,Tz,T1,T2,oT,hT⟩,hTI,h1,h2⟩
 .exact .inl ⟨k _ _ f.symm hz,k _ _ c.symm hTI,⟨a,b,k _ _ p.symm hTO⟩,h1.move λo e=>k _ o j.symm e,h2.move λo e=>k _ o m.symm e⟩
 .refine .inr ⟨⟨T,b,k _ _ f.symm hz,Tz,T1,T2,?_⟩,k _ _ c.symm hTI,h1.move λo e=>k _ o j.symm e,h2.move λo e=>k _ o m.symm e⟩;by_cases e:T=d
  .rw[e];exact q
  .exact⟨oT,k _ _ e hT⟩
end
section
variable{K:Type}[DecidableEq K]{knd:KeyKind prog w K}{R:Result->ĺ->Prop}{TI TO:Addr}
theorem Xu(hh:A.in1.handled=none)(P:Apart5 z TI TO i1 i2)(o1:Off l1 z TO i1 i2)(o2:Off l2 z TO i1 i2)(hd:D≠z/\D≠TI/\D≠TO/\D≠i1/\D≠i2)(E:IsSeq k1 h₀ l1 xs)(J:IsSeq k2 h₀ l2 ys)(kvs)(hz:kvs.length<=sizeLine)
  (hkv: ∀(i:Nat) v ,kvs[i]? =some v-> ∃x,xs[i]? =some x/\ys[i]? =some v.2/\knd.is v.1 x=true) (hend:xs[kvs.length]? =none\/ys[kvs.length]? =none)
  (fz:h₀.get? z=none) (fTO:h₀.get? TO=none) (f1:h₀.get? i1=none) (f2:h₀.get? i2=none) (fD:h₀.get? D=none):
  ∀ k i  j  s ,kvs.length - i=k->i<=kvs.length->ZSt k1 k2 z TI TO i1 i2 l1 l2 i s.heap->s.heap.DictOf knd D (merged [] (kvs.take i))->(∀b o,h₀.get? b=some o->s.heap.get? b=some o)->
   (∀h' tk,(∀b o,h₀.get? b=some o->h'.get? b=some o)->h'.DictOf knd D (merged [] kvs)->R (.ok (.ret .none)) {s with heap:=h',toks:=tk})->
   codeAny (model prog w) A (.builtin "dict.update.loop" ⟨[.ref D,.ref z,rawInt j,.none],[]⟩) R s:=by
 have N: ∀{b c:Addr}{o:Obj},h₀.get? b=some o->h₀.get? c=none->b≠c:=λe n q=>by rw[q,n]at e;cases e
 have I: ∀{h h':Heap},(∀b o,h₀.get? b=some o->h.get? b=some o)->(∀c o,c≠z->c≠TO->c≠i1->c≠i2->h.get? c=some o->h'.get? c=some o)-> ∀b o,h₀.get? b=some o->h'.get? b=some o:=λa c b o e=>c b o (N e fz) (N e fTO) (N e f1) (N e f2) (a b o e);obtain⟨d1,d2,S,d4,d5⟩:=hd;have dk: ∀{h h':Heap}{m:List (K×Ļ)},h.DictOf knd D m->(∀c o,c≠z->c≠TO->c≠i1->c≠i2->h.get? c=some o->h'.get? c=some o)->h'.DictOf knd D m:=λ⟨o,es,ep,U,r⟩ c=>⟨o,es,ep,c D o d1 S d4 d5 U,r⟩
 intro k
 induction k with
 |zero=>
  intro i j s hk hi y Q d Z;have T:i=kvs.length:=by lia
  subst T;refine codeAny_builtin PySem.F.entry_dict_update_loop ?_;rw[Around.under_plainId PySem.F.plain_dict_update_loop _];show wpAny _ A.in1 _ _ _ s;refine wB (X3 hh P o1 o2 y (E.move λo e=>d _ o e) (J.move λo e=>d _ o e) hend λh' f=>?_);show wpAny _ A.in1 _ _ _ _;refine wB (wP ?_);rw[take_length]at Q;exact wP (Z h' s.toks (I d f) (dk Q f))
 |succ k ih=>
  intro i j s hk hi y Q d Z;have H:i<kvs.length:=by lia
  obtain⟨v,u⟩: ∃v,kvs[i]? =some v:=⟨_,gE0 H⟩
  obtain⟨x,hx,hy,B⟩:=hkv i v u;refine codeAny_builtin PySem.F.entry_dict_update_loop ?_;rw[Around.under_plainId PySem.F.plain_dict_update_loop _];show wpAny _ A.in1 _ _ _ s;refine wB (Xt P o1 o2 y (E.move λo e=>d _ o e) (J.move λo e=>d _ o e) hx hy λh' O L f=>?_);have p:=I d f;have Y:=dk Q f;have X:Shared.TypeIs {s with heap:=h'} (.ref ↑1) "tuple":=⟨_,L,rfl⟩
  refine wB (ú ?_);refine wB (wpAny_tryCatch ?_);unfold Builtin.Dict.pairItems;refine wB (į X ?_);rw[iP ↑3];refine wB ?_;show wpAny _ _ _ _ _ _;refine wB (wpAny_load L ?_);refine wP (wP ?_);show wpAny _ _ _ _ _ _;refine ú ?_;have M:=merged_length_le [] (kvs.take i);have aa:(kvs.take i).length<=kvs.length:=List.length_take_le' i kvs;refine wpAny_dictSet_pairs (hsz:=by rw[ç]at M;lia) B Y λh2 C G=>?_;have t: ∀b o,h₀.get? b=some o->h2.get? b=some o:=λb o e=>by rw[G.2 b (N e fD)];exact p b o e
  refine wP ⟨plainId_quiet PySem.F.plain_dict_update_loop _,ih (i+1) (j+1) _ #[0] H (O.frame ⟨d1,d2,S,d4,d5⟩ (λb o hb e=>by rw[G.2 b hb];exact e) ?_) ?_ t λh3 W k3 S=>Z h3 W k3 S⟩
  .obtain⟨o,_,_,U,_⟩:=id C;exact⟨o,U⟩
  .rw[merged_take_succ _ _ _ _ u];exact C
def QO(u:A.handled=none)(P:Apart5 z TI TO i1 i2)(I:Off l1 z TO i1 i2)(K:Off l2 z TO i1 i2)(st:ZipSt p k2 z TI TO i1 i2 l1 l2 0 s.heap)(hold: ∀b o,h₀.get? b=some o->s.heap.get? b=some o)
  (hl1:IsSeq p h₀ l1 xs) (hl2:IsSeq k2 h₀ l2 ys) (hz:kvs.length<=sizeLine) (hkv: ∀(i:Nat) kv ,kvs[i]? =some kv-> ∃x,xs[i]? =some x/\ys[i]? =some kv.2/\knd.is kv.1 x=true) (hend:xs[kvs.length]? =none\/ys[kvs.length]? =none)
  (fz:h₀.get? z=none) (fTO:h₀.get? TO=none) (f1:h₀.get? i1=none) (f2:h₀.get? i2=none)
  (h: ∀h' r,(∀b o,h₀.get? b=some o->h'.get? b=some o)->h'.DictOf knd ↑1 (merged [] kvs)->Q (.ref ↑1) {s with heap:=h',toks:=r}):
  wpAny (model prog w) A (call (.type "dict") [.ref z]) Q E s:=by
 refine callType_codes (Q₁:=λm d=>m=.ref ↑1/\d={s with heap:=s.heap.push {cls:=.type "dict",data:=.dict #[]}}) PySem.F.kt_called_dict (PySem.F.kt_typeCall_dict_1 _) PySem.F.entry_dict_init (kt_code_dict_new _ ⟨rfl,rfl⟩) ?_;rintro m d ⟨rfl,rfl⟩;have c:(s.heap.push {cls:=.type "dict",data:=.dict #[]}).DictOf knd ↑1 []:=Heap.DictOf.new s.heap;have up: ∀b o,s.heap.get? b=some o->(s.heap.push {cls:=.type "dict",data:=.dict #[]}).get? b=some o:=λb o e=>hP0 _ e;refine⟨c.typeIs,PySem.F.args_dict_init_2 _ _,?_⟩;unfold Builtin.«dict.__init__»;refine wB ?_;unfold Builtin.Dict.selfAndRest;refine wB (wpAny_notOrdered_dict c.typeIs ?_);show wpAny _ _ _ _ _ _;refine wP ?_;show wpAny _ _ (Builtin.Dict.updateFrom "dict.__init__" ↑1 (.ref z) [] .none) _ _ _;unfold Builtin.Dict.updateFrom;refine wB (į ⟨_,up _ _ st.z,rfl⟩ ?_);rw[iP ↑3];refine wB (getAttr?_miss_zip (up _ _ st.z) ZD (by decide+kernel) u (λL C p=>?_) (by decide+kernel));rw[iP (show(none:Option Ļ).isNone=true from rfl)];refine wB (Ģ ?_);obtain⟨f,k,⟨a,b,n⟩,y,B⟩:=st;have j: ∀b o,s.heap.get? b=some o->L.get? b=some o:=λb o e=>p b o (up b o e);refine wB (wpAny_pyIter_zip (j _ _ f) ?_);have ne: ∀{b:Addr}{o:Obj},s.heap.get? b=some o->↑1≠b:=λe=>ă (ä e);obtain⟨p1,J,_⟩:=y.there;obtain⟨p2,H,_⟩:=B.there;refine wP ⟨plainId_quiet PySem.F.plain_dict_update_loop _,Xu (h₀:=h₀) (by first |exact u|exact u) P I K ⟨ne f,ne k,ne n,ne J,ne H⟩ hl1 hl2 kvs hz hkv hend fz fTO f1 f2 ?_ _ 0 0 _ rfl (zero_le _) (.inl ⟨j _ _ f,j _ _ k,⟨a,b,j _ _ n⟩,y.move λo e=>j _ o e,B.move λo e=>j _ o e⟩) ?_ (λb o e=>j b o (hold b o e)) λh' r D t=>⟨rfl,h h' r D t⟩⟩
 .cases q:h₀.get? ↑1 with
  |none=>rfl
  |some v=>exact absurd (ä (hold _ _ q)) (ģ _)
 .obtain⟨v,es,G,q,rest⟩:=c;exact⟨v,es,G,p _ _ q,rest⟩
end
section
variable{X:Cx}{α:B9}{H:Hp}{a b:Expr}{p1 p2 pos pos2:Pos}
def tDZ(X:Cx)(e:TA):TE:=λσ H Q=>e σ H λh a=> ∃(f i:Bool)(b c:Addr)(us ws:List V)(ks:List Key),h=[.ref b,.ref c]/\QH f X.K a b us/\QH i X.K a c ws/\us=ks.map kV/\X.calm=true/\ ∀d,a d=none->Q (.ref d) (jS a d (.dK (KD (ks.zip ws))))
theorem Pn(X:Cx): ∀{ks:List Key}{is b}{ws},Vals (ks.map kV) is->Vals ws b->KV (ks.zip ws) (ks.zip b)/\ ∀(i:Nat) a ,(ks.zip b)[i]? =some a-> ∃x,is[i]? =some x/\b[i]? =some a.2/\(jT X.prog X.w).is a.1 x=true
 |[],_,_,_,_,_=>⟨.nil,λi a h=>by simp at h⟩
 |k::ks,_,_,_,.cons r t,.nil=>⟨.nil,λi a h=>by simp at h⟩
 |k::ks,_,_,_,.cons r t,.cons r' t'=>by
  obtain⟨d,c⟩:=Pn X t t';refine⟨.cons ⟨rfl,r'⟩ d,λi a h=>?_⟩
  cases i with
  |zero=>cases h;exact⟨_,rfl,rfl,GX r⟩
  |succ i=>exact c i a h
theorem Xv(y:Gl X "dict")(O:X.mg "dict"=none)(C:Gl X "zip")(B:X.mg "zip"=none)(ha:PA X [a,b] ta)(hs:starEach [a,b] X.env=[(false,eval a X.env),(false,eval b X.env)]:=by rfl)(j:starEach [b] X.env=[(false,eval b X.env)]:=by rfl)
  (hz:starEach [.Call (.Name "zip" p2) [a,b] [] pos2] X.env=[(false,eval (.Call (.Name "zip" p2) [a,b] [] pos2) X.env)]:=by rfl):
  PE X (.Call (.Name "dict" p1) [.Call (.Name "zip" p2) [a,b] [] pos2] [] pos) (tDZ X ta):=by
 intro pins s σ H Q I h;refine Call_ (qY I y O LQ (ý ?_ (by rw[hz];rfl) (by rfl)));rw[hz];show wpAny _ _ _ _ _ s;refine Calls.spliced_cons ?_;refine Call_ (qY I C B Oa (ý (gH (ha pos2 pins s σ H _ I h) λus d ⟨vs,H1,I1,Y,T⟩=>?_) (by rw[hs,j]) (by rw[j];rfl)));obtain⟨k1,k2,l1,l2,P,J,t,rfl,c1,M,rfl,hc,q⟩:=T
 cases Y with
 |cons r rr=>
  cases rr with
  |cons r' rr=>
   cases rr;cases r;cases r';obtain⟨L,K,p1,z1⟩:=I1.seqK c1;obtain⟨f,F,p2,z2⟩:=I1.seqK M;refine YS p1 p2 λh' st hold=>Calls.spliced_nil ?_;obtain⟨W,Z⟩:=Pn X K F;have G:=K.length;have n2:=F.length;rw[lM]at G
   have lt: ∀{k:Bool}{l:Addr}{v:B0},IsSeq k d.heap l v->l<d.heap.objs.size:=λ{k} {l} {v} p=>by
    cases k with
    |true=>obtain⟨o,e,_⟩:=(p:d.heap.IsList l v);exact ä e
    |false=>obtain⟨o,e,_⟩:=(p:d.heap.IsTuple l v);exact ä e
   have m: ∀{l:Addr},l<d.heap.objs.size->Off l (d.heap.objs.size+4) (d.heap.objs.size+3) d.heap.objs.size (d.heap.objs.size+1):=λ{l} h=>by exact⟨ê (æ h (ď _ _)),ê (æ h (ď _ _)),ê h,ê (æ h (ď _ _))⟩
   have u: ∀n,d.heap.objs.size<=n->d.heap.get? n=none:=λn hn=>by
    cases y:d.heap.get? n with
    |none=>rfl
    |some oo=>exact absurd (ä y) (Nat.not_lt.mpr hn)
   have c:d.heap.objs.size<=h'.objs.size:=by
    have:=ä st.z;have h4:d.heap.objs.size+4<h'.objs.size:=this
    lia
   refine QO (knd:=jT X.prog X.w) (kvs:=t.zip f) (I1.ok.hd hc) (apart_new _) (m (lt p1)) (m (lt p2)) st hold p1 p2 (by rw[length_zip];lia) (λi N hi=>?_) ?_ (u _ (ď _ _)) (u _ (ď _ _)) (u _ (à _)) (u _ (ď _ _)) λh2 U D A=>?_
   .obtain⟨x,g1,S,g3⟩:=Z i N hi;exact⟨x,by simpa using g1,by simpa using S,g3⟩
   .rw[length_zip];by_cases E:t.length<=f.length
    .left;rw[min_eq_left E,G];simp
    .right;rw[min_eq_right #[0]];simp
   .have hf:=SN (t.zip J);rw[length_zip]at hf;refine⟨.ref h'.objs.size,_,I1.laid (t':=U) D c (show ObjOk X.prog X.w _ h2 _ (.dK (KD (t.zip J)))from⟨by lia,Ċ.mpr (Ne.symm (ê (æ (NH I1) c))),_,VH W .nil,A⟩),rfl,q _ (I1.hok.fresh c)⟩
def zEY:List Er->Sto->R Er
 |[p,q],S=>match srcOf S p with
  |some a=>match srcOf S q with
   |some b=>if a.ds.all pS=true then .ok (.val (.loc S.length)) (S++[.dic (Pe (a.ds.zip b.ds))])else .no
   |none=>.no
  |none=>.no
 |_,_=>.no
theorem ZG: ∀{ds}{us},ds.all pS=true->DenL X.K α H ds us-> ∃b:List Key,us=b.map kV/\ ∀{es}{ws},DenL X.K α H es ws->DenK X.K α H (ds.zip es) (b.zip ws)
 |[],us,_,l=>⟨[],by rw[l.isnil];rfl,λ_=>.nil⟩
 |d::ds,us,h,l=>by
  obtain⟨v,r,rfl,c,i⟩:=l.uncons;rw[Ĝ,aE]at h;obtain⟨j,a⟩:=í.mp h.1;obtain⟨b,rfl,f⟩:=ZG h.2 i;refine⟨j::b,by rw[QN a c];rfl,λ{es} {ws} le=>?_⟩
  cases es with
  |nil=>rw[le.isnil];exact .nil
  |cons e es=>
   obtain⟨n,o,rfl,m,k⟩:=le.uncons;exact .cons (QM a) m (f k)
def Xw(I:X.calm=true)(M:Gl X "dict")(O:X.mg "dict"=none)(r:Gl X "zip")(n:X.mg "zip"=none)(i:MR X W [a,b] af)(hs:starEach [a,b] X.env=[(false,eval a X.env),(false,eval b X.env)]:=by rfl)(j:starEach [b] X.env=[(false,eval b X.env)]:=by rfl)
  (hz:starEach [.Call (.Name "zip" p2) [a,b] [] pos2] X.env=[(false,eval (.Call (.Name "zip" p2) [a,b] [] pos2) X.env)]:=by rfl):
  yI X W (.Call (.Name "dict" p1) [.Call (.Name "zip" p2) [a,b] [] pos2] [] pos) (λh S=>(af h S).bind zEY):=by
 obtain⟨t,i,k⟩:=i;refine⟨_,Xv M O r n i hs j hz,λα h S σ H Q wd sl q=>k α h S σ H _ wd sl (q.bind λvs rs S1 J H1 e D d C c=>?_)⟩
 replace c:=c.shift D
 unfold zEY at c;split at c
 .rename_i r1 r2;split at c
  .rename_i N Y;split at c
   .rename_i s2 e2;split at c
    .rename_i G;obtain⟨u,v,rfl,A,E⟩:=B6 C;obtain⟨F,P1,rfl,p1,T⟩:=IO d Y A;obtain⟨l2,P2,rfl,p2,U⟩:=IO d e2 E;obtain⟨us,Z,P⟩:=T.get _ _ _ p1;obtain⟨y,L,g4⟩:=U.get _ _ _ p2;obtain⟨w,rfl,f⟩:=ZG G P;have B:=f g4;refine⟨N.k,s2.k,F,l2,_,y,w,rfl,Z,L,rfl,I,λp z=>?_⟩;have s:=d.newx (o:=.dK (KD (w.zip y))) z;obtain⟨x,K⟩:=d.put (m:=.dic _) z (.inl ⟨_,yE,(DM B .nil).ex0 ⟨⟨[p],rfl⟩,s.tup,s.frz⟩⟩);exact c _ _ _ x K (DenE.val (eY (by rw[<-d.len,é (à _),sub_self];rfl)))
    .exact c.elim
   .exact c.elim
  .exact c.elim
 .exact c.elim
end
def KX(l:Bool)(K:R0)(α:B9)(H:Hp)(d:MV)(v:V):Prop:=if l=true then∃es a b,d=.tup es/\v=.ref a/\H a=some (.lst b)/\a∉α/\DenL K α H es b else Den K α H d v
inductive KXL(l:Bool)(K:R0)(α:B9)(H:Hp):List MV->List V->Prop
 |nil:KXL l K α H [] []
 |cons {d v ds vs}:KX l K α H d v->KXL l K α H ds vs->KXL l K α H (d::ds) (v::vs)
section
variable{K:R0}
theorem KXL.length: ∀{ds}{vs},KXL l K α H ds vs->vs.length=ds.length
 |_,_,.nil=>rfl
 |_,_,.cons h t=>by rw[lC,lC,KXL.length t]
theorem KXL.at: ∀{ds}{vs}{i:Nat}{d},KXL l K α H ds vs->ds[i]? =some d-> ∃v,vs[i]? =some v/\KX l K α H d v
 |_,_,0,_,.cons h t,e=>by cases e;exact⟨_,rfl,h⟩
 |_,_,i+1,_,.cons h t,e=>KXL.at (i:=i) t e
end
open Classical in
def KAt(d:Addr)(us:A0)(a:Nat)(h:Heap):Prop:= ∃o es,h.get? d=some o/\o.ExactDict/\o.data=.dict es a/\es.toList.map (·.key)=us
def KAt.at(x:KAt d us ep h)(m: ∀o,h.get? d=some o->h'.get? d=some o):KAt d us ep h':=let ⟨o,es,a,r⟩:=x;⟨o,es,m o a,r⟩
theorem KAt.size(x:KAt d us ep h): ∃o es,h.get? d=some o/\o.ExactDict/\o.data=.dict es ep/\es.size=us.length/\ ∀i (hi:i<es.size),us[i]? =some es[i].key:=by obtain⟨o,es,a,c,b,e⟩:=x;refine⟨o,es,a,c,b,by rw[<-e,lM,ā],λi hi=>?_⟩;rw[<-e,ï,Ā,Array.getElem?_eq_getElem hi];rfl
def RMtX(P:ļ)(w:World)(K:R0)(mg:L0)(base:Heap)(m:Str)(k n:Nat)(c:Str)(F:List MV->Sto->R Er):Prop:= ∃C a b ps,OC K c C/\Meth K C m a/\FnOk P w K mg base (CXe P w) k a b ps (zEV ⟨K,mg,P,w⟩ n F)/\Binds K b ps []
def RMtX.noX{K:R0}(T:RMtX P w K mg base m k n c F):zBD P w K mg base m k n c F:=let ⟨C,a,e,ps,f,b,G,d⟩:=T;⟨C,a,e,ps,f,b,G.noX,d⟩
def Po:Er->Option (List Nat)
 |.val (.int i)=>if i.natAbs.log2<1920 then some (QG i)else none
 |.val (.str x)=>some x
 |_=>none
def zBE(out:Db)(r:Er)(k:List Nat->R Er):R Er:=match Po r with
 |some y=>if(out++y).length<=sizeLine then k (out++y)else .no
 |none=>.no
def PJ(X:Cx)(W:XW)(es:Q0)(f:List Nat->AX):Prop:=
 ∀out pins s α a S σ H Q,out.length<=sizeLine->Inv X pins σ H s->Wd X.g α S H->Slots X.K α H a σ->Post X.g W α H (f out a S) Q->wpAny ↑4 X.A (joinParts (bW out) (evalEach es X.env)) (EP X pins σ Q) X.xe s
noncomputable def fzF(out:Db)(_:Rho)(S:Sto):R Er:=.ok (.val (.str out)) S
def X4(x:Db)(f:List Nat->AX)(out:Db)(ρ:Rho)(S:Sto):R Er:=zBE out (.val (.str x)) λo=>f o ρ S
def zBF(g:AX)(f:List Nat->AX)(out:Db)(ρ:Rho)(S:Sto):R Er:=(g ρ S).bind λr a=>zBE out r λo=>f o ρ a
section
variable{g:AX}
def X5:PJ X W [] fzF:=λout pins s α b S σ H Q a I wd sl q=>
 joinParts_nil ⟨.str (bW out),H,I.tok _,⟨_,rfl⟩,Post.val q wd (lV out)⟩ (by rw[gT];exact a)
def Pp(E:yI X W e g)(J:PJ X W es f):PJ X W (.FormattedValue e (-1) none pos::es) (zBF g f):=by
 obtain⟨t,F,L⟩:=E;intro out pins s α n S σ H Q O I wd sl q;refine joinParts_cons (FormattedValue_plain (gH (F pins s σ H (λx d=> ∃y a h,((∃i:Int,x=.int i/\i.natAbs.log2<1920/\y=QG i)\/x=.str (bW y))/\(out++y).length<=sizeLine/\Wd X.g a h d/\Slots X.K a d n σ/\Post X.g W a d (f (out++y) n h) Q) I (L α n S σ H _ wd sl (q.bind λu r h a d P C z B b=>?_))) λv G ⟨x,d,I1,D,y,a,h,M,k,z,p,b⟩=>?_))
 .unfold zBE at b;split at b
  .rename_i y c;split at b
   .rename_i k;refine⟨y,a,h,?_,k,z,sl.ext C,b.shift C⟩;unfold Po at c;split at c
    .split at c
     .rename_i i hi;cases c;exact .inl ⟨i,wG B.1,hi,rfl⟩
     .cases c
    .cases c;exact .inr (dR B.1)
    .cases c
   .exact b.elim
  .exact b.elim
 .have j:(bW out++bW y).length<=sizeLine:=by rw[GB,gT];exact k
  have m: ∀o,wpAny ↑4 X.A (joinParts (bW out++bW y) (evalEach es X.env)) (EP X pins σ Q) X.xe {G with toks:=o}:=λo=>by rw[GB];exact J _ pins _ a n h σ d Q k (I1.tok _) z p b
  rcases M with⟨i,rfl,hi,rfl⟩|rfl
  .obtain⟨t,rfl⟩:=D;refine formatField_int_small hi ?_;dsimp only;rw[show toString i=Str.ofString (toString i)from rfl,Nx];exact⟨j,m _⟩
  .obtain⟨t,rfl⟩:=D;refine formatField_str (λN o=>⟨j,m o⟩) ?_;rw[gT];rw[lA]at k;omega
def Pq(x)(d:PJ X W es f)(c:y=bW x:=by rfl):PJ X W (.Constant (.str y) j pos::es) (X4 x f):=by
 subst c;intro out pins s α e S σ H Q h I wd sl q;unfold X4 zBE Po at q;dsimp only at q;split at q
 .rename_i b;have a:(bW out++bW x).length<=sizeLine:=by rw[GB,gT];exact b
  refine joinParts_cons (Calls.Constant_str ⟨a,?_⟩);rw[GB];exact d _ pins _ α e S σ H Q b (I.tok _) wd sl q
 .exact q.elim
def Xx(h:PJ X W (a::b::es) f):yI X W (.JoinedStr (a::b::es) pos) (f []):=
 ⟨λσ H Q=> ∃α c S,Wd X.g α S H/\Slots X.K α H c σ/\Post X.g W α H (f [] c S) Q,λpins s σ H Q I ⟨α,c,S,wd,sl,q⟩=>JoinedStr_many (h [] pins s α c S σ H Q (zero_le _) I wd sl q),λα c S σ H Q wd sl q=>⟨α,c,S,wd,sl,q⟩⟩
end
end M
end L2
namespace L2
namespace M
namespace My
open PySem PySem.Spec PyProof.Rows
set_option bootstrap.genMatcherCode true in
local macro_rules
 | `(tactic|simp? [$xs,*] $[$l:location]?)=>`(tactic|simp only[List.getElem?_cons_zero,List.getElem?_cons_succ,Wl,cH,as_int,zCU,R9,add_int,sub_int,eq_int,S7,Oj,lst1,Ol,lst3,lst6,tup2,tup3,T5,T6,T7,T8,T9,Om,Wq,Wr,List.set_cons_zero,List.set_cons_succ,if_true,Wu,Wt,vJ,kJ,bJ,dJ,nJ,aJ,iJ,mJ,tJ,zJ,fJ,eJ,gJ,uJ,pJ,qJ,rJ,sJ,wJ,yJ,AJ,BJ,CJ,DJ,EJ,FJ,JJ,$xs,*] $[$l:location]?)
set_option bootstrap.genMatcherCode true in
local macro_rules
 |`(#[$x])=>`(some (.loc $x))
 |`(#[$x,0])=>`(some (.int $x))
 |`(#[$x,1])=>`(.val (.loc $x))
 |`(#[$x,2])=>`(some (.lst $x))
 |`(#[$x,3])=>`(some (.tup $x))
 |`(#[$x,4])=>`(some (.str $x))
 |`(#[$x,5])=>`(.val (.int $x))
 |`(#[$x,6])=>`(.val (.tup $x))
 |`(#[$x,7])=>`(some (.dic $x))
abbrev NZ:List Str:=["atoms","names","atom","term"]
abbrev SX:List Str:=["terms","cells","values","term","cell","expected"]
abbrev OA:List Str:=["formula","parts","inner"]
abbrev sZ:List Str:=["rows","cells","t","some"]
abbrev IW:List Str:=["part","cells","values","terms","ways","some","fit","both"]
abbrev xS:List Str:=["self","formula","rows"]
abbrev iO:List Str:=["self","trail","values","place","state"]
abbrev fV:List Str:=["self","values","trail","told","state","ways","settles"]
abbrev HB:List Str:=["formula","rows","values"]
abbrev lN:List Str:=["question","seen","place","atom"]
abbrev KE:List Str:=["tables","question","atom","key"]
abbrev oE:List Str:=["tables","question","place","atoms","others","names","before","other"]
abbrev rG:List Str:=["tables","question","place","learnt","unknown","reached","waiting","names","other"]
abbrev VJ:List Str:=["tables","question","pairs","a"]
abbrev Ps:List Str:=["tables","question","pairs","a","b"]
abbrev tB:List Str:=["tables","question","pairs","left","ordered","unswayed"]
abbrev AT:List Str:=["tables","atom","named","t","key","in_key","named_now","first","cells","sames","column","term"]
abbrev uZ:List Str:=["tables","question","found","named","parts","atom","formula","part"]
abbrev AU:List Str:=[ŋ,"_law_letters",ŉ,"_law_name",ŏ]
abbrev dY:List Str:=[ŋ,ŉ,Ō,ŏ,š,"_law_letter"]
abbrev HC:List Str:=[Ŋ,ŉ,"_law_letters","_law_long","_law_spot",Ō,ŏ,š,"_law_j","_law_sign"]
abbrev HD:List Str:=[Ŋ,ŉ,"_law_some",ŋ,ŏ,ş]
abbrev rH:List Str:=[Ŋ,Ō,ŋ,ŉ,"_law_found",ŏ,Š,ş,"_law_pool","_law_turn"]
abbrev KF:List Str:=[ő,ŗ,Ŏ,ň,"_law_some",Ŋ,ş,"_law_row"]
abbrev lX:List Str:=[ň,ŝ,Ş,ō,"_law_block"]
abbrev qA:List Str:=[ň,œ,Ŕ,ō,ŝ,ő,"_law_block"]
abbrev Pu:List Str:=[Ň,Ō,Ŏ,Ŋ,œ,ō,"_law_last","_law_begin",Ŕ,"_law_atoms","_law_head",ň,"_law_formula","_law_strange","_law_one","_law_given","_law_due","_law_told"]
def oF:AY:=(iJ (bJ (dJ rE (dJ xK (vJ 3) (kJ (.int 0))) (kJ (.str [118,97,114]))) jW) ((EJ (kJ (.bl true)) (DJ EE (vJ 1) (dJ xK (vJ 3) (kJ (.int 1)))))) (JJ))
def lY:AY:=(oF)
def AV:AY:=(FJ (bJ (dJ xK (vJ 2) (kJ (.int 1))) B5) (yX 3) (lY))
def mB:AY:=(AV)
abbrev AF:=AY
abbrev AE:=AX
def tS:AF:=(CJ zJ 1)
def tU:AF:=(FJ (bJ (vJ 0) vM) (yX 2) (mB))
def tV:AF:=(AJ (bJ (yJ (vJ 1) wJ) AR))
def FG:AF:=zL (tS) (zL (tU) ((tV)))
def xT(ds:U0)(S:Sto):R Er:=yP (FG (yH NZ ds) S)
def kP:AF:=(iJ (rJ (bJ (dJ rE (dJ xK (vJ 0) (kJ (.int 0))) (kJ (.str [118,97,114]))) jW) (bJ (dJ (DV false) (dJ xK (vJ 0) (kJ (.int 1))) (vJ 1)) jW)) ((AJ (bJ (yJ (kJ (.str [105,115])) (yJ (dJ Ke (vJ 1) (dJ xK (vJ 0) (kJ (.int 1)))) wJ)) wR))) (JJ))
def QP:AF:=(AJ (vJ 0))
def AW:AF:=zL (kP) ((QP))
def dO(ds:U0)(S:Sto):R Er:=yP (AW (yH ["term","values"] ds) S)
def kQ:AY:=(CJ (iJ (bJ (dJ rE (dJ xK (vJ 3) (kJ (.int 0))) (kJ (.str [118,97,114]))) jW) (eJ vI Da (vJ 2) (yJ (dJ xK (vJ 3) (kJ (.int 1))) (yJ (vJ 4) wJ))) (dJ xK (vJ 3) (kJ (.int 1)))) 5)
def rK:AY:=(iJ (bJ (dJ II (vJ 5) (vJ 4)) jW) ((AJ (kJ .non))) (JJ))
def bF:AY:=zL (kQ) ((rK))
def BA:AF:=(CJ zJ 2)
def BB:AF:=(FJ (bJ (yJ (vJ 0) (yJ (vJ 1) wJ)) zCT) (KB 2 (zV (yX 3) (zV (yX 4) gV))) (bF))
def ZH:AF:=(AJ (vJ 2))
def tD:AF:=zL (BA) (zL (BB) ((ZH)))
def mU(ds:U0)(S:Sto):R Er:=yP (tD (yH SX ds) S)
def oG:AY:=(BJ (eJ wF tR (vJ 1) (yJ (vJ 2) wJ)))
def BC:AY:=(CJ (dJ xK (vJ 2) (kJ (.int (-1)))) 2)
def mE:AY:=zL (oG) ((BC))
def gK:AZ:=(bJ (dJ II (dJ xK (vJ 2) (kJ (.int 0))) (kJ (.str [121,101,115]))) jW)
def tW:AF:=(CJ (bJ wJ kI) 1)
def tX:AF:=(CJ (vJ 0) 2)
def HE:AF:=(λa S=>jI (gK) (mE) 10000 a S)
def VL:AF:=(AJ (vJ 1))
def FH:AF:=zL (tW) (zL (tX) (zL (HE) ((VL))))
def dD(ds:U0)(S:Sto):R Er:=yP (FH (yH OA ds) S)
def dZ:AZ:=uJ
def gW:AE:=(bJ (yJ (dJ xK (vJ 0) (kJ (.int 0))) (yJ (iJ (bJ (dJ rE (dJ xK (vJ 0) (kJ (.int 0))) (kJ (.str [115,97,109,101]))) jW) (tJ fQ (vJ 0) (bJ (kJ (.int 1)) RQ) (bJ (kJ (.int 3)) RQ)) (dJ xK (vJ 0) (kJ (.int 2)))) wJ)) wR)
def vA:AF:=(AJ (fJ 1 xT (yJ (pJ (bJ (vJ 0) vM) (yX 0) (dZ) (gW) 1 []) wJ)))
def rL:AF:=(vA)
def fB(ds:U0)(S:Sto):R Er:=yP (rL (yH ["parts"] ds) S)
def bG:AY:=(BJ (eJ wF tR (eJ vI Da (vJ 1) (yJ (vJ 2) (yJ (bJ wJ kI) wJ))) (yJ (vJ 3) wJ)))
def wU:AY:=(bG)
def dE:AF:=(CJ zJ 1)
def dF:AF:=(FJ (bJ (vJ 0) vM) (KB 2 (zV (yX 2) (zV (yX 3) gV))) (wU))
def FI:AF:=(AJ (vJ 1))
def aQ:AF:=zL (dE) (zL (dF) ((FI)))
def xU(ds:U0)(S:Sto):R Er:=yP (aQ (yH sZ ds) S)
def rM:AZ:=uJ
def cJ:AE:=(fJ 2 dO (yJ (vJ 0) (yJ (vJ 1) wJ)))
def cK:AY:=(CJ (fJ 2 mU (yJ (vJ 3) (yJ (vJ 5) wJ))) 6)
def cL:AY:=(iJ (bJ (dJ NB (vJ 6) (kJ .non)) jW) (zL (CJ (bJ (yJ (vJ 2) wJ) Kc) 7) (zL (BJ (eJ vI EF (vJ 7) (yJ (vJ 6) wJ))) ((BJ (eJ wF tR (vJ 4) (yJ (vJ 7) wJ)))))) (JJ))
def qB:AY:=zL (cK) ((cL))
def fW:AF:=(iJ (bJ (dJ rE (dJ xK (vJ 0) (kJ (.int 0))) (kJ (.str [115,97,109,101]))) jW) ((AJ (iJ (bJ (dJ rE (fJ 2 dO (yJ (dJ xK (vJ 0) (kJ (.int 1))) (yJ (vJ 2) wJ))) (fJ 2 dO (yJ (dJ xK (vJ 0) (kJ (.int 2))) (yJ (vJ 2) wJ)))) jW) (bJ (yJ (vJ 2) wJ) kI) (bJ wJ kI)))) (JJ))
def BD:AF:=(CJ (pJ (bJ (dJ xK (vJ 0) (kJ (.int 2))) B5) (yX 0) (rM) (cJ) 1 [2]) 3)
def BE:AF:=(CJ (bJ wJ kI) 4)
def BF:AF:=(FJ (bJ (eJ vI EH (vJ 1) (yJ (dJ xK (vJ 0) (kJ (.int 1))) (yJ (bJ wJ kI) wJ))) vM) (yX 5) (qB))
def ZI:AF:=(AJ (vJ 4))
def tE:AF:=zL (fW) (zL (BD) (zL (BE) (zL (BF) ((ZI)))))
def aR(ds:U0)(S:Sto):R Er:=yP (tE (yH IW ds) S)
def jY:AZ:=uJ
def wK:AE:=(fJ 1 fB (yJ (tJ fQ (bJ (vJ 1) (oC "Reading" "steps")) (bJ (vJ 0) RQ) mJ) wJ))
def fX:AF:=(E4 "Reading" "steps" (fJ 1 dD (yJ (vJ 1) wJ)) (vJ 0))
def fY:AF:=(E4 "Reading" "asked" (pJ (bJ (yJ (bJ (yJ (bJ (vJ 0) (oC "Reading" "steps")) wJ) rF) wJ) fP) (yX 0) (jY) (wK) 1 [0]) (vJ 0))
def fZ:AF:=(E4 "Reading" "cells" (fJ 1 xU (yJ (vJ 2) wJ)) (vJ 0))
def iA:AF:=(E4 "Reading" "found" zJ (vJ 0))
def yQ:AF:=zL (fX) (zL (fY) (zL (fZ) ((iA))))
def xC(ds:U0)(S:Sto):R Er:=yP (yQ (yH xS ds) S)
def lO:AZ:=uJ
def cB:AE:=(eJ vI EH (vJ 1) (yJ (vJ 0) wJ))
def nA:AF:=(CJ (bJ (yJ (vJ 1) wJ) rF) 3)
def nB:AF:=(iJ (bJ (dJ rE (vJ 3) (bJ (yJ (bJ (vJ 0) (oC "Reading" "steps")) wJ) rF)) jW) ((AJ (kJ (.bl true)))) (JJ))
def nE:AF:=(CJ (bJ (yJ (vJ 3) (yJ (bJ (yJ (pJ (bJ (dJ xK (bJ (vJ 0) (oC "Reading" "asked")) (vJ 3)) vM) (yX 0) (lO) (cB) 1 [2]) wJ) AC) wJ)) wR) 4)
def gX:AF:=(iJ (bJ (dJ (Jo false) (vJ 4) (bJ (vJ 0) (oC "Reading" "found"))) jW) ((AJ (dJ Kf (bJ (vJ 0) (oC "Reading" "found")) (vJ 4)))) (JJ))
def nF:AF:=(BJ (eJ wF tR (vJ 1) (yJ (bJ (yJ (vJ 4) (yJ (fJ 3 aR (yJ (dJ xK (bJ (vJ 0) (oC "Reading" "steps")) (vJ 3)) (yJ (bJ (vJ 0) (oC "Reading" "cells")) (yJ (vJ 2) wJ)))) wJ)) wR) wJ)))
def HF:AF:=(AJ (kJ .non))
def yB:AF:=zL (nA) (zL (nB) (zL (nE) (zL (gX) (zL (nF) ((HF))))))
def zX(ds:U0)(S:Sto):R Er:=yP (yB (yH iO ds) S)
def kR:AY:=(CJ (dJ xK (dJ xK (vJ 2) (kJ (.int (-1)))) (kJ (.int 0))) 4)
def kT:AY:=(CJ (dJ xK (dJ xK (vJ 2) (kJ (.int (-1)))) (kJ (.int 1))) 5)
def kU:AY:=(CJ (dJ II (dJ xK (dJ xK (bJ (vJ 0) (oC "Reading" "steps")) (dJ xK (vJ 4) (kJ (.int 0)))) (kJ (.int 0))) (kJ (.str [101,97,99,104]))) 6)
def xV:AY:=(iJ (rJ (bJ (dJ II (vJ 3) (vJ 6)) jW) (bJ (vJ 5) DU)) ((CJ (RJ "Reading" "enter" 3 zX (vJ 0) (yJ (vJ 2) (yJ (gJ wF EG (vJ 5)) wJ))) 3)) (zL (iJ (bJ (dJ II (vJ 3) (vJ 6)) jW) ((CJ (nJ (vJ 6)) 3)) (JJ)) (zL (EJ (vJ 3) (DJ SC (bJ (vJ 0) (oC "Reading" "found")) (vJ 4))) ((BJ (gJ wF EG (vJ 2)))))))
def yV:AY:=zL (kR) (zL (kT) (zL (kU) ((xV))))
def xE:AZ:=(bJ (vJ 2) DU)
def jZ:AF:=(CJ (bJ wJ kI) 2)
def hX:AF:=(CJ (RJ "Reading" "enter" 3 zX (vJ 0) (yJ (vJ 2) (yJ (vJ 1) wJ))) 3)
def nG:AF:=(λa S=>jI (xE) (yV) 100000000 a S)
def tY:AF:=(AJ (vJ 3))
def yF:AF:=zL (jZ) (zL (hX) (zL (nG) ((tY))))
def yR(ds:U0)(S:Sto):R Er:=yP (yF (yH fV ds) S)
def SY:AF:=(AJ (RJ "Reading" "holds_with" 2 yR (bJ (yJ (vJ 0) (yJ (vJ 1) wJ)) (Kd "Reading" 3 xC)) (yJ (vJ 2) wJ)))
def VM:AF:=(SY)
def LS(ds:U0)(S:Sto):R Er:=yP (VM (yH HB ds) S)
def jM:AY:=(iJ (bJ (dJ (DV false) (dJ xK (vJ 3) (kJ (.int 0))) (vJ 1)) jW) ((λ_ _=>R.no)) (JJ))
def jN:AY:=(EJ (kJ (.bl true)) (DJ EE (vJ 1) (dJ xK (vJ 3) (kJ (.int 0)))))
def gQ:AY:=zL (jM) ((jN))
def gR:AF:=(CJ zJ 1)
def aH:AF:=(FJ (bJ (yJ (dJ xK (vJ 0) (kJ (.int 1))) wJ) zCW) (KB 2 (zV (yX 2) (zV (yX 3) gV))) (gQ))
def cC:AF:=zL (gR) ((aH))
def jD(ds:U0)(S:Sto):R Er:=yP (cC (yH lN ds) S)
def aS:AZ:=(bJ (dJ (KC true) (vJ 0) (dJ xK (vJ 1) (kJ (.int 0)))) jW)
def tF:AE:=(vJ 0)
def oH:AF:=(AJ (pJ (bJ (fJ 1 xT (yJ (bJ (yJ (vJ 1) wJ) kI) wJ)) vM) (yX 0) (aS) (tF) 1 [0]))
def tZ:AF:=(oH)
def wL(ds:U0)(S:Sto):R Er:=yP (tZ (yH ["question","atom"] ds) S)
def rN:AF:=(CJ (dJ xK (dJ xK (vJ 0) (dJ xK (vJ 2) (kJ (.int 0)))) (kJ (.int 1))) 3)
def rO:AF:=(AJ (fJ 2 wL (yJ (vJ 1) (yJ (bJ (yJ (dJ xK (vJ 2) (kJ (.int 0))) (yJ (tJ fQ (dJ xK (vJ 2) (kJ (.int 1))) mJ (bJ (vJ 3) RQ)) wJ)) wR) wJ))))
def BG:AF:=zL (rN) ((rO))
def dP(ds:U0)(S:Sto):R Er:=yP (BG (yH KE ds) S)
def BH:AZ:=uJ
def oI:AE:=(bJ (yJ (vJ 0) (yJ (kJ (.bl true)) wJ)) wR)
def BI:AZ:=uJ
def oK:AE:=(dJ (DV false) (vJ 0) (vJ 1))
def BK:AZ:=uJ
def oM:AE:=(bJ (yJ (vJ 0) (yJ (kJ (.bl true)) wJ)) wR)
def BL:AY:=(iJ (bJ (bJ (yJ (pJ (bJ (fJ 3 dP (yJ (vJ 0) (yJ (vJ 1) (yJ (vJ 7) wJ)))) vM) (yX 0) (BI) (oK) 1 [5]) wJ) Wf) DU) ((BJ (eJ vI EF (vJ 5) (yJ (bJ (yJ (pJ (bJ (fJ 2 wL (yJ (vJ 1) (yJ (vJ 7) wJ))) vM) (yX 0) (BK) (oM) 1 []) wJ) ZA) wJ)))) (JJ))
def mG:AY:=(BL)
def oN:AY:=(CJ (bJ (yJ (vJ 5) wJ) SS) 6)
def BM:AY:=(FJ (bJ (vJ 4) B5) (yX 7) (mG))
def mH:AY:=zL (oN) ((BM))
def fC:AZ:=(bJ (dJ C6 (vJ 6) (bJ (yJ (vJ 5) wJ) SS)) jW)
def uA:AF:=(CJ (dJ xK (vJ 1) (kJ (.int 1))) 3)
def uB:AF:=(CJ (dJ jL (tJ fQ (vJ 3) mJ (bJ (vJ 2) RQ)) (tJ fQ (vJ 3) (bJ (dJ jL (vJ 2) (kJ (.int 1))) RQ) mJ)) 4)
def uC:AF:=(CJ (bJ (yJ (pJ (bJ (fJ 3 dP (yJ (vJ 0) (yJ (vJ 1) (yJ (dJ xK (vJ 3) (vJ 2)) wJ)))) vM) (yX 0) (BH) (oI) 1 []) wJ) ZA) 5)
def uD:AF:=(CJ (kJ (.int (-1))) 6)
def HG:AF:=(λa S=>jI (fC) (mH) 10000 a S)
def HI:AF:=(AJ (vJ 5))
def FK:AF:=zL (uA) (zL (uB) (zL (uC) (zL (uD) (zL (HG) ((HI))))))
def uE(ds:U0)(S:Sto):R Er:=yP (FK (yH oE ds) S)
def iB:AZ:=uJ
def bH:AE:=(dJ (KC false) (vJ 0) (vJ 1))
def oO:AF:=(AJ (bJ (yJ (pJ (bJ (vJ 0) vM) (yX 0) (iB) (bH) 1 [1]) wJ) Nt))
def aT:AF:=(oO)
def bS(ds:U0)(S:Sto):R Er:=yP (aT (yH ["some","others"] ds) S)
def nH:AZ:=(bJ (dJ (DV true) (vJ 0) (vJ 1)) jW)
def qC:AE:=(vJ 0)
def qD:AZ:=uJ
def nI:AE:=(pJ (bJ (fJ 2 wL (yJ (vJ 1) (yJ (vJ 0) wJ))) vM) (yX 0) (nH) (qC) 1 [2])
def qE:AY:=(iJ (rJ (bJ (dJ (DV true) (vJ 8) (vJ 5)) jW) (bJ (fJ 2 bS (yJ (vJ 7) (yJ (dJ xK (vJ 4) (vJ 8)) wJ))) DU)) (zL (EJ (kJ (.bl true)) (DJ EE (vJ 5) (vJ 8))) ((BJ (eJ wF tR (vJ 6) (yJ (vJ 8) wJ))))) (JJ))
def cU:AY:=(qE)
def nK:AY:=(CJ (dJ xK (vJ 4) (gJ wF EG (vJ 6))) 7)
def qF:AY:=(FJ (bJ (yJ (bJ (yJ (vJ 4) wJ) rF) wJ) fP) (yX 8) (cU))
def cW:AY:=zL (nK) ((qF))
def jO:AZ:=(bJ (vJ 6) DU)
def iQ:AF:=(CJ (fJ 3 uE (yJ (vJ 0) (yJ (vJ 1) (yJ (vJ 2) wJ)))) 3)
def iR:AF:=(CJ (pJ (bJ (dJ xK (vJ 1) (kJ (.int 1))) B5) (yX 0) (qD) (nI) 1 [1,3]) 4)
def iS:AF:=(CJ (d1J (vJ 2) (kJ (.bl true))) 5)
def iU:AF:=(CJ (bJ (yJ (vJ 2) wJ) kI) 6)
def vB:AF:=(λa S=>jI (jO) (cW) 10000 a S)
def vC:AF:=(AJ (bJ (yJ (vJ 5) wJ) AR))
def rP:AF:=zL (iQ) (zL (iR) (zL (iS) (zL (iU) (zL (vB) ((vC))))))
def fE(ds:U0)(S:Sto):R Er:=yP (rP (yH rG ds) S)
def BN:AZ:=(bJ (dJ II (vJ 0) (vJ 1)) jW)
def BO:AE:=(bJ (yJ (vJ 1) (yJ (vJ 0) wJ)) wR)
def KG:AY:=(BJ (eJ wF VC (vJ 2) (yJ (pJ (bJ (fJ 3 fE (yJ (vJ 0) (yJ (vJ 1) (yJ (vJ 3) wJ)))) vM) (yX 0) (BN) (BO) 1 [3]) wJ)))
def DO:AY:=(KG)
def IX:AF:=(BJ (fJ 1 jD (yJ (vJ 1) wJ)))
def IY:AF:=(CJ (bJ wJ kI) 2)
def IZ:AF:=(FJ (bJ (yJ (bJ (yJ (dJ xK (vJ 1) (kJ (.int 1))) wJ) rF) wJ) fP) (yX 3) (DO))
def SZ:AF:=(AJ (bJ (yJ (vJ 2) wJ) SJ))
def VN:AF:=zL (IX) (zL (IY) (zL (IZ) ((SZ))))
def DP(ds:U0)(S:Sto):R Er:=yP (VN (yH VJ ds) S)
def FL:AY:=(iJ (bJ (dJ (KC false) (bJ (yJ (vJ 4) (yJ (vJ 3) wJ)) wR) (vJ 2)) jW) ((AJ (bJ (yJ (vJ 3) (yJ (vJ 4) wJ)) kI))) (JJ))
def HK:AY:=(FL)
def OB:AF:=(CJ (fJ 2 DP (yJ (vJ 0) (yJ (vJ 1) wJ))) 2)
def OD:AF:=(FJ (bJ (vJ 2) vM) (KB 2 (zV (yX 3) (zV (yX 4) gV))) (HK))
def Pv:AF:=(AJ (kJ .non))
def De:AF:=zL (OB) (zL (OD) ((Pv)))
def VO(ds:U0)(S:Sto):R Er:=yP (De (yH Ps ds) S)
def EI:AZ:=uJ
def rQ:AE:=(dJ (KC false) (bJ (yJ (vJ 0) (yJ (vJ 1) wJ)) wR) (vJ 2))
def rR:AZ:=(qJ (bJ (bJ (yJ (pJ (bJ (vJ 2) vM) (yX 0) (EI) (rQ) 1 [0,1]) wJ) Nt) DU))
def EK:AE:=(vJ 0)
def rS:AZ:=(bJ (dJ (KC true) (vJ 0) (vJ 1)) jW)
def EL:AE:=(vJ 0)
def EM:AY:=(CJ (pJ (bJ (vJ 3) vM) (yX 0) (rR) (EK) 1 [2,3]) 5)
def EO:AY:=(BJ (eJ wF VC (vJ 4) (yJ (vJ 5) wJ)))
def EQ:AY:=(CJ (pJ (bJ (vJ 3) vM) (yX 0) (rS) (EL) 1 [5]) 3)
def KH:AY:=zL (EM) (zL (EO) ((EQ)))
def mI:AZ:=(bJ (vJ 3) DU)
def ER:AZ:=uJ
def rV:AE:=(dJ xK (dJ xK (vJ 1) (kJ (.int 1))) (vJ 0))
def qG:AF:=(CJ (fJ 2 DP (yJ (vJ 0) (yJ (vJ 1) wJ))) 2)
def BP:AF:=(CJ (bJ (yJ (bJ (yJ (dJ xK (vJ 1) (kJ (.int 1))) wJ) rF) wJ) Fs) 3)
def BQ:AF:=(CJ (bJ wJ kI) 4)
def BR:AF:=(λa S=>jI (mI) (KH) 10000 a S)
def KI:AF:=(AJ (pJ (bJ (vJ 4) vM) (yX 0) (ER) (rV) 1 [1]))
def Kh:AF:=zL (qG) (zL (BP) (zL (BQ) (zL (BR) ((KI)))))
def DQ(ds:U0)(S:Sto):R Er:=yP (Kh (yH tB ds) S)
def OE:AF:=(AJ (aJ (dJ rE (dJ xK (vJ 0) (kJ (.int 0))) (kJ (.str [118,97,114]))) (dJ (KC true) (dJ xK (vJ 0) (kJ (.int 1))) (vJ 1))))
def OG:AF:=(OE)
def tG(ds:U0)(S:Sto):R Er:=yP (OG (yH ["term","named"] ds) S)
def HL:AF:=(AJ (iJ (bJ (fJ 2 tG (yJ (vJ 0) (yJ (vJ 1) wJ))) DU) (bJ (yJ (kJ (.str [118,97,114])) (yJ (dJ jL (kJ (.str [115,111,109,101,32])) (dJ xK (vJ 0) (kJ (.int 1)))) wJ)) wR) (vJ 0)))
def FM:AF:=(HL)
def uF(ds:U0)(S:Sto):R Er:=yP (FM (yH ["term","named"] ds) S)
def vD:AZ:=uJ
def iV:AE:=(fJ 2 uF (yJ (vJ 0) (yJ (vJ 1) wJ)))
def vE:AY:=(iJ (bJ (fJ 2 tG (yJ (vJ 11) (yJ (vJ 6) wJ))) DU) (zL (BJ (eJ wF tR (vJ 8) (yJ (vJ 11) wJ))) ((BJ (eJ wF tR (vJ 6) (yJ (dJ xK (vJ 11) (kJ (.int 1))) wJ))))) (zL (BJ (eJ wF tR (vJ 8) (yJ (bJ (yJ (kJ (.str [118,97,114])) (yJ ((X4 [99,101,108,108,32] (zBF (vJ 3) (X4 [32] (zBF (vJ 10) fzF)))) []) wJ)) wR) wJ))) ((BJ (eJ wF tR (vJ 9) (yJ (bJ (yJ (kJ (.str [115,97,109,101])) (yJ (dJ xK (vJ 8) (kJ (.int (-1)))) (yJ (vJ 11) wJ))) wR) wJ))))))
def rW:AY:=(vE)
def ES:AF:=(CJ (dJ xK (vJ 1) (kJ (.int 0))) 3)
def rX:AF:=(CJ (dJ xK (dJ xK (vJ 0) (vJ 3)) (kJ (.int 1))) 4)
def ET:AF:=(CJ (tJ fQ (dJ xK (vJ 1) (kJ (.int 1))) mJ (bJ (vJ 4) RQ)) 5)
def rY:AF:=(CJ (dJ jL (vJ 2) (fJ 1 xT (yJ (bJ (yJ (bJ (yJ (vJ 3) (yJ (vJ 5) wJ)) wR) wJ) kI) wJ))) 6)
def rZ:AF:=(CJ (bJ (yJ (kJ (.str [115,111,109,101])) (yJ (vJ 3) (yJ (dJ jL (vJ 5) (bJ (yJ (pJ (bJ (tJ fQ (dJ xK (vJ 1) (kJ (.int 1))) (bJ (vJ 4) RQ) mJ) B5) (yX 0) (vD) (iV) 1 [6]) wJ) AC)) wJ))) wR) 7)
def sB:AF:=(CJ (bJ wJ kI) 8)
def sC:AF:=(CJ (bJ wJ kI) 9)
def sD:AF:=(FJ (bJ (yJ (tJ fQ (dJ xK (vJ 1) (kJ (.int 1))) (bJ (vJ 4) RQ) mJ) wJ) zCW) (KB 2 (zV (yX 10) (zV (yX 11) gV))) (rW))
def EU:AF:=(AJ (dJ jL (bJ (yJ (vJ 7) (yJ (bJ (yJ (kJ (.str [101,97,99,104])) (yJ (vJ 3) (yJ (dJ jL (vJ 5) (bJ (yJ (vJ 8) wJ) AC)) wJ))) wR) wJ)) kI) (vJ 9)))
def ZJ:AF:=zL (ES) (zL (rX) (zL (ET) (zL (rY) (zL (rZ) (zL (sB) (zL (sC) (zL (sD) ((EU)))))))))
def qH(ds:U0)(S:Sto):R Er:=yP (ZJ (yH AT ds) S)
def lP:AY:=(BJ (eJ wF VC (vJ 4) (yJ (fJ 3 qH (yJ (vJ 0) (yJ (vJ 5) (yJ (vJ 3) wJ)))) wJ)))
def lQ:AY:=(BJ (eJ wF VC (vJ 3) (yJ (fJ 1 xT (yJ (bJ (yJ (vJ 5) wJ) kI) wJ)) wJ)))
def qI:AY:=zL (lP) ((lQ))
def lR:AY:=(CJ (dJ jL (vJ 7) (bJ (yJ (vJ 6) wJ) wR)) 6)
def nL:AY:=(lR)
def gY:AF:=(CJ (fJ 2 VO (yJ (vJ 0) (yJ (vJ 1) wJ))) 2)
def qK:AF:=(iJ (bJ (dJ NB (vJ 2) (kJ .non)) jW) ((λ_ _=>R.no)) (JJ))
def qL:AF:=(CJ (bJ (yJ (dJ xK (vJ 1) (kJ (.int 0))) wJ) RU) 3)
def nN:AF:=(CJ (bJ wJ kI) 4)
def nO:AF:=(FJ (bJ (fJ 2 DQ (yJ (vJ 0) (yJ (vJ 1) wJ))) vM) (yX 5) (qI))
def qN:AF:=(CJ (bJ (yJ (kJ (.str [121,101,115])) wJ) wR) 6)
def nP:AF:=(FJ (bJ (yJ (vJ 4) wJ) zDJ) (yX 7) (nL))
def HM:AF:=(AJ (vJ 6))
def KZ:AF:=zL (gY) (zL (qK) (zL (qL) (zL (nN) (zL (nO) (zL (qN) (zL (nP) ((HM))))))))
def cX(ds:U0)(S:Sto):R Er:=yP (KZ (yH uZ ds) S)
def aU:AF:=(iJ (bJ (dJ C6 (vJ 1) (bJ (yJ (vJ 0) wJ) rF)) jW) ((AJ (dJ xK (vJ 0) (vJ 1)))) (JJ))
def JA:AF:=(AJ (kJ (.int 0)))
def oP:AF:=zL (aU) ((JA))
def yK(ds:U0)(S:Sto):R Er:=yP (oP (yH [Ň,ŏ] ds) S)
def dG:AY:=(CJ (dJ jL (vJ 3) (dJ xK (vJ 1) (dJ jK (vJ 0) (kJ (.int 26))))) 3)
def dH:AY:=(CJ (dJ bQ (vJ 0) (kJ (.int 26))) 0)
def aV:AY:=zL (dG) ((dH))
def aW:AF:=(CJ (kJ (.str [97,98,99,100,101,102,103,104,105,106,107,108,109,110,111,112,113,114,115,116,117,118,119,120,121,122])) 1)
def aX:AF:=(CJ (dJ jL (kJ (.int 1)) (dJ jK (vJ 0) (kJ (.int 8)))) 2)
def aY:AF:=(CJ (dJ bQ (vJ 0) (kJ (.int 8))) 0)
def aZ:AF:=(CJ (kJ (.str [])) 3)
def eA:AF:=(FJ (bJ (yJ (vJ 2) wJ) fP) (yX 4) (aV))
def tH:AF:=(AJ (bJ (yJ (vJ 3) (yJ (vJ 0) wJ)) wR))
def oQ:AF:=zL (aW) (zL (aX) (zL (aY) (zL (aZ) (zL (eA) ((tH))))))
def jP(ds:U0)(S:Sto):R Er:=yP (oQ (yH AU ds) S)
def wV:AY:=(iJ (bJ (dJ (KC false) (vJ 4) (vJ 2)) jW) ((CJ (dJ jL (tJ fQ (vJ 4) mJ (bJ (kJ (.int 7)) RQ)) (vJ 5)) 4)) (JJ))
def xW:AY:=(wV)
def wW:AY:=(EJ (fJ 1 jP (yJ (vJ 0) wJ)) (KB 2 (zV (yX 4) (zV (yX 0) gV))))
def wX:AY:=(FJ (bJ (kJ (.str [97,98,99,100,101,102,103,104,105,106])) itS) (yX 5) (xW))
def wY:AY:=(BJ (eJ wF tR (vJ 2) (yJ (vJ 4) wJ)))
def kW:AY:=zL (wW) (zL (wX) ((wY)))
def kX:AF:=(CJ (bJ wJ kI) 2)
def kY:AF:=(FJ (bJ (yJ (vJ 1) wJ) fP) (yX 3) (kW))
def cM:AF:=(AJ (vJ 2))
def gA:AF:=zL (kX) (zL (kY) ((cM)))
def wM(ds:U0)(S:Sto):R Er:=yP (gA (yH dY ds) S)
def eB:AY:=(CJ (dJ jL (dJ bQ (vJ 0) (dJ jL (kJ (.int 49)) (dJ vH (kJ (.int 5)) (vJ 8)))) (dJ vH (vJ 8) (dJ jK (dJ bQ (vJ 0) (kJ (.int 49))) (kJ (.int 3))))) 9)
def eC:AY:=(iJ (bJ (dJ rE (vJ 8) (vJ 4)) jW) ((CJ (dJ jL (vJ 9) (dJ vH (kJ (.int 3)) (vJ 6))) 9)) (JJ))
def tI:AY:=(CJ (dJ jL (vJ 7) (dJ xK (vJ 2) (dJ jK (vJ 9) (kJ (.int 26))))) 7)
def nQ:AY:=zL (eB) (zL (eC) ((tI)))
def eE:AY:=(CJ (kJ (.str [])) 7)
def eF:AY:=(FJ (bJ (yJ (vJ 3) wJ) fP) (yX 8) (nQ))
def eG:AY:=(BJ (eJ wF tR (vJ 5) (yJ (vJ 7) wJ)))
def oR:AY:=zL (eE) (zL (eF) ((eG)))
def bI:AF:=(iJ (bJ (dJ rE (dJ jK (vJ 0) (kJ (.int 2))) (kJ (.int 0))) jW) ((AJ (fJ 2 wM (yJ (dJ bQ (vJ 0) (kJ (.int 2))) (yJ (vJ 1) wJ))))) (JJ))
def oS:AF:=(CJ (kJ (.str [97,98,99,100,101,102,103,104,105,106,107,108,109,110,111,112,113,114,115,116,117,118,119,120,121,122])) 2)
def oU:AF:=(CJ (dJ jK (dJ vH (dJ jK (dJ vH (vJ 0) (kJ (.int 69621))) (kJ (.int 2147483629))) (kJ (.int 48271))) (kJ (.int 2147483647))) 0)
def oW:AF:=(CJ (dJ jL (kJ (.int 1)) (dJ jK (vJ 0) (kJ (.int 7)))) 3)
def oX:AF:=(CJ (dJ jK (dJ bQ (vJ 0) (kJ (.int 7))) (vJ 3)) 4)
def oY:AF:=(CJ (bJ wJ kI) 5)
def oZ:AF:=(FJ (bJ (yJ (vJ 1) wJ) fP) (yX 6) (oR))
def pA:AF:=(iJ (bJ (dJ rE (dJ jK (dJ bQ (vJ 0) (kJ (.int 49))) (kJ (.int 4))) (kJ (.int 1))) jW) ((EJ (dJ jL (dJ xK (vJ 5) (kJ (.int 0))) (dJ xK (vJ 2) (dJ jK (dJ bQ (vJ 0) (kJ (.int 196))) (kJ (.int 26))))) (DJ YQ (vJ 5) (kJ (.int 1))))) (JJ))
def BS:AF:=(AJ (vJ 5))
def nR:AF:=zL (bI) (zL (oS) (zL (oU) (zL (oW) (zL (oX) (zL (oY) (zL (oZ) (zL (pA) ((BS)))))))))
def mK(ds:U0)(S:Sto):R Er:=yP (nR (yH HC ds) S)
def eH:AY:=(BJ (eJ wF tR (vJ 2) (yJ (dJ jK (vJ 3) (kJ (.int 1000000))) wJ)))
def eI:AY:=(CJ (dJ bQ (vJ 3) (kJ (.int 1000000))) 3)
def nS:AY:=zL (eH) ((eI))
def eK:AY:=(CJ (dJ jK (dJ jL (dJ jL (dJ vH (vJ 5) (vJ 5)) (dJ vH (kJ (.int 48271)) (vJ 5))) (vJ 4)) (kJ (.int 2147483647))) 5)
def eM:AY:=(BJ (eJ wF tR (vJ 2) (yJ (dJ bQ (dJ jK (dJ vH (vJ 5) (kJ (.int 69621))) (kJ (.int 2147483587))) (kJ (.int 16))) wJ)))
def pB:AY:=zL (eK) ((eM))
def pC:AF:=(CJ (bJ wJ kI) 2)
def bK:AF:=(iJ (bJ (dJ rE (dJ jK (vJ 0) (kJ (.int 2))) (kJ (.int 0))) jW) (zL (CJ (dJ bQ (vJ 0) (kJ (.int 2))) 3) (zL (FJ (bJ (yJ (vJ 1) wJ) fP) (yX 4) (nS)) ((AJ (vJ 2))))) (JJ))
def pD:AF:=(CJ (dJ jL (dJ jK (vJ 0) (kJ (.int 2147483629))) (kJ (.int 1))) 5)
def pE:AF:=(FJ (bJ (yJ (vJ 1) wJ) fP) (yX 4) (pB))
def OH:AF:=(AJ (vJ 2))
def nT:AF:=zL (pC) (zL (bK) (zL (pD) (zL (pE) ((OH)))))
def nU(ds:U0)(S:Sto):R Er:=yP (nT (yH HD ds) S)
def nV:AY:=(EJ (fJ 1 jP (yJ (dJ bQ (vJ 2) (kJ (.int 2))) wJ)) (KB 2 (zV (yX 6) (zV (yX 2) gV))))
def gZ:AY:=(iJ (bJ (dJ rE (dJ jK (vJ 2) (kJ (.int 2))) (kJ (.int 1))) jW) (zL (CJ (dJ jL (dJ GH (dJ jK (dJ bQ (vJ 2) (kJ (.int 2))) (dJ GH (dJ vH (kJ (.int 2)) (dJ KU (kJ (.int 10)) (kJ (.int 30)))) (kJ (.int 1)))) (dJ KU (kJ (.int 10)) (kJ (.int 30)))) (kJ (.int 1))) 6) ((CJ (dJ bQ (vJ 2) (dJ GH (dJ vH (kJ (.int 2)) (dJ KU (kJ (.int 10)) (kJ (.int 30)))) (kJ (.int 1)))) 2))) (JJ))
def nW:AY:=(iJ (bJ (dJ (KC true) (vJ 6) (vJ 4)) jW) ((BJ (eJ wF tR (vJ 4) (yJ (vJ 6) wJ)))) (JJ))
def kH:AY:=zL (nV) (zL (gZ) ((nW)))
def bA:AZ:=(bJ (dJ (KC true) (vJ 0) (vJ 1)) jW)
def nY:AE:=(vJ 0)
def gG:AF:=(iJ (bJ (dJ rE (dJ jK (vJ 0) (kJ (.int 2))) (kJ (.int 0))) jW) (zL (CJ (dJ bQ (vJ 0) (kJ (.int 2))) 2) (zL (CJ (dJ jL (kJ (.int 2)) (dJ jK (vJ 2) (kJ (.int 3)))) 3) (zL (CJ (dJ bQ (vJ 2) (kJ (.int 3))) 2) (zL (CJ (bJ wJ kI) 4) (zL (FJ (bJ (yJ (vJ 3) wJ) fP) (yX 5) (kH)) ((AJ (dJ jL (vJ 4) (tJ fQ (pJ (bJ (vJ 1) vM) (yX 0) (bA) (nY) 1 [4]) mJ (bJ (dJ GH (kJ (.int 2)) (bJ (yJ (kJ (.int 2)) (yJ (bJ (yJ (vJ 4) wJ) rF) wJ)) Ow)) RQ)))))))))) (JJ))
def iW:AF:=(CJ (dJ jL (dJ GH (dJ jK (vJ 0) (dJ GH (dJ vH (kJ (.int 2)) (dJ KU (kJ (.int 10)) (kJ (.int 30)))) (kJ (.int 2)))) (dJ KU (kJ (.int 10)) (kJ (.int 30)))) (kJ (.int 1))) 7)
def iY:AF:=(CJ (bJ (yJ (vJ 7) (yJ (dJ jL (vJ 7) (kJ (.int 1))) (yJ (dJ xK (vJ 1) (kJ (.int 0))) (yJ (dJ xK (vJ 1) (kJ (.int 1))) wJ)))) kI) 8)
def iZ:AF:=(CJ (dJ jK (dJ bQ (vJ 0) (kJ (.int 5))) (kJ (.int 4))) 9)
def lB:AF:=(AJ (tJ fQ (dJ jL (tJ fQ (vJ 8) (bJ (vJ 9) RQ) mJ) (tJ fQ (vJ 8) mJ (bJ (vJ 9) RQ))) mJ (bJ (dJ jL (kJ (.int 2)) (dJ jK (vJ 0) (kJ (.int 3)))) RQ)))
def cN:AF:=zL (gG) (zL (iW) (zL (iY) (zL (iZ) ((lB)))))
def fF(ds:U0)(S:Sto):R Er:=yP (cN (yH rH ds) S)
def lD:AY:=(CJ (dJ jK (dJ vH (dJ bQ (vJ 5) (kJ (.int 2))) (kJ (.int 48271))) (kJ (.int 2147483647))) 6)
def lE:AY:=(CJ (bJ (yJ (dJ jK (vJ 5) (kJ (.int 2))) (yJ (bJ (yJ (dJ xK (vJ 2) (dJ jK (dJ jK (vJ 6) (kJ (.int 4))) (bJ (yJ (vJ 2) wJ) rF))) (yJ (dJ xK (vJ 2) (dJ jK (dJ jK (dJ bQ (vJ 6) (kJ (.int 4))) (kJ (.int 4))) (bJ (yJ (vJ 2) wJ) rF))) wJ)) wR) wJ)) wR) 7)
def lF:AY:=(iJ (rJ (bJ (dJ (KC true) (vJ 7) (vJ 3)) jW) (bJ (dJ C6 (bJ (yJ (vJ 3) wJ) rF) (kJ (.int 14))) jW)) ((BJ (eJ wF tR (vJ 3) (yJ (vJ 7) wJ)))) (JJ))
def fG:AY:=zL (lD) (zL (lE) ((lF)))
def sF:AF:=(CJ (bJ wJ kI) 3)
def sG:AF:=(CJ (bJ (yJ (vJ 0) wJ) RU) 4)
def cO:AF:=(iJ (bJ (dJ rE (dJ jK (vJ 1) (kJ (.int 2))) (kJ (.int 1))) jW) ((CJ (dJ jL (vJ 4) (fJ 2 nU (yJ (dJ bQ (vJ 1) (kJ (.int 2))) (yJ (kJ (.int 14)) wJ)))) 4)) (JJ))
def sH:AF:=(FJ (bJ (vJ 4) vM) (yX 5) (fG))
def EV:AF:=(AJ (vJ 3))
def BU:AF:=zL (sF) (zL (sG) (zL (cO) (zL (sH) ((EV)))))
def iC(ds:U0)(S:Sto):R Er:=yP (BU (yH KF ds) S)
def eO:AZ:=(rJ (bJ (dJ rE (vJ 0) (vJ 2)) jW) (bJ (dJ rE (dJ xK (vJ 1) (kJ (.int 0))) (vJ 3)) jW))
def tK:AE:=(dJ xK (vJ 1) (kJ (.int 1)))
def bT:AZ:=(bJ (dJ II (vJ 0) (vJ 1)) jW)
def eP:AE:=(vJ 0)
def pF:AF:=(CJ (pJ (bJ (vJ 0) vM) (KB 2 (zV (yX 0) (zV (yX 1) gV))) (eO) (tK) 2 [1,2]) 4)
def bL:AF:=(iJ (bJ (dJ UM (vJ 3) (kJ .non)) jW) ((AJ (dJ II (vJ 4) (bJ wJ kI)))) (JJ))
def BV:AF:=(AJ (aJ (dJ II (vJ 4) (bJ wJ kI)) (dJ rE (pJ (bJ (vJ 4) vM) (yX 0) (bT) (eP) 1 [3]) (bJ wJ kI))))
def uG:AF:=zL (pF) (zL (bL) ((BV)))
def mL(ds:U0)(S:Sto):R Er:=yP (uG (yH lX ds) S)
def cY:AZ:=(rJ (bJ (dJ rE (vJ 0) (vJ 2)) jW) (bJ (dJ rE (dJ xK (vJ 1) (kJ (.int 0))) (dJ xK (vJ 3) (kJ (.int 0)))) jW))
def lG:AE:=(dJ xK (vJ 1) (kJ (.int 1)))
def cZ:AZ:=(qJ (bJ (fJ 4 mL (yJ (vJ 1) (yJ (dJ GH (kJ (.int 1)) (vJ 2)) (yJ (vJ 0) (yJ (vJ 3) wJ))))) DU))
def lH:AE:=(vJ 0)
def vF:AY:=(iJ (rJ (bJ (dJ rE (vJ 4) (vJ 1)) jW) (sJ (bJ (dJ UM (vJ 2) (kJ .non)) jW) (bJ (dJ rE (dJ xK (vJ 5) (kJ (.int 0))) (vJ 2)) jW))) (zL (CJ (pJ (bJ (vJ 0) vM) (KB 2 (zV (yX 0) (zV (yX 1) gV))) (cY) (lG) 2 [1,5]) 6) ((iJ (bJ (dJ rE (pJ (bJ (vJ 6) vM) (yX 0) (cZ) (lH) 1 [0,1,3]) (bJ wJ kI)) jW) ((AJ (kJ (.bl true)))) (JJ)))) (JJ))
def fH:AY:=(vF)
def sI:AF:=(FJ (bJ (vJ 0) vM) (KB 2 (zV (yX 4) (zV (yX 5) gV))) (fH))
def QQ:AF:=(AJ (kJ (.bl false)))
def BW:AF:=zL (sI) ((QQ))
def qO(ds:U0)(S:Sto):R Er:=yP (BW (yH qA ds) S)
def JB:AZ:=(bJ (dJ (KC true) (vJ 0) (vJ 1)) jW)
def TB:AE:=(vJ 0)
def JC:AY:=(CJ (bJ (yJ (vJ 10) (yJ (bJ (yJ (vJ 14) wJ) kI) wJ)) zEY) 15)
def JD:AY:=(CJ (fJ 4 qO (yJ (vJ 11) (yJ (vJ 4) (yJ (dJ xK (bJ (yJ (vJ 8) (yJ (vJ 14) wJ)) kI) (bJ (yJ (vJ 10) wJ) rF)) (yJ (vJ 5) wJ))))) 16)
def JE:AY:=(CJ (fJ 3 LS (yJ (vJ 12) (yJ (vJ 11) (yJ (vJ 15) wJ)))) 17)
def TC:AY:=(iJ (sJ (qJ (bJ (bJ (yJ (vJ 17) (yJ (kJ (.typ "bool")) wJ)) UP) DU)) (bJ (dJ II (vJ 17) (vJ 16)) jW)) ((AJ (kJ (.bl false)))) (JJ))
def VR:AY:=zL (JC) (zL (JD) (zL (JE) ((TC))))
def Fz:AF:=(CJ (fJ 2 mK (yJ (fJ 2 yK (yJ (vJ 0) (yJ (kJ (.int 0)) wJ))) (yJ (kJ (.int 5)) wJ))) 1)
def Ga:AF:=(CJ (fJ 2 fF (yJ (fJ 2 yK (yJ (vJ 0) (yJ (kJ (.int 1)) wJ))) (yJ (tJ fQ (vJ 1) (bJ (kJ (.int 3)) RQ) mJ) wJ))) 2)
def Gb:AF:=(CJ (fJ 2 yK (yJ (vJ 0) (yJ (kJ (.int 2)) wJ))) 3)
def Gc:AF:=(CJ (dJ jK (vJ 3) (kJ (.int 2))) 4)
def Xy:AF:=(CJ (kJ .non) 5)
def Gd:AF:=(CJ (bJ (yJ (kJ (.str [118,97,114])) (yJ (dJ xK (vJ 1) (kJ (.int 2))) wJ)) wR) 6)
def VT:AF:=(iJ (bJ (dJ rE (dJ jK (dJ bQ (vJ 3) (kJ (.int 2))) (kJ (.int 3))) (kJ (.int 1))) jW) (zL (CJ (dJ xK (vJ 2) (dJ jK (dJ bQ (vJ 3) (kJ (.int 6))) (bJ (yJ (vJ 2) wJ) rF))) 5) ((CJ (bJ (yJ (kJ (.str [105,115])) (yJ (vJ 5) wJ)) wR) 6))) (JJ))
def Ge:AF:=(CJ (bJ (yJ (kJ (.str [118,97,114])) (yJ (dJ xK (vJ 1) (kJ (.int 0))) wJ)) wR) 7)
def Xz:AF:=(CJ (kJ .non) 8)
def OI:AF:=(iJ (bJ (dJ rE (dJ jK (dJ bQ (vJ 3) (kJ (.int 32))) (kJ (.int 4))) (kJ (.int 1))) jW) (zL (CJ (dJ xK (vJ 2) (dJ jK (dJ bQ (vJ 3) (kJ (.int 128))) (bJ (yJ (vJ 2) wJ) rF))) 8) ((CJ (bJ (yJ (kJ (.str [105,115])) (yJ (vJ 8) wJ)) wR) 7))) (JJ))
def ZK:AF:=(CJ (bJ (yJ (bJ (yJ (vJ 4) (yJ (bJ (yJ (vJ 7) (yJ (bJ (yJ (kJ (.str [118,97,114])) (yJ (dJ xK (vJ 1) (kJ (.int 1))) wJ)) wR) wJ)) wR) wJ)) wR) (yJ (bJ (yJ (dJ GH (kJ (.int 1)) (vJ 4)) (yJ (bJ (yJ (bJ (yJ (kJ (.str [118,97,114])) (yJ (dJ xK (vJ 1) (kJ (.int 1))) wJ)) wR) (yJ (vJ 6) wJ)) wR) wJ)) wR) wJ)) kI) 9)
def OJ:AF:=(iJ (bJ (dJ rE (dJ jK (dJ bQ (vJ 3) (kJ (.int 512))) (kJ (.int 2))) (kJ (.int 1))) jW) ((BJ (gJ wF Ny (vJ 9)))) (JJ))
def ZL:AF:=(CJ (bJ wJ wR) 10)
def OK:AF:=(iJ (rJ (bJ (dJ UM (vJ 8) (kJ .non)) jW) (bJ (dJ rE (dJ jK (dJ bQ (vJ 3) (kJ (.int 1024))) (kJ (.int 2))) (kJ (.int 1))) jW)) ((CJ (bJ (yJ (dJ xK (vJ 1) (kJ (.int 0))) wJ) wR) 10)) (JJ))
def ZM:AF:=(CJ (fJ 3 iC (yJ (tJ fQ (vJ 0) (bJ (kJ (.int 5)) RQ) mJ) (yJ (fJ 2 yK (yJ (vJ 0) (yJ (kJ (.int 3)) wJ))) (yJ (vJ 2) wJ)))) 11)
def ZN:AF:=(CJ (fJ 2 cX (yJ (bJ (yJ (bJ (yJ (kJ (.int 2)) (yJ (kJ (.int 1)) wJ)) wR) (yJ (bJ (yJ (kJ (.int 2)) (yJ (kJ (.int 1)) wJ)) wR) wJ)) wR) (yJ (bJ (yJ (vJ 10) (yJ (bJ (yJ (vJ 9) wJ) AC) wJ)) wR) wJ))) 12)
def ZO:AF:=(CJ (dJ xK (pJ (bJ (bJ (yJ (kJ (.str [122,101,98,114,97])) (yJ (kJ (.str [121,97,107])) (yJ (kJ (.str [119,111,108,102])) (yJ (kJ (.str [118,111,108,101])) (yJ (kJ (.str [116,97,112,105,114])) wJ))))) kI) vM) (yX 0) (JB) (TB) 1 [2]) (kJ (.int 0))) 13)
def ZP:AF:=(FJ (bJ (dJ jL (vJ 2) (bJ (yJ (vJ 13) wJ) kI)) vM) (yX 14) (VR))
def Pw:AF:=(AJ (kJ (.bl true)))
def Px:AF:=zL (Fz) (zL (Ga) (zL (Gb) (zL (Gc) (zL (Xy) (zL (Gd) (zL (VT) (zL (Ge) (zL (Xz) (zL (OI) (zL (ZK) (zL (OJ) (zL (ZL) (zL (OK) (zL (ZM) (zL (ZN) (zL (ZO) (zL (ZP) ((Pw)))))))))))))))))))
def ZQ(ds:U0)(S:Sto):R Er:=yP (Px (yH Pu ds) S)
def Ya(h:Cd 0 b)(a)(S):bQ #[a,5] #[b,5] S=.ok #[a / b,5] S:=iP (show Cd a b from h)
def jE(c:S[l]? =#[a,2])(b:a.length<1000000):tR #[l,1] [.val d] S=.ok (.val .non) (S.set l (.lst (a++[d]))):=by show GO #[l,1] S (λa=>if a.length<sizeLine then some (a++[d])else none)=_;unfold GO;dsimp only;rw[c];dsimp only;rw[iP (æ b (fits (à _)))]
theorem xI(a:S[l]? =#[ds,2]):wF #[l,1] S=true:=by unfold wF;rw[oA a];rfl
def Py(b:S[l]? =#[ds,2])(a:XM ds.length k=some j):YQ #[l,1] #[k,5] d ρ S=.ok ρ (S.set l (.lst (ds.set j d))):=by unfold YQ;dsimp only;rw[b];dsimp only;rw[a]
def get_set{S:Sto}(h:S[l]? =some o):(S.set l o')[l]? =some o':=ī (gS.mp h).1
def zQ{S:Sto}(h:l≠m):(S.set l o')[m]? =S[m]? :=ĥ h
def TD(a:S[l]? =#[ds,2]):AC [#[l,1]] S=.ok #[ds,6] S:=by show(match bZ S #[l,1]with |some ds=>R.ok (Er.val (.tup ds)) S|none=>.no)=_;rw[oA a]
theorem VU(ds)(S):rF [#[ds,6]] S=.ok #[ds.length,5] S:=rfl
theorem uH(gf)(ρ)(d)(S):Vn gf ρ (.val d) S=(gf d ρ S).bind λa b=>.ok (.next a) b:=rfl
noncomputable def tbl(p:Int×Int):MV:=.tup [.int p.1,.int p.2]
mutual
def pd:MV->Bool
 |.int _=>true
 |.str _=>true
 |.tup ds=>Lh ds
 |_=>false
def Lh:List MV->Bool
 |[]=>true
 |d::ds=>pd d&&Lh ds
end
mutual
def OL:MV->Nat
 |.tup ds=>VX ds+1
 |_=>0
def VX:List MV->Nat
 |[]=>0
 |d::ds=>max (OL d) (VX ds)
end
def lI(ds):pd (.tup ds)=Lh ds:=by rw[pd]
def mN:Lh []=true:=by rw[Lh]
def xF(d)(ds):Lh (d::ds)=(pd d&&Lh ds):=by rw[Lh]
def DR(ds):OL (.tup ds)=VX ds+1:=by rw[OL]
def gM(d)(ds):VX (d::ds)=max (OL d) (VX ds):=by rw[VX]
def CA:VX []=0:=by rw[VX]
def uI(i):pd (.int i)=true:=by rw[pd]
def dI(i):pd (.str i)=true:=by rw[pd]
def uK(i):OL (.int i)=0:=by simp[OL]
def qP(i):OL (.str i)=0:=by simp[OL]
theorem VY: ∀{ds},(∀d∈ds,pd d=true)->Lh ds=true
 |[],_=>mN
 |d::ds,h=>by rw[xF,h d mF0,VY λe a=>h e (mO _ a)];rfl
theorem VZ: ∀{ds},Lh ds=true-> ∀d∈ds,pd d=true
 |[],_,d,h=>by simp at h
 |e::ds,hp,d,h=>by
  rw[xF,aE]at hp;rcases mC.mp h with rfl|h
  .exact hp.1
  .exact VZ hp.2 d h
theorem ZR: ∀{ds}, ∀d∈ds,OL d<=VX ds
 |[],d,h=>by simp at h
 |e::ds,d,h=>by
  rw[gM];rcases mC.mp h with rfl|h
  .exact Nat.le_max_left _ _
  .exact ì (ZR d h) (Nat.le_max_right _ _)
def ZS(h:pd d=true):(∃i,d=.int i)\/(∃x,d=.str x)\/ ∃a,d=.tup a/\Lh a=true:=by
 cases d with
 |int i=>exact .inl ⟨i,rfl⟩
 |str x=>exact .inr (.inl ⟨x,rfl⟩)
 |tup a=>exact .inr (.inr ⟨a,rfl,by rw[<-lI];exact h⟩)
 |_=>rw[pd]at h<;>first |cases h|(intros;simp)
def dec_is[Decidable p][Decidable q](h:p↔q):decide p=decide q:=by
 by_cases a:q
 .rw[dT0 a,dT0 (h.mpr a)]
 .rw[dF0 a,dF0 λz=>a (h.mp z)]
theorem ZT: ∀{ds es},(∀d∈ds, ∀f∈es,e d f=some (decide (d=f)))-> ∃bs,LM e ds es=some bs/\(bs.all id&&ds.length==es.length)=decide (ds=es)
 |[],[],_=>⟨[],rfl,by simp⟩
 |[],_::_,_=>⟨[],rfl,by simp⟩
 |_::_,[],_=>⟨[],rfl,by simp⟩
 |d::ds,f::es,h=>by
  obtain⟨bs,m,i⟩:=ZT (e:=e) (ds:=ds) (es:=es) λa k b j=>h a (mO _ k) b (mO _ j);refine⟨decide (d=f)::bs,?_,?_⟩
  .unfold LM;rw[h d mF0 f mF0,m];rfl
  .by_cases c:d=f
   .subst c;rw[Ĝ,dT0 rfl];simp only[id,Bool.true_and,lC];rw[show(ds.length+1==es.length+1)=(ds.length==es.length) by simp,i];exact dec_is (by simp)
   .rw[Ĝ,dF0 c];rw[dF0 (show¬(d::ds=f::es)from λz=>c (List.cons.inj z).1)];rfl
theorem CC: ∀ n {d e},pd d=true->pd e=true->OL d<n->eqv S n d e=some (decide (d=e))
 |0,d,e,_,_,h=>by omega
 |n+1,d,e,hd,he,h=>by
  rcases ZS hd with⟨i,rfl⟩|⟨x,rfl⟩|⟨ds,rfl,pds⟩<;>rcases ZS he with⟨j,rfl⟩|⟨y,rfl⟩|⟨es,rfl,pes⟩
  .rw[DG];exact congrArg some (dec_is (by simp))
  .rw[S8,dF0 (by simp)]
  .rw[dF0 (by simp)];rfl
  .rw[S9,dF0 (by simp)]
  .rw[US];exact congrArg some (dec_is (by simp))
  .rw[dF0 (by simp)];rfl
  .rw[dF0 (by simp)];rfl
  .rw[dF0 (by simp)];rfl
  .rw[DR]at h;obtain⟨bs,m,f⟩:=ZT (e:=eqv S n) (ds:=ds) (es:=es) λa c b k=>CC n (VZ pds a c) (VZ pes b k) (by have:=ZR a c;omega);show((LM (eqv S n) ds es).map λbs=>bs.all id&&ds.length==es.length)=_;rw[m];show some (bs.all id&&ds.length==es.length)=_;rw[f];exact congrArg some (dec_is (by simp))
def Gf(b:pd d=true)(a:pd e=true)(h:OL d<40):rE (.val d) (.val e) S=.ok (.val (.bl (decide (d=e)))) S:=Cj (CC (zR+1) b a (by unfold zR;omega))
theorem OM(b:pd d=true): ∀{a},(∀y∈a,pd y=true/\OL y<40)->YO S zR d a=some (a.map λy=>decide (y=d))
 |[],_=>rfl
 |y::a,h=>by have c:=h y mF0;unfold YO;rw[CC zR c.1 b (by unfold zR;exact c.2),OM b λz e=>h z (mO _ e)];rfl
def LT(c:rs.length=n)(a:F (zP rs S).1 (zP rs S).2=.ok (.val (.bl b)) S):zS n F rs S=.ok (.val (.bl b)) S:=sW c a (RW _ _) (λl=>by simp)
def SqM(S:Sto)(m:MV)(ds:U0):Prop:=m=.tup ds\/ ∃l,m=.loc l/\S[l]? =#[ds,2]
def SqM.len(h:SqM S m ds):rF [.val m] S=.ok #[ds.length,5] S:=by
 rcases h with rfl|⟨l,rfl,hS⟩
 .rfl
 .exact dX hS
def CD(b:rs.length=n)(d:zP rs S=(as,S2))(c:F as S2=.ok r (S++T))(e:r=.new ds\/ ∃l,r=#[l,1]/\↑0<=l/\(S++T)[l]? =#[ds,2])(h:sK ↑0 ds):zS n F rs S=.ok (.new ds) S:=by
 have a:F (zP rs S).1 (zP rs S).2=.ok r (S++T):=by rw[d];exact c
 rcases e with rfl|⟨l,rfl,h1,h2⟩
 .exact cI b a h
 .exact sV b a h1 h2 h
theorem Yb(neg)(p)(l)(S):KC neg p #[l,1] S=IK neg p #[l,1] S:=by
 unfold KC;split
 .rename_i h;cases h
 .rfl
def fI(neg)(e:S[l]? =#[ys,2])(c:pd d=true)(h: ∀y∈ys,pd y=true/\OL y<40):KC neg (.val d) #[l,1] S=.ok (.val (.bl (if neg=true then !decide (d∈ys)else decide (d∈ys)))) S:=by
 have b:itemsOf S #[l,1]=some ys:=by unfold itemsOf;exact oA e
 rw[Yb];unfold IK;dsimp only;rw[b];dsimp only;rw[OM c h];dsimp only
 have i:(ys.map λy=>decide (y=d)).any id=decide (d∈ys):=by
  rw[List.any_map];by_cases a:d∈ys
  .rw[dT0 a,ġ];exact⟨d,a,by simp⟩
  .rw[dF0 a];rw[List.any_eq_false];intro y f;simp only[Function.comp,id,decide_eq_true_eq];rintro rfl;exact a f
 rw[i]
noncomputable abbrev JF:List Nat:=[118,97,114]
noncomputable abbrev IS:List Nat:=[105,115]
def jQ(d:MV):Prop:=(∃x,d=.tup [.str JF,.str x])\/ ∃v,((∃i,v=.int i)\/ ∃x,v=.str x)/\d=.tup [.str IS,v]
mutual
theorem KL{n:Nat}: ∀{d:MV},pd d=true->lo n d
 |.int i,_=>AH n i
 |.str x,_=>AI n x
 |.tup ds,h=>IP (Pz (by rw[lI]at h;exact h))
 |.non,_=>UR n
 |.bl b,_=>RW n b
 |.scr ds,h=>by unfold pd at h;cases h
 |.loc l,h=>by unfold pd at h;cases h
 |.typ t,h=>by unfold pd at h;cases h
theorem Pz{n:Nat}: ∀{ds:U0},Lh ds=true->sK n ds
 |[],_=>kO λd a=>by simp at a
 |d::ds,h=>by rw[xF,aE]at h;unfold sK;exact⟨KL h.1,Pz h.2⟩
end
def KM(h:jQ d):pd d=true/\OL d<=1:=by
 rcases h with⟨x,rfl⟩|⟨v,⟨i,rfl⟩|⟨x,rfl⟩,rfl⟩
 .exact⟨by rw[lI,xF,xF,mN,dI,dI];rfl,by rw[DR,gM,gM,CA,qP,qP];decide⟩
 .exact⟨by rw[lI,xF,xF,mN,dI,uI];rfl,by rw[DR,gM,gM,CA,qP,uK];decide⟩
 .exact⟨by rw[lI,xF,xF,mN,dI,dI];rfl,by rw[DR,gM,gM,CA,qP,qP];decide⟩
def vn:MV->Option (List Nat)
 |.tup [.str w,.str x]=>if w=JF then some x else none
 |_=>none
def nZ(x):vn (.tup [.str JF,.str x])=some x:=by simp[vn]
def TF(S):rE (.val (.str JF)) (.val (.str JF)) S=.ok (.val (.bl true)) S:=by rw[eq_str,dT0 rfl]
def Gg(S):rE (.val (.str IS)) (.val (.str JF)) S=.ok (.val (.bl false)) S:=by rw[eq_str,dF0 ↑3]
def zM(S)(o:MO):(S++[o])[↑0]? =some o:=by simp
def kL(S)(o a:MO):(S++[o]).set ↑0 a=S++[a]:=by simp
def LU{fs:Ch}: ∀y∈fs.map MV.str,pd y=true/\OL y<40:=λd a=>by obtain⟨u,_,rfl⟩:=mM.mp a;exact⟨dI u,by rw[qP];decide⟩
def LV{fs:Ch}:MV.str x∈fs.map MV.str↔x∈fs:=⟨λh=>by obtain⟨u,a,e⟩:=mM.mp h;cases e;exact a,λh=>mM.mpr ⟨x,h,rfl⟩⟩
theorem CF(a b)(S):xK #[[a,b],6] #[0,5] S=.ok (.val a) S:=rfl
theorem tL(a b)(S):xK #[[a,b],6] #[1,5] S=.ok (.val b) S:=rfl
def ZU(h:(look kvs k).isSome=true):k∈kvs.map (·.1):=by unfold look at h;rw[Option.isSome_map]at h;obtain⟨p,a⟩:=í.mp h;have b:=List.find?_some a;exact mM.mpr ⟨p,List.mem_of_find?_eq_some a,ö b⟩
def at0(c)(t:List α):uT (c::t) 0=some c:=by unfold uT XM;simp
def tup2(a b)(S):wR [.val a,.val b] S=.ok #[[a,b],6] S:=FD (by simp)
theorem ON(ds)(S):B5 #[ds,6] S=.ok ⟨ds,[]⟩ S:=rfl
def lst1(a)(S):kI [.val a] S=.ok (.new [a]) S:=AK (by simp)
def uL(ks:Ch)(x:Db):List (List Nat):=if x∈ks then ks else ks++[x]
def Qa(ks)(x y):y∈uL ks x↔y∈ks\/y=x:=by
 unfold uL;split
 .rename_i h;exact⟨.inl,λz=>z.elim id λe=>e▸h⟩
 .rw[å,mS]
def Yc(h:ks.Nodup)(x):(uL ks x).Nodup:=by
 unfold uL;split
 .exact h
 .rename_i d;exact Ĥ.mpr ⟨h,by simp,λa e b c=>by rw[mS.mp c];rintro rfl;exact d e⟩
def ZV(ks)(x):(uL ks x).length<=ks.length+1:=by
 unfold uL;split
 .omega
 .rw[lA,lS];omega
def bU(ks xs:Ch):List (List Nat):=xs.foldl uL ks
theorem cP: ∀ xs a  y ,y∈bU a xs↔y∈a\/y∈xs
 |[],a,y=>by simp[bU]
 |x::xs,a,y=>by show y∈bU (uL a x) xs↔_;rw[cP xs,Qa,mC,or_assoc]
theorem WA: ∀ xs {a},a.Nodup->(bU a xs).Nodup
 |[],_,h=>h
 |x::xs,_,h=>WA xs (Yc h x)
theorem bM: ∀ xs a ,(bU a xs).length<=a.length+xs.length
 |[],a=>à _
 |x::xs,a=>by have c:=bM xs (uL a x);have b:=ZV a x;show(bU (uL a x) xs).length<=_;rw[lC];omega
noncomputable def dT(ks:Ch):List (MV×MV):=ks.map λx=>(.str x,.bl true)
theorem Gh(ks):(dT ks).map (·.1)=ks.map MV.str:=by unfold dT;rw[List.map_map];rfl
def Gi(ks)(x):(look (dT ks) (.str x)).isSome=decide (x∈ks):=by
 by_cases h:x∈ks
 .rw[dT0 h];unfold look;rw[Option.isSome_map,List.find?_isSome];exact⟨(.str x,.bl true),mM.mpr ⟨x,h,rfl⟩,by simp⟩
 .rw[dF0 h]
  cases z:(look (dT ks) (.str x)).isSome with
  |false=>rfl
  |true=>
   have:=ZU z;rw[Gh]at this;exact absurd (LV.mp this) h
theorem Qb(ks)(x):putK (dT ks) (.str x) (.bl true)=dT (uL ks x):=by
 unfold putK uL;rw[Gi];by_cases h:x∈ks
 .rw[iP h,iP (dT0 h)];unfold dT;rw[List.map_map];refine List.map_congr_left λy _=>?_;show(if MV.str y=MV.str x then(MV.str y,MV.bl true)else(MV.str y,MV.bl true))=_;split<;>rfl
 .rw[iN h,iN (by rw[dF0 h];exact xF0)];unfold dT;rw[ó];rfl
theorem OO(ks):(dT ks).all (λp=>pS p.1)=true:=by unfold dT;rw[all_map,õ];intro x _;rfl
def pG(h:S[l]? =#[kvs,7])(a:kvs.all (λp=>pS p.1)=true):AQ S #[l,1]=some (l,kvs):=by unfold AQ;dsimp only;rw[h];dsimp only;rw[iP a]
def Yd(h:S[l]? =#[dT ks,7])(a:ks.length<1000000)(x)(ρ):EE #[l,1] (.val (.str x)) (.bl true) ρ S=.ok ρ (S.set l (.dic (dT (uL ks x)))):=by unfold EE;dsimp only;rw[pG h (OO ks)];dsimp only;rw[iP ⟨rfl,by unfold dT;rw[lM];exact a⟩,Qb]
def Qc(h:S[l]? =#[dT ks,7]):AR [#[l,1]] S=.ok (.new (ks.map MV.str)) S:=by unfold AR;dsimp only;rw[pG h (OO ks)];dsimp only;rw[Gh]
theorem gN{α:Type}{f g:α->MV}(hs:stay gs S):
  ∀{ds:List α},(∀d∈ds, ∃a,gf (f d) ρb S=.ok a S/\cf a S=.ok true S/\ef a S=.ok (.val (g d)) S)->xM gf cf ef ρb gs (ds.map f) S=.ok (ds.map g) S
 |[],_=>rfl
 |d::ds,st=>by obtain⟨a,i,b,h⟩:=st d mF0;have e:=gN hs (f:=f) (g:=g) (ds:=ds) λd c=>st d (mO _ c);rw[ã];unfold xM;rw[i,jX,cH,b,jX,cH,iP rfl,h,jX,cH];unfold bD;rw[cH,iP hs,e];rfl
theorem Df{α:Type}(f): ∀xs:List α,uX (xs.map λx=>.bl (f x))=some (xs.map f)
 |[]=>rfl
 |x::xs=>by rw[ã,ã];unfold uX;rw[Df f xs];rfl
theorem Gj{α:Type}(f)(xs:List α)(S):Wf [.new (xs.map λx=>.bl (f x))] S=.ok (.val (.bl (xs.all f))) S:=by show(match (some (xs.map λx=>MV.bl (f x))).bind uX with |some bs=>R.ok (Er.val (.bl (bs.all id))) S|none=>.no)=_;rw[show(some (xs.map λx=>MV.bl (f x))).bind uX=some (xs.map f)from Df f xs];show R.ok (Er.val (.bl ((xs.map f).all id))) S=_;rw[all_map];rfl
theorem Gk{α:Type}(f)(xs:List α)(S):Nt [.new (xs.map λx=>.bl (f x))] S=.ok (.val (.bl (xs.any f))) S:=by show(match (some (xs.map λx=>MV.bl (f x))).bind uX with |some bs=>R.ok (Er.val (.bl (bs.any id))) S|none=>.no)=_;rw[show(some (xs.map λx=>MV.bl (f x))).bind uX=some (xs.map f)from Df f xs];show R.ok (Er.val (.bl ((xs.map f).any id))) S=_;rw[List.any_map];rfl
def Ki(ds:List α)(j:Nat):aG ds none (some  j )=ds.take j:=by
 unfold aG;rw[HT.sIx_nat,show HT.sIx ds.length 0 none=0 from rfl,drop_zero,Nat.sub_zero];by_cases h:j<=ds.length
 .rw[min_eq_left h]
 .rw[min_eq_right (by omega),ĸ (à _),ĸ (by omega)]
def tM(ds:List α)(j:Nat):aG ds (some  j ) none=ds.drop j:=by
 unfold aG;rw[HT.sIx_nat,show HT.sIx ds.length ds.length none=ds.length from rfl];by_cases h:j<=ds.length
 .rw[min_eq_left h,ĸ (by rw[Ć];exact à _)]
 .rw[min_eq_right (by omega),List.drop_of_length_le (à _),List.drop_of_length_le (show ds.length<=j by omega),List.take_nil]
def Ye(f:α->β)(xs)(i):uT (xs.map f) i=(uT xs i).map f:=by
 unfold uT;rw[lM]
 cases XM xs.length i with
 |none=>rfl
 |some j=>exact ï
def tN{k:Nat}(h:xs[k]? =some x):uT xs  k =some x:=L2.atI_nat h
theorem KN(hs:stay gs S):
  ∀{ds},(∀d∈ds, ∃a,gf d ρb S=.ok a S/\cf a S=.ok (p d) S/\ef a S=.ok (.val d) S)->xM gf cf ef ρb gs ds S=.ok (ds.filter p) S
 |[],_=>rfl
 |d::ds,st=>by
  obtain⟨a,f,c,i⟩:=st d mF0;have e:=KN hs (p:=p) (ds:=ds) λd h=>st d (mO _ h);unfold xM
  cases b:p d with
  |true=>
   rw[f,jX,cH,c,jX,cH,b,iP rfl,i,jX,cH];unfold bD;rw[cH,iP hs,e,List.filter_cons_of_pos b];rfl
  |false=>
   rw[f,jX,cH,c,jX,cH,b,iN xF0,iP hs,e,List.filter_cons_of_neg (by rw[b];exact xF0)]
def Yf(neg)(p)(ds)(S):KC neg p #[ds,6] S=IK neg p #[ds,6] S:=by unfold KC;split<;>first |rfl|(rename_i h;cases h)
def X6{fs:Ch}(neg):KC neg (.val (.str x)) #[fs.map MV.str,6] S=.ok (.val (.bl (if neg=true then !decide (x∈fs)else decide (x∈fs)))) S:=by
 have d:itemsOf S #[fs.map MV.str,6]=some (fs.map MV.str):=rfl;rw[Yf];unfold IK;dsimp only;rw[d];dsimp only;rw[OM (dI x) LU];dsimp only
 have h:((fs.map MV.str).map λy=>decide (y=MV.str x)).any id=decide (x∈fs):=by
  rw[List.any_map];by_cases a:x∈fs
  .rw[dT0 a,ġ];exact⟨.str x,mM.mpr ⟨x,a,rfl⟩,by simp⟩
  .rw[dF0 a,List.any_eq_false];intro y b;obtain⟨z,c,rfl⟩:=mM.mp b;simp only[Function.comp,id,decide_eq_true_eq];intro e;cases e;exact a c
 rw[h]
theorem Gn(ds)(l h)(S):fQ #[ds,6] l h S=.ok #[aG ds l h,6] S:=rfl
noncomputable abbrev zH(k:Nat):MV:=.int (k:Int)
def LW(h:zH j=zH k):j=k:=by
 injection h with h
 exact Int.ofNat.inj h
def Gp{rs:Db}:zH j∈rs.map zH↔j∈rs:=⟨λh=>by obtain⟨k,a,e⟩:=mM.mp h;rw[<-LW e];exact a,λh=>mM.mpr ⟨j,h,rfl⟩⟩
def Kj{n:Nat}(h:n<=1000)(S):fP [.val (.int  n )] S=.ok ⟨(List.range n).map zH,[]⟩ S:=by rw[UU (by omega),Int.toNat_natCast]
def zDO(S):fP [#[5,5]] S=.ok ⟨(List.range 5).map zH,[]⟩ S:=Kj (n:=5) ↑3 S
theorem FN{α:Type}{f:α->MV}{g:α->List MV}: ∀(xs:List α),(∀x∈xs, ∀T, ∃a,gf (f x) ρb (S++T)=.ok a (S++T)/\cf a (S++T)=.ok true (S++T)/\ef a (S++T)=.ok (.new (g x)) (S++T))->
  ∀T,xM gf cf ef ρb [] (xs.map f) (S++T)=.ok ((List.range' (↑0+T.length) xs.length).map MV.loc) (S++T++xs.map λx=>MO.lst (g x))
 |[],_,T=>by rw[List.map_nil,List.map_nil,aN];rfl
 |x::xs,h,T=>by obtain⟨a,i,b,d⟩:=h x mF0 T;have e:=FN (f:=f) (g:=g) (gf:=gf) (cf:=cf) (ef:=ef) (ρb:=ρb) (S:=S) xs (λy c=>h y (mO _ c)) (T++[.lst (g x)]);rw[ã];unfold xM;rw[i,jX,cH,b,jX,cH,iP rfl,d,jX,cH];unfold bD;rw[cH,iP (kG _),aA,e,cH,lA,lA,lS,lC,List.range'_succ,ã,ã];simp only[aA,List.singleton_append,add_assoc]
theorem wZ{α:Type}{f g:α->MV}{p:α->Bool}(hs:stay gs S):
  ∀{ds:List α},(∀d∈ds, ∃a,gf (f d) ρb S=.ok a S/\cf a S=.ok (p d) S/\ef a S=.ok (.val (g d)) S)->xM gf cf ef ρb gs (ds.map f) S=.ok ((ds.filter p).map g) S
 |[],_=>rfl
 |d::ds,st=>by
  obtain⟨a,h,c,j⟩:=st d mF0;have e:=wZ hs (f:=f) (g:=g) (p:=p) (ds:=ds) λd i=>st d (mO _ i);rw[ã];unfold xM
  cases b:p d with
  |true=>
   rw[h,jX,cH,c,jX,cH,b,iP rfl,j,jX,cH];unfold bD;rw[cH,iP hs,e,List.filter_cons_of_pos b];rfl
  |false=>
   rw[h,jX,cH,c,jX,cH,b,iN xF0,iP hs,e,List.filter_cons_of_neg (by rw[b];exact xF0)]
def Yg(K:Db)(n):sK n (K.map zH):=kO λd a=>by obtain⟨i,_,rfl⟩:=mM.mp a;exact AH _ _
theorem FO{α:Type}[DecidableEq α]: ∀{ks U:List α},ks.Nodup->(∀x∈ks,x∈U)->ks.length<=U.length
 |[],_,_,_=>zero_le _
 |x::ks,U,hn,h=>by rw[ę]at hn;have b:=h x mF0;have c:=FO (ks:=ks) (U:=U.erase x) hn.2 λy a=>(List.mem_erase_of_ne (show y≠x from λe=>hn.1 (e▸a))).mpr (h y (mO _ a));rw[List.length_erase_of_mem b]at c;have:=List.length_pos_of_mem b;rw[lC];omega
def JG(S T)(o:MO):(S++o::T)[↑0]? =some o:=by simp
def Yh(S T)(o a:MO):(S++o::T).set ↑0 a=S++a::T:=by simp
theorem CG(ds)(S):vM (.new ds) S=.ok ⟨ds,[]⟩ S:=rfl
theorem OP(b:rs.length=n)(a:F (zP rs S).1 (zP rs S).2=.ok #[↑0,1] (S++.dic kvs::T)):zS n F rs S=.ok #[↑0,1] (S++.dic kvs::T):=by
 unfold zS;rw[iP b,a];show bY S #[↑0,1] (S++.dic kvs::T)=_;unfold bY;dsimp only;split
 .rw[iN (ģ _),JG]
 .rfl
def WB(h:S[l]? =#[ds++[d],2]):EG #[l,1] [] S=.ok (.val d) (S.set l (.lst ds)):=by
 unfold EG;dsimp only;rw[h];dsimp only;have b:(ds++[d])[(ds++[d]).length - 1]? =some d:=by simp
 have a:(ds++[d]).eraseIdx ((ds++[d]).length - 1)=ds:=by rw[lA,lS,Nat.add_sub_cancel,List.eraseIdx_append_of_length_le (à _),sub_self];exact aN _
 rw[b,a]
def qQ(h:S[l]? =#[ds,2]):DU #[l,1] S=.ok (!ds.isEmpty) S:=by unfold DU;dsimp only;rw[h]
theorem Gq(ds)(S):zCW [#[ds,6]] S=.ok ⟨Jn ds,[]⟩ S:=rfl
def WC(c:S[l]? =#[a,2])(b:a.length+es.length<=1000000):VC #[l,1] [.new es] S=.ok (.val .non) (S.set l (.lst (a++es))):=by show GO #[l,1] S (λa=>if a.length+es.length<=sizeLine then some (a++es)else none)=_;unfold GO;dsimp only;rw[c];dsimp only;rw[iP (fits b)]
noncomputable def abc:List Nat:=[97,98,99,100,101,102,103,104,105,106,107,108,109,110,111,112,113,114,115,116,117,118,119,120,121,122]
def X7: ∀i:Nat,i<26->abc[i]? =some (97+i):=by decide
def Qd(i)(S):xK (.val (.str abc)) #[i % 26,5] S=.ok (.val (.str [97+(i % 26).toNat])) S:=by have a:=eN0 i (show(26:Int)≠0 by decide);have b:=eL i (show(0:Int)<26 by decide);have:=tN (X7 (i % 26).toNat (by omega));rw[Int.toNat_of_nonneg a]at this;exact ix_str (show abc.length<=sizeLine by rw[đ];decide) this
def Qe(i)(S): ∃k,xK (.val (.str abc)) #[i % 26,5] S=.ok (.val (.str [k])) S/\32∉[k]:=⟨_,Qd i S,λh=>by have:=mS.mp h;omega⟩
def Dg{x:Db}(a:32∉x)(b:32∉y):32∉x++y:=λh=>(å.mp h).elim a b
def Qf(h:x.length+y.length<=1000)(S):jL (.val (.str x)) (.val (.str y)) S=.ok (.val (.str (x++y))) S:=add_str (fits (by omega))
abbrev NI(c:Int)(m:V0)(x:Db)(o:V0):Rho:=[#[c,0],#[abc,4],m,#[x,4],o]
theorem Qg(m)(S): ∀ a  c  x  o ,x.length+a.length<=900-> ∃j f i,kZ (yX 4) aV [] a (NI c m x o) S=.ok (.next (NI j m f i)) S/\f.length=x.length+a.length/\(32∉x->32∉f)
 |[],c,x,o,_=>⟨c,x,o,rfl,rfl,id⟩
 |d::a,c,x,o,h=>by
  rw[lC]at h;obtain⟨k,n,s⟩:=Qe c S;have p:dG (NI c m x (some d)) S=.ok (.next (NI c m (x++[k]) (some d))) S:=by unfold dG;simp? [mod_lit (show(0:Int)<26 by decide),n,Qf (x:=x) (y:=[k]) (by rw[lS];omega)]
  have q:dH (NI c m (x++[k]) (some d)) S=.ok (.next (NI (c / 26) m (x++[k]) (some d))) S:=by unfold dH;simp? [yL (b:=26) ↑3 ↑3]
  obtain⟨j,f,i,e,t,r⟩:=Qg m S a (c / 26) (x++[k]) (some d) (by rw[lA,lS];omega);refine⟨j,f,i,?_,by rw[t,lA,lS,lC];omega,λh=>r (Dg h s)⟩;rw[zZ (ρ0:=NI c m x (some d)) rfl (by unfold aV;rw[zE p];exact q) (kG _)];exact e
abbrev Wk(x:Db):Prop:=x.length<=8/\32∉x
theorem Gr(c)(S): ∃x a,zS 1 jP [#[c,5]] S=.ok #[[.str x,.int a],6] S/\Wk x:=by
 have s:=eN0 c (show(8:Int)≠0 by decide);have t:=eL c (show(0:Int)<8 by decide);obtain⟨a,h,i,e,r,p⟩:=Qg #[1+c % 8,0] S ((List.range (1+c % 8).toNat).map λk=>.int (k:Nat)) (c / 8) [] none (by rw[lM,ù,ç];omega);rw[lM,ù,ç]at r;refine⟨h,a,?_,by omega,p (by simp)⟩
 refine sW rfl ?_ (IP (kO λd f=>by
  rcases mC.mp f with rfl|f
  .exact AI _ _
  .rw[mS.mp f];exact AH _ _)) (λl=>by simp)
 show yP (oQ [#[c,0],none,none,none,none] S)=_;have o:aW [#[c,0],none,none,none,none] S=.ok (.next [#[c,0],#[abc,4],none,none,none]) S:=by unfold aW;simp? [cH];rfl
 have q:aX [#[c,0],#[abc,4],none,none,none] S=.ok (.next [#[c,0],#[abc,4],#[1+c % 8,0],none,none]) S:=by unfold aX;simp? [mod_lit (show(0:Int)<8 by decide)]
 have n:aY [#[c,0],#[abc,4],#[1+c % 8,0],none,none] S=.ok (.next [#[c / 8,0],#[abc,4],#[1+c % 8,0],none,none]) S:=by unfold aY;simp? [yL (b:=8) ↑3 ↑3]
 have j:aZ [#[c / 8,0],#[abc,4],#[1+c % 8,0],none,none] S=.ok (.next (NI (c / 8) #[1+c % 8,0] [] none)) S:=by unfold aZ;simp? [cH]
 have m:eA (NI (c / 8) #[1+c % 8,0] [] none) S=.ok (.next (NI a #[1+c % 8,0] h i)) S:=by unfold eA;simp? [UU (show -(2 ^ 62)<=(1+c % 8)/\(1+c % 8)<2 ^ 62 by omega)];exact e
 unfold oQ;rw[zE o,zE q,zE n,zE j,zE m];unfold tH;simp? [tup2];rfl
noncomputable abbrev WD(c:Int)(l:Nat)(k w o:V0):Rho:=[#[c,0],#[5,0],#[l],k,w,o]
abbrev Ws(ws:Ch):Prop:= ∀x∈ws,Wk x
theorem Dh{ws:Ch}(S): ∀(ds:Db) x  o (L:Ch),Wk x->ds.Nodup/\32∉ds->(x∈ws->L.Nodup/\(∀y∈L,y∈ws/\ ∀d∈ds,y.getLast?≠some d)/\ws.length<L.length+ds.length)->
  ∃p r,kZ (yX 5) xW [] ((ds.map λc=>[c]).map MV.str) (WD c ↑0 k #[x,4] o) (S++[.lst (ws.map MV.str)])=.ok (.next (WD c ↑0 k #[p,4] r)) (S++[.lst (ws.map MV.str)])/\Wk p/\p∉ws
 |[],x,o,L,h,_,hL=>⟨x,o,rfl,h,λz=>by obtain⟨B,s,v⟩:=hL z;have:=FO B λy m=>(s y m).1;rw[ç]at v;omega⟩
 |d::ds,x,o,L,h,u,hL=>by
  obtain⟨u,q⟩:=u;have j:=ę.mp u;have C:32∉ds:=λz=>q (mO _ z);have I:=h.1;have i:=fI false (zM S (.lst (ws.map MV.str))) (dI x) LU;rw[iN xF0,dec_is (LV (x:=x) (fs:=ws))]at i;by_cases t:x∈ws
  .rw[dT0 t]at i;obtain⟨B,s,v⟩:=hL t;rw[lC]at v;have H:(x.take 7).length<=7:=by rw[lT];omega
   have f:(x.take 7++[d]).getLast? =some d:=List.getLast?_concat
   obtain⟨p,r,e,A,w⟩:=Dh (c:=c) (k:=k) (ws:=ws) S ds (x.take 7++[d]) #[[d],4] (L++[x.take 7++[d]]) ⟨by rw[lA,lS];omega,Dg (λz=>h.2 (ķ z)) λz=>q (by rw[mS.mp z];exact mF0)⟩ ⟨j.2,C⟩ (λF=>⟨Ĥ.mpr ⟨B,by simp,λa E b G e=>by
    rw[mS.mp G]at e;have:=(s a E).2 d mF0;rw[e]at this;exact this f⟩,λy m=>by
    rcases å.mp m with m|m
    .exact⟨(s y m).1,λD n=>(s y m).2 D (mO _ n)⟩
    .rw[mS.mp m];refine⟨F,λD n z=>?_⟩;rw[f]at z;rw[â z]at j;exact j.1 n,by rw[lA,lS];omega⟩)
   refine⟨p,r,?_,A,w⟩;rw[ã,ã,zZ (ρ0:=WD c ↑0 k #[x,4] #[[d],4]) (ρ':=WD c ↑0 k #[x.take 7++[d],4] #[[d],4]) (S':=S++[.lst (ws.map MV.str)]) rfl (by unfold xW wV;simp? [i,cut_str (fits (show x.length<=1000000 by omega)),GS x 7 ↑3,show(7:Int).toNat=7 from rfl,Qf (x:=x.take 7) (y:=[d]) (by rw[lS];omega)]) (kG _)];exact e
  .rw[dF0 t]at i;obtain⟨p,r,e,A,w⟩:=Dh (c:=c) (k:=k) (ws:=ws) S ds x #[[d],4] [] h ⟨j.2,C⟩ (λz=>absurd z t);refine⟨p,r,?_,A,w⟩;rw[ã,ã,zZ (ρ0:=WD c ↑0 k #[x,4] #[[d],4]) (ρ':=WD c ↑0 k #[x,4] #[[d],4]) (S':=S++[.lst (ws.map MV.str)]) rfl (by unfold xW wV;simp? [i,fT,iF]) (kG _)];exact e
noncomputable def abj:List Nat:=[97,98,99,100,101,102,103,104,105,106]
theorem Qh(S): ∀ p  c  ws  k w o ,ws.length+p.length<=9->Ws ws/\ws.Nodup-> ∃v f s r m,kZ (yX 3) kW [] p (WD c ↑0 k w o) (S++[.lst (ws.map MV.str)])=.ok (.next (WD v ↑0 s r m)) (S++[.lst (f.map MV.str)])/\f.length=ws.length+p.length/\Ws f/\f.Nodup
 |[],c,ws,k,w,o,_,h=>⟨c,ws,k,w,o,rfl,rfl,h⟩
 |d::p,c,ws,k,w,o,hl,h=>by
  rw[lC]at hl;obtain⟨x,i,F,H⟩:=Gr c (S++[.lst (ws.map MV.str)]);have E:wW (WD c ↑0 (some d) w o) (S++[.lst (ws.map MV.str)])=.ok (.next (WD i ↑0 (some d) #[x,4] o)) (S++[.lst (ws.map MV.str)]):=by unfold wW;simp? [F,uH];rfl
  obtain⟨n,m,I,t,q⟩:=Dh (c:=i) (k:=some d) (ws:=ws) S abj x o [] H ↑3 (λ_=>⟨nodup_nil,(λy j=>by simp at j),by rw[show abj.length=10 from rfl,ç];omega⟩);have B:wX (WD i ↑0 (some d) #[x,4] o) (S++[.lst (ws.map MV.str)])=.ok (.next (WD i ↑0 (some d) #[n,4] m)) (S++[.lst (ws.map MV.str)]):=by unfold wX;simp? [cH];exact I
  have A:wY (WD i ↑0 (some d) #[n,4] m) (S++[.lst (ws.map MV.str)])=.ok (.next (WD i ↑0 (some d) #[n,4] m)) (S++[.lst ((ws++[n]).map MV.str)]):=by unfold wY;simp? [xI (zM S (.lst (ws.map MV.str))),jE (zM S (.lst (ws.map MV.str))) (show(ws.map MV.str).length<1000000 by rw[lM];omega),kL];rw[ó];rfl
  obtain⟨v,f,s,r,u,e,G,D⟩:=Qh S p i (ws++[n]) (some d) #[n,4] m (by rw[lA,lS];omega) ⟨λy j=>by
   rcases å.mp j with j|j
   .exact h.1 y j
   .rw[mS.mp j];exact t,Ĥ.mpr ⟨h.2,by simp,λa z b C e=>by
   rw[mS.mp C]at e;rw[e]at z;exact q z⟩⟩
  refine⟨v,f,s,r,u,?_,by rw[G,lA,lS,lC];omega,D⟩;rw[zZ (ρ0:=WD c ↑0 (some d) w o) rfl (by unfold kW;rw[zE E,zE B];exact A) (kG _)];exact e
def HN(ws:Ch)(n):sK n (ws.map MV.str):=kO λd a=>by obtain⟨x,_,rfl⟩:=mM.mp a;exact AI _ _
theorem Kk(c)(S): ∃a:List (List Nat),a.length=5/\Ws a/\a.Nodup/\zS 2 wM [#[c,5],#[5,5]] S=.ok (.new (a.map MV.str)) S:=by
 obtain⟨i,a,k,w,o,e,h,hw,f⟩:=Qh S ((List.range 5).map λk=>.int (k:Nat)) c [] none none none ↑3 ⟨(λx b=>by simp at b),nodup_nil⟩;refine⟨a,h,hw,f,?_⟩;refine sV (T:=[.lst (a.map MV.str)]) rfl ?_ (à _) (zM _ _) (HN _ _);show yP (gA [#[c,0],#[5,0],none,none,none,none] S)=_;have j:kX [#[c,0],#[5,0],none,none,none,none] S=.ok (.next (WD c ↑0 none none none)) (S++[.lst []]):=by unfold kX;simp? [cH]
 have d:kY (WD c ↑0 none none none) (S++[.lst []])=.ok (.next (WD i ↑0 k w o)) (S++[.lst (a.map MV.str)]):=by unfold kY;simp? [zDO];exact e
 unfold gA;rw[zE j,zE d];unfold cM;simp? [cH];rfl
abbrev WW(c:Int)(g s:V0)(l:Nat)(k w j z:V0):Rho:=[#[c,0],#[5,0],#[abc,4],g,s,#[l],k,w,j,z]
noncomputable abbrev WV(c:Int)(a g s l:V0):Rho:=[#[c,0],#[5,0],a,g,s,l,none,none,none,none]
def Qi(c s:Int)(k j:Nat):Nat:=97+((c / (49+5 * (j:Int))+(j:Int) * (c / 49 % 3)+(if(j:Int)=s then 3 * (k:Int)else 0)) % 26).toNat
def Di(c g s:Int)(k:Nat):List Nat:=(List.range g.toNat).map (Qi c s k)
def Yi(c g s)(l k j)(p:j<100)(x)(o:x.length<=100)(z)(S): ∃f,nQ (WW c #[g,0] #[s,0] l (some (zH k)) #[x,4] (some (zH j)) z) S=.ok (.next (WW c #[g,0] #[s,0] l (some (zH k)) #[x++[Qi c s k j],4] (some (zH j)) f)) S:=by
 obtain⟨v,e⟩: ∃v:Int,v=c / (49+5 * (j:Int))+(j:Int) * (c / 49 % 3):=⟨_,rfl⟩
 have n:eB (WW c #[g,0] #[s,0] l (some (zH k)) #[x,4] (some (zH j)) z) S=.ok (.next (WW c #[g,0] #[s,0] l (some (zH k)) #[x,4] (some (zH j)) #[v,0])) S:=by unfold eB;simp? [fR (a:=5) (show -(2 ^ 64)<(5:Int)/\(5:Int)<2 ^ 64 by decide),yL (b:=49+5 * (j:Int)) (by omega) (by omega),yL (b:=49) ↑3 ↑3,mod_lit (show(0:Int)<3 by decide),fR (a:=(j:Int)) (show -(2 ^ 64)<(j:Int)/\(j:Int)<2 ^ 64 by omega)];rw[e]
 obtain⟨u,d⟩: ∃u:Int,u=v+(if(j:Int)=s then 3 * (k:Int)else 0):=⟨_,rfl⟩
 have i:eC (WW c #[g,0] #[s,0] l (some (zH k)) #[x,4] (some (zH j)) #[v,0]) S=.ok (.next (WW c #[g,0] #[s,0] l (some (zH k)) #[x,4] (some (zH j)) #[u,0])) S:=by
  unfold eC;by_cases h:(j:Int)=s
  .rw[iP h]at d;rw[d];simp? [h,č,fR (a:=3) (show -(2 ^ 64)<(3:Int)/\(3:Int)<2 ^ 64 by decide)]
  .rw[iN h,Int.add_zero]at d;rw[d];simp? [h,ĕ,fT,iF]
 have m:Qi c s k j=97+(u % 26).toNat:=by unfold Qi;rw[d,e]
 rw[m];refine⟨#[u,0],?_⟩;unfold nQ;rw[zE n,zE i];unfold tI;simp? [mod_lit (show(0:Int)<26 by decide),Qd,Qf (x:=x) (y:=[97+(u % 26).toNat]) (by rw[lS];omega)]
theorem Qj(c g s)(l k)(S): ∀(a:Db),(∀j∈a,j<100)-> ∀ x  j z ,x.length+a.length<=100-> ∃d b,kZ (yX 8) nQ [] (a.map zH) (WW c #[g,0] #[s,0] l (some (zH k)) #[x,4] j z) S=.ok (.next (WW c #[g,0] #[s,0] l (some (zH k)) #[x++a.map (Qi c s k),4] d b)) S
 |[],_,x,j,z,_=>⟨j,z,by rw[show List.map (Qi c s k) []=[]from rfl,aN];rfl⟩
 |i::a,hj,x,j,z,h=>by rw[lC]at h;obtain⟨m,n⟩:=Yi c g s l k i (hj i mF0) x (by omega) z S;obtain⟨d,b,e⟩:=Qj c g s l k S a (λy f=>hj y (mO _ f)) (x++[Qi c s k i]) (some (zH i)) m (by rw[lA,lS];omega);refine⟨d,b,?_⟩;rw[ã,zZ (ρ0:=WW c #[g,0] #[s,0] l (some (zH k)) #[x,4] (some (zH i)) z) rfl n (kG _),e,aA];rfl
theorem Qk(c g s)(p:1<=g/\g<=7)(S): ∀(ks:Db) ws  k w j z ,ws.length+ks.length<=100-> ∃ h d m f ,kZ (yX 6) oR [] (ks.map zH) (WW c #[g,0] #[s,0] ↑0 k w j z) (S++[.lst (ws.map MV.str)])=.ok (.next (WW c #[g,0] #[s,0] ↑0 h d m f)) (S++[.lst ((ws++ks.map (Di c g s)).map MV.str)])
 |[],ws,k,w,j,z,_=>⟨k,w,j,z,by rw[show List.map (Di c g s) []=[]from rfl,aN];rfl⟩
 |i::ks,ws,k,w,j,z,hl=>by
  rw[lC]at hl;have q:eE (WW c #[g,0] #[s,0] ↑0 (some (zH i)) w j z) (S++[.lst (ws.map MV.str)])=.ok (.next (WW c #[g,0] #[s,0] ↑0 (some (zH i)) #[[],4] j z)) (S++[.lst (ws.map MV.str)]):=by unfold eE;simp? [cH]
  obtain⟨b,a,n⟩:=Qj c g s ↑0 i (S++[.lst (ws.map MV.str)]) (List.range g.toNat) (λy o=>by have:=Ą.mp o;omega) [] j z (by rw[ç,ù];omega);rw[Ě]at n;have t:eF (WW c #[g,0] #[s,0] ↑0 (some (zH i)) #[[],4] j z) (S++[.lst (ws.map MV.str)])=.ok (.next (WW c #[g,0] #[s,0] ↑0 (some (zH i)) #[Di c g s i,4] b a)) (S++[.lst (ws.map MV.str)]):=by unfold eF;simp? [UU (show -(2 ^ 62)<=g/\g<2 ^ 62 by omega)];exact n
  have r:eG (WW c #[g,0] #[s,0] ↑0 (some (zH i)) #[Di c g s i,4] b a) (S++[.lst (ws.map MV.str)])=.ok (.next (WW c #[g,0] #[s,0] ↑0 (some (zH i)) #[Di c g s i,4] b a)) (S++[.lst ((ws++[Di c g s i]).map MV.str)]):=by unfold eG;simp? [xI (zM S (.lst (ws.map MV.str))),jE (zM S (.lst (ws.map MV.str))) (show(ws.map MV.str).length<1000000 by rw[lM];omega),kL];rw[ó];rfl
  obtain⟨h,d,m,f,e⟩:=Qk c g s p S ks (ws++[Di c g s i]) (some (zH i)) #[Di c g s i,4] b a (by rw[lA,lS];omega);refine⟨h,d,m,f,?_⟩;rw[ã,zZ (ρ0:=WW c #[g,0] #[s,0] ↑0 (some (zH i)) w j z) rfl (by unfold oR;rw[zE q,zE t];exact r) (kG _),e,aA];rfl
def Yj(c g s)(k):(Di c g s k).length=g.toNat:=by unfold Di;rw[lM,ù]
def X8(h:0<=s)(n:s<g)(m:k<5)(i:j<5)(e:Di c g s k=Di c g s j):k=j:=by
 have f:s.toNat<g.toNat:=by omega
 have b:=congrArg (λl=>l[s.toNat]?) e;unfold Di at b;rw[ï,ï,getElem?_range f]at b;have a:Qi c s k s.toNat=Qi c s j s.toNat:=â b;unfold Qi at a;rw[Int.toNat_of_nonneg h,iP rfl,iP rfl]at a;obtain⟨v,d⟩: ∃v,v=c / (49+5 * s)+s * (c / 49 % 3):=⟨_,rfl⟩
 rw[<-d]at a;omega
theorem TH{α:Type}: ∀{l:List α}{i}{a},l.Nodup->a∉l->(l.set i a).Nodup
 |[],_,_,h,_=>h
 |x::l,0,a,h,ha=>ę.mpr ⟨λz=>ha (mO _ z),(ę.mp h).2⟩
 |x::l,i+1,a,h,ha=>by
  have b:=ę.mp h;refine ę.mpr ⟨λz=>?_,TH b.2 λz=>ha (mO _ z)⟩;rcases List.mem_or_eq_of_mem_set z with z|e
  .exact b.1 z
  .exact ha (by rw[<-e];exact mF0)
theorem Ql(c)(S): ∃f:List (List Nat),f.length=5/\f.Nodup/\Ws f/\zS 2 mK [#[c,5],#[5,5]] S=.ok (.new (f.map MV.str)) S:=by
 by_cases H:c % 2=0
 .obtain⟨f,p,J,q,e⟩:=Kk (c / 2) S;refine⟨f,p,q,J,?_⟩;refine cI (T:=[]) rfl ?_ (HN _ _);rw[aN];show yP (nR (WV c none none none none) S)=_;have W:bI (WV c none none none none) S=.ok (.ret (.new (f.map MV.str))) S:=by unfold bI;simp? [mod_lit (show(0:Int)<2 by decide),H,č,yL (b:=2) ↑3 ↑3,e]
  unfold nR;rw[cT W];rfl
 .obtain⟨d,X⟩: ∃d:Int,d=c * 69621 % 2147483629 * 48271 % 2147483647:=⟨_,rfl⟩
  have h0:=eN0 d (show(7:Int)≠0 by decide);have h1:=eL d (show(0:Int)<7 by decide);obtain⟨g,M⟩: ∃g:Int,g=1+d % 7:=⟨_,rfl⟩
  obtain⟨s,r⟩: ∃s:Int,s=d / 7 % g:=⟨_,rfl⟩
  have A:0<=s:=by rw[r];exact eN0 _ (by omega)
  have G:s<g:=by rw[r];exact eL _ (by omega)
  obtain⟨k,w,j,z,E⟩:=Qk d g s (by omega) S (List.range 5) [] none none none none ↑3;rw[Ě]at E;obtain⟨f,o⟩: ∃f,f=(List.range 5).map (Di d g s):=⟨_,rfl⟩
  rw[<-o]at E;have p:f.length=5:=by rw[o];rfl
  have q:f.Nodup:=by rw[o];refine pairwise_map.mpr (List.Pairwise.imp_of_mem (λ{a b} t v h e=>h ?_) (List.nodup_range (n:=5)));exact X8 A G (Ą.mp t) (Ą.mp v) e
  have hw: ∀x∈f,x.length=g.toNat/\32∉x:=λx m=>by rw[o]at m;obtain⟨k,_,rfl⟩:=mM.mp m;refine⟨Yj d g s k,λz=>?_⟩;unfold Di at z;obtain⟨j,_,e⟩:=mM.mp z;unfold Qi at e;omega
  have U:bI (WV c none none none none) S=.ok (.next (WV c none none none none)) S:=by unfold bI;simp? [mod_lit (show(0:Int)<2 by decide),H,ĕ,fT,iF]
  have L:oS (WV c none none none none) S=.ok (.next (WV c #[abc,4] none none none)) S:=by unfold oS;simp? [cH];rfl
  have K:oU (WV c #[abc,4] none none none) S=.ok (.next (WV d #[abc,4] none none none)) S:=by unfold oU;simp? [LP (show -(2 ^ 64)<(69621:Int)/\(69621:Int)<2 ^ 64 by decide),mod_lit (show(0:Int)<2147483629 by decide),LP (show -(2 ^ 64)<(48271:Int)/\(48271:Int)<2 ^ 64 by decide),mod_lit (show(0:Int)<2147483647 by decide)];rw[X]
  have Z:oW (WV d #[abc,4] none none none) S=.ok (.next (WV d #[abc,4] #[g,0] none none)) S:=by unfold oW;simp? [mod_lit (show(0:Int)<7 by decide)];rw[M]
  have O:oX (WV d #[abc,4] #[g,0] none none) S=.ok (.next (WV d #[abc,4] #[g,0] #[s,0] none)) S:=by unfold oX;simp? [yL (b:=7) ↑3 ↑3,mod_lit (show(0:Int)<g by omega)];rw[r]
  have N:oY (WV d #[abc,4] #[g,0] #[s,0] none) S=.ok (.next (WW d #[g,0] #[s,0] ↑0 none none none none)) (S++[.lst []]):=by unfold oY;simp? [cH]
  have Q:oZ (WW d #[g,0] #[s,0] ↑0 none none none none) (S++[.lst []])=.ok (.next (WW d #[g,0] #[s,0] ↑0 k w j z)) (S++[.lst (f.map MV.str)]):=by unfold oZ;simp? [zDO];exact E
  obtain⟨i,Y,C,F,u⟩: ∃i:List (List Nat),pA (WW d #[g,0] #[s,0] S.length k w j z) (S++[.lst (f.map MV.str)])=.ok (.next (WW d #[g,0] #[s,0] ↑0 k w j z)) (S++[.lst (i.map MV.str)])/\i.length=5/\i.Nodup/\Ws i:=by
   unfold pA;by_cases I:d / 49 % 4=1
   .obtain⟨a,t,v⟩:=Qe (d / 196) (S++[.lst (f.map MV.str)]);have m:f[0]? =some (f[0]'(by omega)):=gE0 _;obtain⟨P,B⟩:=hw _ (getElem_mem (show 0<f.length by omega));have D:xK #[↑0,1] #[0,5] (S++[.lst (f.map MV.str)])=.ok (.val (.str f[0])) (S++[.lst (f.map MV.str)]):=aP (zM _ _) (tN (k:=0) (by rw[ï,m];rfl));refine⟨f.set 1 (f[0]++[a]),?_,by rw[ÿ];exact p,?_,λx m=>?_⟩
    .simp? [yL (b:=49) ↑3 ↑3,mod_lit (show(0:Int)<4 by decide),I,č,D,yL (b:=196) ↑3 ↑3,mod_lit (show(0:Int)<26 by decide),t,Qf (x:=f[0]) (y:=[a]) (by rw[lS];omega),uH,Py (k:=1) (j:=1) (zM S (.lst (f.map MV.str))) (by unfold XM;rw[lM,p];rfl),kL];rw[List.map_set]
    .refine TH q λz=>?_;have:=(hw _ z).1;rw[lA,lS]at this;omega
    .rcases List.mem_or_eq_of_mem_set m with m|rfl
     .have:=hw x m;exact⟨by omega,this.2⟩
     .exact⟨by rw[lA,lS];omega,Dg B v⟩
   .refine⟨f,?_,p,q,λx m=>⟨by have:=(hw x m).1;omega,(hw x m).2⟩⟩;simp? [yL (b:=49) ↑3 ↑3,mod_lit (show(0:Int)<4 by decide),I,ĕ,fT,iF]
  refine⟨i,C,F,u,?_⟩;refine sV (T:=[.lst (i.map MV.str)]) rfl ?_ (à _) (zM _ _) (HN _ _);show yP (nR (WV c none none none none) S)=_;unfold nR;rw[zE U,zE L,zE K,zE Z,zE O,zE N,zE Q,zE Y];unfold BS;simp? [cH];rfl
def WF(c:S[l]? =#[ds,2])(a b):fQ #[l,1] a b S=.ok (.new (aG ds a b)) S:=by show(match bZ S #[l,1]with |some ds=>R.ok (Er.new (aG ds a b)) S|none=>.no)=_;rw[oA c]
theorem Gt(ds)(a b)(S):fQ (.new ds) a b S=.ok (.new (aG ds a b)) S:=rfl
def Gu(b:Za)(n):sK n (b.map MV.int):=kO λd a=>by obtain⟨x,_,rfl⟩:=mM.mp a;exact AH _ _
abbrev DW(c:Int)(m l:Nat)(r k n:V0):Rho:=[#[c,0],some (zH m),#[l],r,k,n]
theorem Gv(c)(m)(n)(S): ∀ i (a:Za) r  k ,a.length+i.length<=100-> ∃(f:Za)(j:Int)(k':V0),kZ (yX 4) nS [] i (DW c m ↑0 #[r,0] k n) (S++[.lst (a.map MV.int)])=.ok (.next (DW c m ↑0 #[j,0] k' n)) (S++[.lst (f.map MV.int)])/\f.length=a.length+i.length
 |[],a,r,k,_=>⟨a,r,k,rfl,rfl⟩
 |d::i,a,r,k,h=>by
  rw[lC]at h;have p:eH (DW c m ↑0 #[r,0] (some d) n) (S++[.lst (a.map MV.int)])=.ok (.next (DW c m ↑0 #[r,0] (some d) n)) (S++[.lst ((a++[r % 1000000]).map MV.int)]):=by unfold eH;simp? [xI (zM S (.lst (a.map MV.int))),mod_lit (show(0:Int)<1000000 by decide),jE (zM S (.lst (a.map MV.int))) (show(a.map MV.int).length<1000000 by rw[lM];omega),kL];rw[ó];rfl
  have q:eI (DW c m ↑0 #[r,0] (some d) n) (S++[.lst ((a++[r % 1000000]).map MV.int)])=.ok (.next (DW c m ↑0 #[r / 1000000,0] (some d) n)) (S++[.lst ((a++[r % 1000000]).map MV.int)]):=by unfold eI;simp? [yL (b:=1000000) ↑3 ↑3]
  obtain⟨f,j,k',e,o⟩:=Gv c m n S i (a++[r % 1000000]) (r / 1000000) (some d) (by rw[lA,lS];omega);refine⟨f,j,k',?_,by rw[o,lA,lS,lC];omega⟩;rw[zZ (ρ0:=DW c m ↑0 #[r,0] (some d) n) rfl (by unfold nS;rw[zE p];exact q) (kG _)];exact e
theorem Gw(c)(m)(r)(S): ∀(ks:Db)(f:Za) n  k ,f.length+ks.length<=100->0<=n/\n<4294967296-> ∃(i:Za)(o:Int)(k':V0),kZ (yX 4) pB [] (ks.map zH) (DW c m ↑0 r k #[n,0]) (S++[.lst (f.map MV.int)])=.ok (.next (DW c m ↑0 r k' #[o,0])) (S++[.lst (i.map MV.int)])/\i.length=f.length+ks.length
 |[],f,n,k,_,_=>⟨f,n,k,rfl,rfl⟩
 |d::ks,f,n,k,h,hn=>by
  rw[lC]at h;obtain⟨v,t⟩: ∃v:Int,v=(n * n+48271 * n+(d:Int)) % 2147483647:=⟨_,rfl⟩
  have j:0<=v/\v<4294967296:=by have z:=eN0 (n * n+48271 * n+(d:Int)) (show(2147483647:Int)≠0 by decide);have y:=eL (n * n+48271 * n+(d:Int)) (show(0:Int)<2147483647 by decide);omega
  have q:eK (DW c m ↑0 r (some (zH d)) #[n,0]) (S++[.lst (f.map MV.int)])=.ok (.next (DW c m ↑0 r (some (zH d)) #[v,0])) (S++[.lst (f.map MV.int)]):=by unfold eK;simp? [fR (a:=n) (show -(2 ^ 64)<n/\n<2 ^ 64 by omega),fR (a:=48271) (show -(2 ^ 64)<(48271:Int)/\(48271:Int)<2 ^ 64 by decide),mod_lit (show(0:Int)<2147483647 by decide)];rw[t]
  obtain⟨u,p⟩: ∃u:Int,u=v * 69621 % 2147483587 / 16:=⟨_,rfl⟩
  have s:eM (DW c m ↑0 r (some (zH d)) #[v,0]) (S++[.lst (f.map MV.int)])=.ok (.next (DW c m ↑0 r (some (zH d)) #[v,0])) (S++[.lst ((f++[u]).map MV.int)]):=by unfold eM;simp? [xI (zM S (.lst (f.map MV.int))),LP (show -(2 ^ 64)<(69621:Int)/\(69621:Int)<2 ^ 64 by decide),mod_lit (show(0:Int)<2147483587 by decide),yL (b:=16) ↑3 ↑3,jE (zM S (.lst (f.map MV.int))) (show(f.map MV.int).length<1000000 by rw[lM];omega),kL];rw[ó,p];rfl
  obtain⟨i,o,k',e,w⟩:=Gw c m r S ks (f++[u]) v (some (zH d)) (by rw[lA,lS];omega) j;refine⟨i,o,k',?_,by rw[w,lA,lS,lC];omega⟩;rw[ã,zZ (ρ0:=DW c m ↑0 r (some (zH d)) #[n,0]) rfl (by unfold pB;rw[zE q];exact s) (kG _)];exact e
theorem Qm(c)(w:m<=20)(S): ∃a:List Int,a.length=m/\zS 2 nU [#[c,5],.val (zH m)] S=.ok (.new (a.map MV.int)) S:=by
 have i:pC [#[c,0],some (zH m),none,none,none,none] S=.ok (.next (DW c m ↑0 none none none)) (S++[.lst []]):=by unfold pC;simp? [cH]
 by_cases j:c % 2=0
 .obtain⟨a,r,h,e,d⟩:=Gv c m none S ((List.range m).map λk=>.int (k:Nat)) [] (c / 2) none (by rw[lM,ù,ç];omega);rw[lM,ù,ç,İ]at d;refine⟨a,d,?_⟩;refine sV (T:=[.lst (a.map MV.int)]) rfl ?_ (à _) (zM _ _) (Gu _ _);show yP (nT [#[c,0],some (zH m),none,none,none,none] S)=_;have p:(CJ (dJ bQ (vJ 0) (kJ (.int 2))) 3) (DW c m ↑0 none none none) (S++[.lst []])=.ok (.next (DW c m ↑0 #[c / 2,0] none none)) (S++[.lst []]):=by simp? [yL (b:=2) ↑3 ↑3]
  have s:(FJ (bJ (yJ (vJ 1) wJ) fP) (yX 4) (nS)) (DW c m ↑0 #[c / 2,0] none none) (S++[.lst []])=.ok (.next (DW c m ↑0 #[r,0] h none)) (S++[.lst (a.map MV.int)]):=by simp? [Kj (n:=m) (by omega)];exact e
  have f:bK (DW c m ↑0 none none none) (S++[.lst []])=.ok (.ret #[↑0,1]) (S++[.lst (a.map MV.int)]):=by unfold bK;simp? [mod_lit (show(0:Int)<2 by decide),j,č];rw[zE p,zE s];rfl
  unfold nT;rw[zE i,cT f];rfl
 .have v:=eN0 c (show(2147483629:Int)≠0 by decide);have u:=eL c (show(0:Int)<2147483629 by decide);obtain⟨a,q,h,e,d⟩:=Gw c m none S (List.range m) [] (c % 2147483629+1) none (by rw[ù,ç];omega) (by omega);rw[ù,ç,İ]at d;refine⟨a,d,?_⟩;refine sV (T:=[.lst (a.map MV.int)]) rfl ?_ (à _) (zM _ _) (Gu _ _);show yP (nT [#[c,0],some (zH m),none,none,none,none] S)=_;have f:bK (DW c m ↑0 none none none) (S++[.lst []])=.ok (.next (DW c m ↑0 none none none)) (S++[.lst []]):=by unfold bK;simp? [mod_lit (show(0:Int)<2 by decide),j,ĕ,fT,iF]
  have o:pD (DW c m ↑0 none none none) (S++[.lst []])=.ok (.next (DW c m ↑0 none none #[c % 2147483629+1,0])) (S++[.lst []]):=by unfold pD;simp? [mod_lit (show(0:Int)<2147483629 by decide)]
  have t:pE (DW c m ↑0 none none #[c % 2147483629+1,0]) (S++[.lst []])=.ok (.next (DW c m ↑0 none h #[q,0])) (S++[.lst (a.map MV.int)]):=by unfold pE;simp? [Kj (n:=m) (by omega)];exact e
  unfold nT;rw[zE i,zE f,zE o,zE t];rfl
abbrev VS(v:MV):Prop:=(∃i,v=.int i)\/ ∃x,v=.str x
def lU(h:VS v):pd v=true/\OL v<40:=by
 rcases h with⟨i,rfl⟩|⟨x,rfl⟩
 .exact⟨uI i,by rw[uK];decide⟩
 .exact⟨dI x,by rw[qP];decide⟩
def E5(h: ∀v∈vs,VS v)(n):sK n vs:=kO λd a=>KL (lU (h d a)).1
noncomputable abbrev VV(c:Int)(l:Nat)(r m f k v n p t:V0):Rho:=[#[c,0],#[l],r,m,f,k,v,n,p,t]
noncomputable abbrev VW(c:Int)(b:Nat)(r m:V0)(a:Nat)(k v:V0):Rho:=[#[c,0],#[b],r,m,#[a],k,v,none,none,none]
def Yk(c)(lw)(m)(S)(F:vs.length<=100)(h: ∀v∈vs,VS v)(r)(k v): ∃(f:U0)(D:Int)(w:V0),kH (VW c lw #[r,0] m ↑0 k v) (S++[.lst vs])=.ok (.next (VW c lw #[D,0] m ↑0 k w)) (S++[.lst f])/\f≠[]/\f.length<=vs.length+1/\ ∀v∈f,VS v:=by
 obtain⟨x,d,A,_⟩:=Gr (r / 2) (S++[.lst vs]);have p:nV (VW c lw #[r,0] m ↑0 k v) (S++[.lst vs])=.ok (.next (VW c lw #[d,0] m ↑0 k #[x,4])) (S++[.lst vs]):=by unfold nV;simp? [yL (b:=2) ↑3 ↑3,A,uH];rfl
 obtain⟨j,u,q,o⟩: ∃(j:Int)(u:MV),gZ (VW c lw #[d,0] m S.length k #[x,4]) (S++[.lst vs])=.ok (.next (VW c lw #[j,0] m ↑0 k (some u))) (S++[.lst vs])/\VS u:=by
  by_cases s:d % 2=1
  .have t: ∀S:Sto,KU #[10,5] #[30,5] S=.ok #[10 ^ 30,5] S:=λS=>Ex (by unfold Jh;decide+kernel) S;have C:Cd 0 (2 * 10 ^ 30 - 1):=by unfold Cd;decide+kernel
   refine⟨d / (2 * 10 ^ 30 - 1),.int (d / 2 % (2 * 10 ^ 30 - 1) - 10 ^ 30+1),?_,.inl ⟨_,rfl⟩⟩;have B:(CJ (dJ jL (dJ GH (dJ jK (dJ bQ (vJ 2) (kJ (.int 2))) (dJ GH (dJ vH (kJ (.int 2)) (dJ KU (kJ (.int 10)) (kJ (.int 30)))) (kJ (.int 1)))) (dJ KU (kJ (.int 10)) (kJ (.int 30)))) (kJ (.int 1))) 6) (VW c lw #[d,0] m ↑0 k #[x,4]) (S++[.lst vs])=.ok (.next (VW c lw #[d,0] m ↑0 k #[d / 2 % (2 * 10 ^ 30 - 1) - 10 ^ 30+1,0])) (S++[.lst vs]):=by simp? [yL (b:=2) ↑3 ↑3,t,fR (a:=2) (show -(2 ^ 64)<(2:Int)/\(2:Int)<2 ^ 64 by decide),mod_lit (b:=2 * 10 ^ 30 - 1) ↑3]
   have E:(CJ (dJ bQ (vJ 2) (dJ GH (dJ vH (kJ (.int 2)) (dJ KU (kJ (.int 10)) (kJ (.int 30)))) (kJ (.int 1)))) 2) (VW c lw #[d,0] m ↑0 k #[d / 2 % (2 * 10 ^ 30 - 1) - 10 ^ 30+1,0]) (S++[.lst vs])=.ok (.next (VW c lw #[d / (2 * 10 ^ 30 - 1),0] m ↑0 k #[d / 2 % (2 * 10 ^ 30 - 1) - 10 ^ 30+1,0])) (S++[.lst vs]):=by simp? [t,fR (a:=2) (show -(2 ^ 64)<(2:Int)/\(2:Int)<2 ^ 64 by decide),Ya C]
   unfold gZ;simp? [mod_lit (show(0:Int)<2 by decide),s,č];rw[zE B];exact E
  .refine⟨d,.str x,?_,.inr ⟨x,rfl⟩⟩;unfold gZ;simp? [mod_lit (show(0:Int)<2 by decide),s,ĕ,fT,iF]
 have e:=fI true (zM S (.lst vs)) (lU o).1 λy i=>lU (h y i);rw[iP rfl]at e;by_cases n:u∈vs
 .rw[dT0 n]at e;refine⟨vs,j,some u,?_,λz=>by rw[z]at n;simp at n,by omega,h⟩;unfold kH;rw[zE p,zE q];unfold nW;simp? [e,Ķ,fT,iF]
 .rw[dF0 n]at e;refine⟨vs++[u],j,some u,?_,by simp,by rw[lA,lS];exact à _,λy i=>?_⟩
  .unfold kH;rw[zE p,zE q];unfold nW;simp? [e,ğ,xI (zM S (.lst vs)),jE (zM S (.lst vs)) (show vs.length<1000000 by omega),kL]
  .rcases å.mp i with i|i
   .exact h y i
   .rw[mS.mp i];exact o
theorem Qn(c)(lw)(m)(S): ∀ f  b  r  k v ,b.length+f.length<=100->(b≠[]\/f≠[])->(∀v∈b,VS v)-> ∃(a:U0)(n:Int)(k' i:V0),kZ (yX 5) kH [] f (VW c lw #[r,0] m ↑0 k v) (S++[.lst b])=.ok (.next (VW c lw #[n,0] m ↑0 k' i)) (S++[.lst a])/\a≠[]/\a.length<=b.length+f.length/\ ∀v∈a,VS v
 |[],b,r,k,v,_,hne,h=>⟨b,r,k,v,rfl,hne.resolve_right λz=>z rfl,à _,h⟩
 |d::f,b,r,k,v,hl,_,h=>by rw[lC]at hl;obtain⟨j,q,u,o,p,A,s⟩:=Yk c lw m S (by omega) h r (some d) v;obtain⟨a,n,k',i,e,w,y,t⟩:=Qn c lw m S f j q (some d) u (by omega) (.inl p) s;refine⟨a,n,k',i,?_,w,by rw[lC];omega,t⟩;rw[zZ (ρ0:=VW c lw #[r,0] m S.length (some d) v) rfl o (kG _)];exact e
theorem Kl(c){ws:Ch}(hw:ws.length=2)(S): ∃o:List MV,o≠[]/\o.length<=4/\(∀v∈o,VS v)/\zS 2 fF [#[c,5],.new (ws.map MV.str)] S=.ok (.new o) S:=by
 obtain⟨m,B⟩: ∃m:Sto,m=S++[.lst (ws.map MV.str)]:=⟨_,rfl⟩
 have A:m[↑0]? =#[ws.map MV.str,2]:=by rw[B];exact zM _ _
 by_cases h2:c % 2=0
 .obtain⟨r,hr⟩: ∃r,r=c / 2:=⟨_,rfl⟩
  have h3:=eN0 r (show(3:Int)≠0 by decide);have h4:=eL r (show(0:Int)<3 by decide);obtain⟨o,r',Z,Y,e,g1,g2,g3⟩:=Qn c ↑0 #[2+r % 3,0] m ((List.range (2+r % 3).toNat).map λk=>.int (k:Nat)) [] (r / 3) none none (by rw[lM,ù,ç];omega) (.inr (by intro z;have:=congrArg List.length z;rw[lM,ù,ç]at this;omega)) (λv w=>by simp at w);rw[lM,ù,ç]at g2;have D:(m++[.lst o])[m.length]? =#[o,2]:=zM _ _;have C:(m++[.lst o])[↑0]? =#[ws.map MV.str,2]:=by rw[á (gS.mp A).1];exact A
  have hc:xM (yX 0) bA nY [none,#[m.length]] [(↑0,ws.map MV.str)] (ws.map MV.str) (m++[.lst o])=.ok ((ws.filter λx=>!decide (MV.str x∈o)).map MV.str) (m++[.lst o]):=
   wZ (xP C) λx _=>⟨[#[x,4],#[m.length]],rfl,by unfold bA;simp? [fI true D (dI x) λy N=>lU (g3 y N)],rfl⟩
  obtain⟨t,P⟩: ∃t:Int,t=2 - (if(o.length:Int)<2 then(o.length:Int)else 2):=⟨_,rfl⟩
  obtain⟨q,s⟩: ∃q,q=aG ((ws.filter λx=>!decide (MV.str x∈o)).map MV.str) none (some t):=⟨_,rfl⟩
  have E: ∀y∈q,VS y:=λy N=>by rw[s]at N;obtain⟨x,_,rfl⟩:=mM.mp (Oi N);exact .inr ⟨x,rfl⟩
  have M:q.length<=2:=by rw[s];refine ì (Oh _ _ _) ?_;rw[lM];exact ì (Ĉ _ _) (by omega)
  have F: ∀v∈o++q,VS v:=λv w=>(å.mp w).elim (g3 v) (E v);have aa:q.length<=t.toNat:=by rw[s,GS _ _ (by rw[P];split<;>omega)];exact List.length_take_le _ _
  refine⟨o++q,by simp[g1],by rw[lA];split at P<;>omega,F,?_⟩;refine CD (T:=[.lst (ws.map MV.str)]++[.lst o]) rfl (show zP [#[c,5],.new (ws.map MV.str)] S=([.int c,.loc ↑0],S++[.lst (ws.map MV.str)])from rfl) ?_ (.inl rfl) (E5 F _);rw[<-B];show yP (cN (VV c ↑0 none none none none none none none none) m)=_;have q1:(CJ (dJ bQ (vJ 0) (kJ (.int 2))) 2) (VV c ↑0 none none none none none none none none) m=.ok (.next (VV c ↑0 #[r,0] none none none none none none none)) m:=by simp? [yL (b:=2) ↑3 ↑3];rw[hr]
  have q2:(CJ (dJ jL (kJ (.int 2)) (dJ jK (vJ 2) (kJ (.int 3)))) 3) (VV c ↑0 #[r,0] none none none none none none none) m=.ok (.next (VV c ↑0 #[r,0] #[2+r % 3,0] none none none none none none)) m:=by simp? [mod_lit (show(0:Int)<3 by decide)]
  have q3:(CJ (dJ bQ (vJ 2) (kJ (.int 3))) 2) (VV c ↑0 #[r,0] #[2+r % 3,0] none none none none none none) m=.ok (.next (VV c ↑0 #[r / 3,0] #[2+r % 3,0] none none none none none none)) m:=by simp? [yL (b:=3) ↑3 ↑3]
  have q4:(CJ (bJ wJ kI) 4) (VV c ↑0 #[r / 3,0] #[2+r % 3,0] none none none none none none) m=.ok (.next (VW c ↑0 #[r / 3,0] #[2+r % 3,0] m.length none none)) (m++[.lst []]):=by simp? [cH]
  have q5:(FJ (bJ (yJ (vJ 3) wJ) fP) (yX 5) (kH)) (VW c ↑0 #[r / 3,0] #[2+r % 3,0] m.length none none) (m++[.lst []])=.ok (.next (VW c ↑0 #[r',0] #[2+r % 3,0] m.length Z Y)) (m++[.lst o]):=by simp? [UU (show -(2 ^ 62)<=(2+r % 3)/\(2+r % 3)<2 ^ 62 by omega)];exact e
  have hb: ∀a b c d e f g h i j:Option MV,vN 1 [4] [a,b,c,d,e,f,g,h,i,j]=[none,e]:=λ_ _ _ _ _ _ _ _ _ _=>rfl;have W:(ws.map MV.str).length<1000000:=by rw[lM];omega
  have q6:(AJ (dJ jL (vJ 4) (tJ fQ (pJ (bJ (vJ 1) vM) (yX 0) (bA) (nY) 1 [4]) mJ (bJ (dJ GH (kJ (.int 2)) (bJ (yJ (kJ (.int 2)) (yJ (bJ (yJ (vJ 4) wJ) rF) wJ)) Ow)) RQ)))) (VW c ↑0 #[r',0] #[2+r % 3,0] m.length Z Y) (m++[.lst o])=.ok (.ret (.new (o++q))) (m++[.lst o]):=by simp? [kE C,W,hb,hc,dX D,show∀i j S,Ow [#[i,5],#[j,5]] S=.ok #[if j<i then j else i,5] S from λ_ _ _=>rfl, <-P,Gt, <-s,IQ (DH D) (show XN (m++[.lst o]) (.new q)=some q from rfl) (fits (show o.length+q.length<=1000000 by omega))]
  have X:gG (VV c ↑0 none none none none none none none none) m=.ok (.ret (.new (o++q))) (m++[.lst o]):=by unfold gG;simp? [mod_lit (show(0:Int)<2 by decide),h2,č];rw[zE q1,zE q2,zE q3,zE q4,zE q5];exact q6
  unfold cN;rw[cT X,B,aA];rfl
 .obtain⟨J,H,rfl⟩: ∃J H,ws=[J,H]:=by
   match ws,hw with
   |[a,b],_=>exact⟨a,b,rfl⟩
  obtain⟨n,hn⟩: ∃n:Int,n=c % (2 * 10 ^ 30 - 2) - 10 ^ 30+1:=⟨_,rfl⟩
  obtain⟨p,I⟩: ∃p:List MV,p=[.int n,.int (n+1),.str J,.str H]:=⟨_,rfl⟩
  obtain⟨u,U⟩: ∃u:Int,u=c / 5 % 4:=⟨_,rfl⟩
  have h3:=eN0 (c / 5) (show(4:Int)≠0 by decide);have h4:=eL (c / 5) (show(0:Int)<4 by decide);have h5:=eN0 c (show(3:Int)≠0 by decide);have h6:=eL c (show(0:Int)<3 by decide)
  have K: ∀v∈p,VS v:=λv w=>by
   rw[I]at w;simp only[mC,nM,or_false]at w;rcases w with rfl|rfl|rfl|rfl
   .exact .inl ⟨_,rfl⟩
   .exact .inl ⟨_,rfl⟩
   .exact .inr ⟨_,rfl⟩
   .exact .inr ⟨_,rfl⟩
  have G:p.length=4:=by rw[I];rfl
  obtain⟨q,s⟩: ∃q:List MV,q=(p.drop u.toNat++p.take u.toNat).take (2+c % 3).toNat:=⟨_,rfl⟩
  have M:q.length=(2+c % 3).toNat:=by rw[s,lT,lA,Ć,lT,G];omega
  have E: ∀v∈q,VS v:=λv w=>by
   rw[s]at w;rcases å.mp (ķ w)with w|w
   .exact K v (mem_of_mem_drop w)
   .exact K v (ķ w)
  refine⟨q,λz=>?_,by omega,E,?_⟩
  .rw[z,ç]at M;omega
  refine CD (T:=[.lst ([J,H].map MV.str)]++[.lst p]) rfl (show zP [#[c,5],.new ([J,H].map MV.str)] S=([.int c,.loc ↑0],S++[.lst ([J,H].map MV.str)])from rfl) ?_ (.inl rfl) (E5 E _);rw[<-B];show yP (cN (VV c ↑0 none none none none none none none none) m)=_;have hp: ∀S:Sto,KU #[10,5] #[30,5] S=.ok #[10 ^ 30,5] S:=λS=>Ex (by unfold Jh;decide+kernel) S;have X:gG (VV c ↑0 none none none none none none none none) m=.ok (.next (VV c ↑0 none none none none none none none none)) m:=by unfold gG;simp? [mod_lit (show(0:Int)<2 by decide),h2,ĕ,fT,iF]
  have f2:iW (VV c ↑0 none none none none none none none none) m=.ok (.next (VV c ↑0 none none none none none #[n,0] none none)) m:=by unfold iW;simp? [hp,fR (a:=2) (show -(2 ^ 64)<(2:Int)/\(2:Int)<2 ^ 64 by decide),mod_lit (b:=2 * 10 ^ 30 - 2) ↑3];rw[hn]
  have i0:xK #[↑0,1] #[0,5] m=.ok (.val (.str J)) m:=aP A (tN (k:=0) rfl);have i1:xK #[↑0,1] #[1,5] m=.ok (.val (.str H)) m:=aP A (tN (k:=1) rfl);have f3:iY (VV c ↑0 none none none none none #[n,0] none none) m=.ok (.next (VV c ↑0 none none none none none #[n,0] #[m.length] none)) (m++[.lst p]):=by unfold iY;simp? [i0,i1,show∀(a b c d:MV)(S:Sto),kI [.val a,.val b,.val c,.val d] S=.ok (.new [a,b,c,d]) S from λa b c d S=>AK (by simp)];rw[I]
  have f4:iZ (VV c ↑0 none none none none none #[n,0] #[m.length] none) (m++[.lst p])=.ok (.next (VV c ↑0 none none none none none #[n,0] #[m.length] #[u,0])) (m++[.lst p]):=by unfold iZ;simp? [yL (b:=5) ↑3 ↑3,mod_lit (show(0:Int)<4 by decide)];rw[U]
  have Q:(m++[.lst p])[m.length]? =#[p,2]:=zM _ _;have O:(u.toNat:Int)=u:=by omega
  have L:=tM p u.toNat;rw[O]at L;have f5:lB (VV c ↑0 none none none none none #[n,0] #[m.length] #[u,0]) (m++[.lst p])=.ok (.ret (.new q)) (m++[.lst p]):=by unfold lB;simp? [WF Q,L,GS p u (by omega),IQ (show XN (m++[.lst p]) (.new (p.drop u.toNat))=some (p.drop u.toNat)from rfl) (show XN (m++[.lst p]) (.new (p.take u.toNat))=some (p.take u.toNat)from rfl) (fits (show(p.drop u.toNat).length+(p.take u.toNat).length<=1000000 by rw[Ć,lT,G];omega)),mod_lit (show(0:Int)<3 by decide),Gt,GS _ (2+c % 3) (by omega)];rw[s]
  unfold cN;rw[zE X,zE f2,zE f3,zE f4,f5,B,aA];rfl
def LZ(c:S[l]? =#[ds,2])(a:ds≠[])(n): ∃d∈ds,xK #[l,1] #[n %  ds.length ,5] S=.ok (.val d) S:=by have h:0<ds.length:=List.length_pos_iff.mpr a;obtain⟨d,b⟩:=Ey (xs:=ds) (i:=n % (ds.length:Int)) (eN0 _ (by omega)) (eL _ (by omega));exact⟨d,Ez (P:=λd=>d∈ds) (λe f=>f) b,aP c b⟩
def Yl(a:S[l]? =#[ds,2]):Ny #[l,1] [] S=.ok (.val .non) (S.set l (.lst ds.reverse)):=by unfold Ny GO;dsimp only;rw[a]
theorem Dj(a:S[l]? =#[ds,2]):II #[l,1] (.new []) S=.ok (.val (.bl (!ds.isEmpty))) S:=by
 have e:UJ S #[l,1]=some (.ls ds):=by show(bZ S #[l,1]).map Vw.ls=_;rw[oA a];rfl
 unfold II KS;rw[e]
 cases ds with
 |nil=>rfl
 |cons d ds=>rfl
theorem Ym(a:Za)(k)(q:0<=k)(S): ∃c,zS 2 yK [.val (.scr (a.map MV.int)),#[k,5]] S=.ok #[c,5] S:=by
 have f:rF [.val (.scr (a.map MV.int))] S=.ok #[a.length,5] S:=by show R.ok (Er.val (.int (((a.map MV.int).length:Nat):Int))) S=_;rw[lM]
 have m:aU [some (.scr (a.map MV.int)),#[k,0]] S=if decide (k<a.length)=true then(xK (.val (.scr (a.map MV.int))) #[k,5] S).bind λr t=>.ok (.ret r) t else .ok (.next [some (.scr (a.map MV.int)),#[k,0]]) S:=by unfold aU;simp? [f,lt_int]
 have j: ∀c,yK [.scr (a.map MV.int),.int k] S=.ok #[c,5] S-> ∃c,zS 2 yK [.val (.scr (a.map MV.int)),#[k,5]] S=.ok #[c,5] S:=λc h=>⟨c,sW rfl h (AH _ _) (λl=>by simp)⟩
 have o:yH [Ň,ŏ] [.scr (a.map MV.int),.int k]=[some (.scr (a.map MV.int)),#[k,0]]:=rfl;by_cases b:k<a.length
 .obtain⟨d,p⟩:=Ey (xs:=a.map MV.int) (i:=k) q (by rw[lM];exact b);obtain⟨c,rfl⟩: ∃c,d=.int c:=Ez (P:=λd=> ∃c,d=.int c) (λe s=>by obtain⟨c,_,rfl⟩:=mM.mp s;exact⟨c,rfl⟩) p;have n:xK (.val (.scr (a.map MV.int))) #[k,5] S=.ok #[c,5] S:=by show(match uT (a.map MV.int) k with |some d=>R.ok (Er.val d) S|none=>.no)=_;rw[p]
  refine j c ?_;rw[dT0 b,iP rfl,n,cH]at m;unfold yK oP;rw[o,cT m];rfl
 .refine j 0 ?_;rw[dF0 b,iN xF0]at m;unfold yK oP;rw[o,zE m];rfl
abbrev Ev:=List (MV×MV)
def mV(E:Ev):Prop:= ∀p∈E,(∃x,p.1=.str x)/\VS p.2
noncomputable def isv:MV->MV
 |.tup [_,v]=>v
 |_=>.non
open Classical in
def wN:List MV->List MV->Ev->Option Ev
 |t::ts,c::cs,E=>match vn t with
  |some x=>match look E (.str x)with
   |none=>wN ts cs (E++[(.str x,c)])
   |some d=>if d=c then wN ts cs E else none
  |none=>if isv t=c then wN ts cs E else none
 |_,_,E=>some E
def aB(E:Ev)(t:MV):MV:=match vn t with
 |some x=>match look E (.str x)with
  |some d=>.tup [.str IS,d]
  |none=>t
 |none=>t
theorem HP:vn (.tup [.str IS,v])=none:=by
 cases v with
 |str y=>simp[vn]
 |_=>rfl
def qS(x)(c)(ts cs)(E):wN (.tup [.str JF,.str x]::ts) (c::cs) E=match look E (.str x)with |none=>wN ts cs (E++[(.str x,c)])|some d=>if d=c then wN ts cs E else none:=by
 conv=>lhs;unfold wN
 rw[nZ]
theorem FP(v c)(ts cs)(E):wN (.tup [.str IS,v]::ts) (c::cs) E=if v=c then wN ts cs E else none:=by
 conv=>lhs;unfold wN
 rw[HP];rfl
def OQ(V)(x):aB V (.tup [.str JF,.str x])=match look V (.str x)with |some d=>.tup [.str IS,d]|none=>.tup [.str JF,.str x]:=by unfold aB;rw[nZ]
def ZW(V)(v):aB V (.tup [.str IS,v])=.tup [.str IS,v]:=by unfold aB;rw[HP]
theorem CI(V F)(k):look (V++F) k=(look V k).or (look F k):=by unfold look;rw[List.find?_append];cases V.find? (λp=>decide (p.1=k))<;>rfl
def HQ(h:mV E)(e:look E k=some d):VS d:=by unfold look at e;obtain⟨p,a,rfl⟩:=Option.map_eq_some_iff.mp e;exact(h p (List.mem_of_find?_eq_some a)).2
def Yn(e:look E k=none): ∀p∈E,p.1≠k:=λp a h=>by unfold look at e;rw[Option.map_eq_none_iff,List.find?_eq_none]at e;exact e p a (dT0 h)
theorem Gx{V:Ev}: ∀ b f  F ,(∀t∈b,jQ t)->wN b f (V++F)=(wN (b.map (aB V)) f F).map (V++·)
 |[],_,F,_=>rfl
 |t::b,[],F,_=>rfl
 |t::b,c::f,F,h=>by
  have e:=λG=>Gx (V:=V) b f G λt i=>h t (mO _ i);rw[ã];rcases h t mF0 with⟨x,rfl⟩|⟨v,hv,rfl⟩
  .rw[OQ,qS,CI]
   cases z:look V (.str x)with
   |some d=>
    dsimp only[Option.or];rw[FP];by_cases a:d=c
    .rw[iP a,iP a];exact e F
    .rw[iN a,iN a];rfl
   |none=>
    dsimp only[Option.or];rw[qS]
    cases look F (.str x)with
    |none=>dsimp only;rw[aA];exact e _
    |some d=>
     dsimp only;by_cases a:d=c
     .rw[iP a,iP a];exact e F
     .rw[iN a,iN a];rfl
  .rw[ZW,FP,FP];by_cases a:v=c
   .rw[iP a,iP a];exact e F
   .rw[iN a,iN a];rfl
def Qo{V:Ev}(h: ∀t∈ts,jQ t):wN ts cs V=(wN (ts.map (aB V)) cs []).map (V++·):=by have:=Gx (V:=V) ts cs [] h;rw[aN]at this;exact this
theorem ZX: ∀ e f  F G ,wN e f F=some G->(F.map (·.1)).Nodup->(G.map (·.1)).Nodup/\ ∀p∈G,p∈F\/ ∃t∈e, ∃x,vn t=some x/\p.1=.str x
 |[],_,F,G,h,nd=>by cases h;exact⟨nd,λp d=>.inl d⟩
 |t::e,[],F,G,h,nd=>by cases h;exact⟨nd,λp d=>.inl d⟩
 |t::e,c::f,F,G,h,nd=>by
  have up: ∀{j:Ev},wN e f j=some G->(j.map (·.1)).Nodup->(∀p∈j,p∈F\/ ∃x,vn t=some x/\p.1=.str x)->(G.map (·.1)).Nodup/\ ∀p∈G,p∈F\/ ∃i∈t::e, ∃x,vn i=some x/\p.1=.str x:=λh k n=>by
   obtain⟨a,b⟩:=ZX e f _ G h k;refine⟨a,λp d=>?_⟩;rcases b p d with q|⟨i,ht,x,e1,e2⟩
   .rcases n p q with q|⟨x,e1,e2⟩
    .exact .inl q
    .exact .inr ⟨t,mF0,x,e1,e2⟩
   .exact .inr ⟨i,mO _ ht,x,e1,e2⟩
  unfold wN at h;split at h
  .rename_i x r;split at h
   .rename_i s;refine up h ?_ λp d=>?_
    .rw[ó,Ĥ];refine⟨nd,by simp,λa o b m=>?_⟩;rw[ã,List.map_nil,mS]at m;obtain⟨p,d,rfl⟩:=mM.mp o;rw[m];exact Yn s p d
    .rcases å.mp d with d|d
     .exact .inl d
     .rw[mS.mp d];exact .inr ⟨x,r,rfl⟩
   .split at h
    .exact up h nd λp d=>.inl d
    .cases h
  .split at h
   .exact up h nd λp d=>.inl d
   .cases h
theorem OR{V:Ev}(h:look V k=none):putK V k d=V++[(k,d)]:=by unfold putK;rw[h];rfl
theorem ZY: ∀ F V ,(F.map (·.1)).Nodup->(∀p∈F,look V p.1=none)->HA V F=V++F
 |[],V,_,_=>by rw[aN];rfl
 |p::F,V,nd,h=>by
  rw[ã,ę]at nd;unfold HA;rw[ħ,OR (h p mF0)];have:=ZY F (V++[(p.1,p.2)]) nd.2 λq a=>by rw[CI,h q (mO _ a)];unfold look;rw[find?_cons,dF0 λz=>nd.1 (by rw[z];exact List.mem_map_of_mem a)];rfl
  unfold HA at this;rw[this,aA];rfl
def Qp{V:Ev}{ts:U0}(h:wN (ts.map (aB V)) cs []=some F):HA V F=V++F:=by
 obtain⟨a,b⟩:=ZX _ _ _ _ h (by simp);refine ZY F V a λp e=>?_;rcases b p e with q|⟨t,ht,x,e1,e2⟩
 .simp at q
 .rw[e2];obtain⟨f,_,rfl⟩:=mM.mp ht;unfold aB at e1;split at e1
  .rename_i y d;split at e1
   .rw[HP]at e1;cases e1
   .rename_i c;rw[d]at e1;cases e1;exact c
  .rename_i c;rw[c]at e1;cases e1
theorem HR: ∀ e b  F G ,wN e b F=some G->mV F->(∀c∈b,VS c)->mV G
 |[],_,F,G,h,hF,_=>by cases h;exact hF
 |t::e,[],F,G,h,hF,_=>by cases h;exact hF
 |t::e,c::b,F,G,h,hF,hc=>by
  have a: ∀c∈b,VS c:=λd i=>hc d (mO _ i);unfold wN at h;split at h
  .rename_i x j;split at h
   .refine HR e b _ G h (λp f=>?_) a;rcases å.mp f with f|f
    .exact hF p f
    .rw[mS.mp f];exact⟨⟨x,rfl⟩,hc c mF0⟩
   .split at h
    .exact HR e b F G h hF a
    .cases h
  .split at h
   .exact HR e b F G h hF a
   .cases h
inductive Pt where
 |same (a b:MV)|quan (ex:Bool) (t:Int) (tms:U0)
def Pt.ex:Pt->Bool
 |.same _ _=>true
 |.quan b _ _=>b
def Pt.tms:Pt->List MV
 |.same a b=>[a,b]
 |.quan _ _ ts=>ts
def Pt.nms(p:Pt):List (List Nat):=p.tms.filterMap vn
abbrev Rw:=Int×List MV
open Classical in
def Bb(rows:List Rw)(E:Ev):Pt->List Ev
 |.same a b=>if aB E a=aB E b then [E]else []
 |.quan _ t tms=>(rows.filter λr=>decide (r.1=t)).filterMap λr=>wN tms r.2 E
open Classical in
theorem pH(rows:List Rw)(E:Ev)(a b:MV):Bb rows E (.same a b)=if aB E a=aB E b then [E]else []:=rfl
theorem pI(rows)(E)(x)(t)(tms):Bb rows E (.quan x t tms)=(rows.filter λr=>decide (r.1=t)).filterMap λr=>wN tms r.2 E:=rfl
noncomputable def hold(rows:List Rw):List Pt->Ev->Bool
 |[],_=>true
 |p::ps,E=>if p.ex=true then(Bb rows E p).any (hold rows ps)else(Bb rows E p).all (hold rows ps)
def zEZ(P:List Nat->Prop)(a E2:Ev):Prop:= ∀x,P x->look a (.str x)=look E2 (.str x)
theorem MA: ∀ a e  b E2 ,zEZ P b E2->(∀t∈a, ∀x,vn t=some x->P x)->(wN a e b=none/\wN a e E2=none)\/ ∃i j,wN a e b=some i/\wN a e E2=some j/\zEZ P i j
 |[],_,b,E2,h,_=>.inr ⟨b,E2,rfl,rfl,h⟩
 |t::a,[],b,E2,h,_=>.inr ⟨b,E2,rfl,rfl,h⟩
 |t::a,c::e,b,E2,h,hP=>by
  have f: ∀t∈a, ∀x,vn t=some x->P x:=λt n=>hP t (mO _ n);unfold wN
  cases m:vn t with
  |some x=>
   dsimp only;rw[h x (hP t mF0 x m)]
   cases look E2 (.str x)with
   |none=>
    dsimp only;refine MA a e _ _ (λy k=>?_) f;rw[CI,CI,h y k]
   |some d=>
    dsimp only;split
    .exact MA a e _ _ h f
    .exact .inl ⟨rfl,rfl⟩
  |none=>
   dsimp only;split
   .exact MA a e _ _ h f
   .exact .inl ⟨rfl,rfl⟩
theorem Qq{E2:Ev}(h:zEZ P E1 E2)(a: ∀x,vn t=some x->P x):aB E1 t=aB E2 t:=by
 unfold aB
 cases b:vn t with
 |some x=>dsimp only;rw[h x (a x b)]
 |none=>rfl
theorem OS: ∀ ps  c E2 ,zEZ P c E2->(∀p∈ps, ∀x∈p.nms,P x)->hold rows ps c=hold rows ps E2
 |[],_,_,_,_=>rfl
 |p::ps,c,E2,h,hP=>by
  have d: ∀p∈ps, ∀x∈p.nms,P x:=λq o=>hP q (mO _ o);have i: ∀t∈p.tms, ∀x,vn t=some x->P x:=λt n x m=>hP p mF0 x (Đ.mpr ⟨t,n,m⟩);unfold hold
  have f:(Bb rows c p).map (hold rows ps)=(Bb rows E2 p).map (hold rows ps):=by
   cases p with
   |same a b=>
    rw[pH,pH,Qq h (i a (by simp[Pt.tms])),Qq h (i b (by simp[Pt.tms]))];by_cases e:aB E2 a=aB E2 b
    .rw[iP e,iP e,ã,ã,OS ps c E2 h d]
    .rw[iN e,iN e]
   |quan ex t tms=>
    rw[pI,pI];generalize rows.filter (λr=>decide (r.1=t))=rs
    induction rs with
    |nil=>rfl
    |cons r rs ih=>
     rcases MA tms r.2 c E2 h i with⟨e1,e2⟩|⟨G1,G2,e1,e2,hg⟩
     .simp only[ą,e1,e2];exact ih
     .simp only[ą,e1,e2,ã];rw[OS ps G1 G2 hg d,ih]
  have j: ∀l:List Ev,l.any (hold rows ps)=(l.map (hold rows ps)).any id:=λl=>by rw[List.any_map];rfl
  have k: ∀l:List Ev,l.all (hold rows ps)=(l.map (hold rows ps)).all id:=λl=>by rw[all_map];rfl
  rw[j,j,k,k,f]
theorem zDP(h:mV E):E.all (λp=>pS p.1)=true:=by rw[õ];intro p a;obtain⟨x,e⟩:=(h p a).1;rw[e];rfl
section
def HS(h:S[l]? =#[E,7])(a:mV E):AQ S #[l,1]=some (l,E):=pG h (zDP a)
theorem MB(h:S[l]? =#[E,7])(a:mV E):vI #[l,1] S=true:=by unfold vI;rw[HS h a];rfl
theorem Qr(h:S[l]? =#[E,7])(a:mV E)(x):DV false (.val (.str x)) #[l,1] S=.ok (.val (.bl (look E (.str x)).isSome)) S:=by unfold DV;dsimp only;rw[HS h a];rfl
theorem X9(h:S[l]? =#[E,7])(b:mV E)(a:look E (.str x)=some d):Ke #[l,1] (.val (.str x)) S=.ok (.val d) S:=by unfold Ke;rw[HS h b];dsimp only;rw[a];rfl
theorem Yo(h:S[l]? =#[E,7])(a:mV E)(x):EH #[l,1] [.val (.str x)] S=.ok (.val ((look E (.str x)).getD .non)) S:=by unfold EH;rw[HS h a];rfl
def Yp(h:S[l]? =#[E,7])(e:mV E)(b:E.length<1000000)(a:look E (.str x)=some d):Da #[l,1] [.val (.str x),.val c] S=.ok (.val d) S:=by show IV _ _ _ S=_;unfold IV;rw[HS h e];dsimp only;rw[iP ⟨rfl,b⟩,a]
def Yq(h:S[l]? =#[E,7])(d:mV E)(b:E.length<1000000)(a:look E (.str x)=none):Da #[l,1] [.val (.str x),.val c] S=.ok (.val c) (S.set l (.dic (E++[(.str x,c)]))):=by show IV _ _ _ S=_;unfold IV;rw[HS h d];dsimp only;rw[iP ⟨rfl,b⟩,a];dsimp only;rw[OR a]
end
def Yr(b:pd d=true)(a:pd e=true)(h:OL d<40):II (.val d) (.val e) S=.ok (.val (.bl (!decide (d=e)))) S:=NC (CC (zR+1) b a (by unfold zR;omega))
def ZZ(a:mV E)(c:jQ t):jQ (aB E t):=by
 rcases c with⟨x,rfl⟩|⟨v,hv,rfl⟩
 .rw[OQ];split
  .rename_i d b;exact .inr ⟨d,HQ a b,rfl⟩
  .exact .inl ⟨x,rfl⟩
 .rw[ZW];exact .inr ⟨v,hv,rfl⟩
def Gy(a:jQ t)(n):lo n t:=KL (KM a).1
def Qs(a:jQ t)(l):t≠.loc l:=λe=>by subst e;rcases a with⟨i,e⟩|⟨x,_,e⟩<;>cases e
theorem Qt(h:S[l]? =#[E,7])(a:mV E)(c:jQ t):zS 2 dO [.val t,#[l,1]] S=.ok (.val (aB E t)) S:=by
 refine sW rfl ?_ (Gy (ZZ a c) _) (Qs (ZZ a c));show yP (AW [some t,#[l]] S)=_;unfold AW;rcases c with⟨x,rfl⟩|⟨v,hv,rfl⟩
 .rw[OQ]
  cases z:look E (.str x)with
  |some d=>
   have b:kP [#[[.str JF,.str x],3],#[l]] S=.ok (.ret #[[.str IS,d],6]) S:=by unfold kP;simp? [CF,tL,TF,Qr h a,z,Option.isSome,X9 h a z]
   rw[cT b];rfl
  |none=>
   have b:kP [#[[.str JF,.str x],3],#[l]] S=.ok (.next [#[[.str JF,.str x],3],#[l]]) S:=by unfold kP;simp? [CF,tL,TF,Qr h a,z,Option.isSome,fT,iF]
   rw[zE b];rfl
 .rw[ZW];have b:kP [#[[.str IS,v],3],#[l]] S=.ok (.next [#[[.str IS,v],3],#[l]]) S:=by unfold kP;simp? [CF,tL,Gg,fT,iF]
  rw[zE b];rfl
noncomputable abbrev FT(lt:Nat)(cs:U0)(n:Nat)(a b c:V0):Rho:=[#[lt],#[cs,3],#[n],a,b,c]
def Ys(s:jQ t)(q:VS c)(h:mV E)(u:E.length<1000)(o):
  (∃F e,(∀b f,wN (t::b) (c::f) E=wN b f F)/\mV F/\F.length<=E.length+1/\bF (FT lt cs0 ↑0 (some t) (some c) o) (S++[.dic E])=.ok (.next (FT lt cs0 ↑0 (some t) (some c) (some e))) (S++[.dic F]))\/
  ((∀b f,wN (t::b) (c::f) E=none)/\bF (FT lt cs0 ↑0 (some t) (some c) o) (S++[.dic E])=.ok (.ret (.val .non)) (S++[.dic E])):=by
 have m:(S++[.dic E])[↑0]? =#[E,7]:=zM _ _
 have n: ∀(d:MV)(k:Ev),VS d->rK (FT lt cs0 ↑0 (some t) (some c) (some d)) (S++[.dic k])=if d=c then .ok (.next (FT lt cs0 ↑0 (some t) (some c) (some d))) (S++[.dic k])else .ok (.ret (.val .non)) (S++[.dic k]):=λd k r=>by
  unfold rK;simp? [Yr (lU r).1 (lU q).1 (lU r).2];by_cases a:d=c
  .rw[dT0 a,iP a];rfl
  .rw[dF0 a,iN a];rfl
 unfold bF;rcases s with⟨x,rfl⟩|⟨v,hv,rfl⟩
 .cases z:look E (.str x)with
  |none=>
   have i:kQ (FT lt cs0 ↑0 #[[.str JF,.str x],3] (some c) o) (S++[.dic E])=.ok (.next (FT lt cs0 ↑0 #[[.str JF,.str x],3] (some c) (some c))) (S++[.dic (E++[(.str x,c)])]):=by unfold kQ;simp? [CF,tL,TF,MB m h,Yq m h (show E.length<1000000 by omega) z,kL]
   refine .inl ⟨E++[(.str x,c)],c,λb f=>by rw[qS,z],λp j=>?_,by simp,?_⟩
   .rcases å.mp j with j|j
    .exact h p j
    .rw[mS.mp j];exact⟨⟨x,rfl⟩,q⟩
   .rw[zE i,n c _ q,iP rfl]
  |some d=>
   have i:kQ (FT lt cs0 ↑0 #[[.str JF,.str x],3] (some c) o) (S++[.dic E])=.ok (.next (FT lt cs0 ↑0 #[[.str JF,.str x],3] (some c) (some d))) (S++[.dic E]):=by unfold kQ;simp? [CF,tL,TF,MB m h,Yp m h (show E.length<1000000 by omega) z]
   rw[zE i,n d _ (HQ h z)];by_cases a:d=c
   .exact .inl ⟨E,d,λb f=>by rw[qS,z];exact iP a,h,by omega,by rw[iP a]⟩
   .exact .inr ⟨λb f=>by rw[qS,z];exact iN a,by rw[iN a]⟩
 .have i:kQ (FT lt cs0 ↑0 #[[.str IS,v],3] (some c) o) (S++[.dic E])=.ok (.next (FT lt cs0 ↑0 #[[.str IS,v],3] (some c) (some v))) (S++[.dic E]):=by unfold kQ;simp? [CF,tL,Gg,fT,iF]
  rw[zE i,n v _ hv];by_cases a:v=c
  .exact .inl ⟨E,v,λb f=>by rw[FP,iP a],h,by omega,by rw[iP a]⟩
  .exact .inr ⟨λb f=>by rw[FP,iN a],by rw[iN a]⟩
theorem Qu(m:S[lt]? =#[ts0,2]): ∀ f h  E  a b c ,(∀t∈f,jQ t)->(∀c∈h,VS c)->mV E->E.length+f.length<1000->
  (∃F p n q,wN f h E=some F/\kZ (KB 2 (zV (yX 3) (zV (yX 4) gV))) bF [(lt,ts0)] (pairs f h) (FT lt cs0 ↑0 a b c) (S++[.dic E])=.ok (.next (FT lt cs0 ↑0 p n q)) (S++[.dic F]))\/
  (wN f h E=none/\ ∃j,kZ (KB 2 (zV (yX 3) (zV (yX 4) gV))) bF [(lt,ts0)] (pairs f h) (FT lt cs0 ↑0 a b c) (S++[.dic E])=.ok (.ret (.val .non)) (S++[.dic j]))
 |[],h,E,a,b,c,_,_,_,_=>.inl ⟨E,a,b,c,rfl,rfl⟩
 |t::f,[],E,a,b,c,_,_,_,_=>.inl ⟨E,a,b,c,rfl,rfl⟩
 |t::f,d::h,E,a,b,c,ht,hc,hE,hz=>by
  rw[lC]at hz;have o:KB 2 (zV (yX 3) (zV (yX 4) gV)) (.tup [t,d]) (FT lt cs0 ↑0 a b c) (S++[.dic E])=.ok (FT lt cs0 ↑0 (some t) (some d) c) (S++[.dic E]):=rfl;have k: ∀j:Ev,stay [(lt,ts0)] (S++[.dic j]):=λj=>xP (by rw[á (gS.mp m).1];exact m);rcases Ys (S:=S) (lt:=lt) (cs0:=cs0) (ht t mF0) (hc d mF0) hE (by omega) c with⟨F,e,h1,h2,h3,h4⟩|⟨h1,h4⟩
  .show(∃F p n q,_/\kZ _ _ _ (.tup [t,d]::pairs f h) _ _=_)\/(_/\ ∃j,kZ _ _ _ (.tup [t,d]::pairs f h) _ _=_)
   rw[zZ o h4 (k F),h1];exact Qu m f h F (some t) (some d) (some e) (λt i=>ht t (mO _ i)) (λt i=>hc t (mO _ i)) h2 (by omega)
  .refine .inr ⟨h1 f h,E,?_⟩;show kZ _ _ _ (.tup [t,d]::pairs f h) _ _=_;rw[UT o h4]
def WG:mV []:=λp h=>by simp at h
def zDQ(f:S[lt]? =#[ts,2])(k: ∀t∈ts,jQ t)(m: ∀c∈cs,VS c)(n:ts.length<900):
  zS 2 mU [#[lt,1],#[cs,6]] S=match wN ts cs []with |some F=>.ok #[S.length,1] (S++[.dic F])|none=>.ok (.val .non) S:=by
 have j:BA [#[lt],#[cs,3],none,none,none,none] S=.ok (.next (FT lt cs ↑0 none none none)) (S++[.dic []]):=by unfold BA;simp? [RZ]
 have h:(S++[.dic []])[lt]? =#[ts,2]:=by rw[á (gS.mp f).1];exact f
 have d:zCT [#[lt,1],#[cs,6]] (S++[.dic []])=.ok ⟨pairs ts cs,[(lt,ts)]⟩ (S++[.dic []]):=by unfold zCT srcOf;dsimp only;rw[h];rfl
 have i:BB (FT lt cs ↑0 none none none) (S++[.dic []])=kZ (KB 2 (zV (yX 3) (zV (yX 4) gV))) bF [(lt,ts)] (pairs ts cs) (FT lt cs ↑0 none none none) (S++[.dic []]):=by unfold BB;simp? [d]
 rcases Qu (cs0:=cs) f ts cs [] none none none k m WG (by simp only[ç];omega)with⟨F,a,b,c,h1,h2⟩|⟨h1,E',h2⟩
 .rw[h1];dsimp only;have e:mU [.loc lt,.tup cs] S=.ok #[↑0,1] (S++[.dic F]):=by show yP (tD [#[lt],#[cs,3],none,none,none,none] S)=_;unfold tD;rw[zE j,zE (i.trans h2)];rfl
  exact OP (T:=[]) rfl e
 .rw[h1];dsimp only;have e:mU [.loc lt,.tup cs] S=.ok (.val .non) (S++[.dic E']):=by show yP (tD [#[lt],#[cs,3],none,none,none,none] S)=_;unfold tD;rw[zE j,cT (i.trans h2)];rfl
  exact mZ (T:=[.dic E']) rfl e (UR _) (λl=>by simp)
noncomputable abbrev OT:List Nat:=[115,97,109,101]
noncomputable abbrev Y1:List Nat:=[101,97,99,104]
noncomputable abbrev SOME:List Nat:=[115,111,109,101]
noncomputable abbrev YES:List Nat:=[121,101,115]
def Ts:Pt->List Nat
 |.same _ _=>OT
 |.quan true _ _=>SOME
 |.quan false _ _=>Y1
def pM(p:Pt)(q:MV):MV:=match p with
 |.same a b=>.tup [.str OT,a,b,q]
 |.quan x t tms=>.tup [.str (Ts (.quan x t tms)),.int t,.tup tms,q]
def CK(p:Pt):Prop:=(∀t∈p.tms,jQ t)/\p.tms.length<=100
def Dcs(d:Nat)(S:Sto):List MV->List Ev->Prop
 |[],[]=>True
 |w::ws,G::Gs=>(∃e,w=.loc e/\e≠d/\S[e]? =#[G,7]/\mV G)/\Dcs d S ws Gs
 |_,_=>False
theorem Dcs.mono(f: ∀l o,S[l]? =#[o,7]->l≠d->S'[l]? =#[o,7]): ∀{ws}{Gs},Dcs d S ws Gs->Dcs d S' ws Gs
 |[],[],_=>trivial
 |_::_,_::_,⟨⟨e,h1,h2,h3,h4⟩,t⟩=>⟨⟨e,h1,h2,f e _ h3 h2,h4⟩,Dcs.mono f t⟩
 |[],_::_,h=>h.elim
 |_::_,[],h=>h.elim
theorem Dcs.snoc(h:e≠d/\S[e]? =#[G,7]/\mV G): ∀{ws}{Gs},Dcs d S ws Gs->Dcs d S (ws++[.loc e]) (Gs++[G])
 |[],[],_=>⟨⟨e,rfl,h⟩,trivial⟩
 |_::_,_::_,⟨a,t⟩=>⟨a,Dcs.snoc h t⟩
 |[],_::_,h=>h.elim
 |_::_,[],h=>h.elim
theorem Dcs.last: ∀{ws}{Gs},Dcs d S (ws++[w]) Gs-> ∃b G e,Gs=b++[G]/\Dcs d S ws b/\w=.loc e/\e≠d/\S[e]? =#[G,7]/\mV G
 |[],[G],⟨⟨e,h⟩,_⟩=>⟨[],G,e,rfl,trivial,h⟩
 |[],[],h=>h.elim
 |[],_::_::_,⟨_,h⟩=>h.elim
 |_::_,[],h=>h.elim
 |x::ws,G::Gs,⟨a,t⟩=>by obtain⟨b,i,e,j,c,f⟩:=Dcs.last t;exact⟨G::b,i,e,by rw[j];rfl,⟨a,c⟩,f⟩
def Dcs.len: ∀{ws}{Gs},Dcs d S ws Gs->ws.length=Gs.length
 |[],[],_=>rfl
 |_::_,_::_,⟨_,t⟩=>by rw[lC,lC,t.len]
 |[],_::_,h=>h.elim
 |_::_,[],h=>h.elim
open Classical in
theorem Km{n:Nat}{F:List MV->Sto->R Er}{rs:List Er}{S T:Sto}{l:Nat}{ds:U0}(a:rs.length=n)(b:F (zP rs S).1 (zP rs S).2=.ok #[l,1] (S++T))(d:↑0<=l)(c:(S++T)[l]? =#[ds,2]):
  zS n F rs S=if sK ↑0 ds then .ok (.new ds) S else .ok #[l,1] (S++T):=by
 unfold zS;rw[iP a,b];show bY S #[l,1] (S++T)=_;unfold bY;rw[iP GQ];dsimp only;rw[iN (by omega),c];dsimp only;split
 .rw[List.take_left'];rfl
 .rfl
noncomputable abbrev Zs(S:Sto)(ts ws:U0)(T:Sto):Sto:=S++.lst ts::.lst ws::T
def zs_0(S)(ts ws)(T):(Zs S ts ws T)[↑0]? =#[ts,2]:=by simp[Zs]
def Yt(S)(ts ws)(T):(Zs S ts ws T)[↑0+1]? =#[ws,2]:=by simp[Zs]
def Qv(S)(ts ws ws')(T):(Zs S ts ws T).set (↑0+1) (.lst ws')=Zs S ts ws' T:=by simp[Zs]
def WH{k:Nat}(h:S[k]? =some o)(ts ws)(T):(Zs S ts ws T)[k]? =some o:=by rw[á (gS.mp h).1];exact h
def WI(S)(ts ws)(T U):Zs S ts ws T++U=Zs S ts ws (T++U):=by simp[Zs]
def Y2{l:Nat}(h:(Zs S ts ws T)[l]? =#[o,7]):(Zs S ts ws' (T++U))[l]? =#[o,7]:=by
 by_cases e:l=↑0+1
 .subst e;rw[Yt]at h;cases h
 .have a:((Zs S ts ws T).set (↑0+1) (.lst ws'))[l]? =#[o,7]:=by rw[zQ (Ne.symm e)];exact h
  rw[Qv]at a;rw[<-WI,á (gS.mp a).1];exact a
noncomputable abbrev WY(p:MV)(lc le n:Nat)(a b c:V0):Rho:=[some p,#[lc],#[le],#[n],#[n+1],a,b,c]
def Y3(h:S[l]? =#[E,7])(a:mV E):Kc [#[l,1]] S=.ok #[↑0,1] (S++[.dic E]):=by unfold Kc;dsimp only;rw[HS h a]
def Y4(h:S[l]? =#[E,7])(c:mV E)(h':S[m]? =#[F,7])(b:mV F)(a:l≠m)(d:E.length+F.length<1000000):EF #[l,1] [#[m,1]] S=.ok (.val .non) (S.set l (.dic (HA E F))):=by unfold EF;dsimp only;rw[HS h c,HS h' b];dsimp only;rw[iP ⟨a,d⟩]
theorem HU: ∀ a b  F G ,wN a b F=some G->G.length<=F.length+a.length
 |[],_,F,G,h=>by cases h;simp
 |t::a,[],F,G,h=>by cases h;simp
 |t::a,c::b,F,G,h=>by
  rw[lC];unfold wN at h;split at h
  .split at h
   .have:=HU a b _ G h;rw[lA,lS]at this;omega
   .split at h
    .have:=HU a b F G h;omega
    .cases h
  .split at h
   .have:=HU a b F G h;omega
   .cases h
section
def Yu(h:S[le]? =#[E,7])(k:mV E)(X:E.length<=1000)(L: ∀t∈tms,jQ t)(Y:tms.length<=100)(hd:d<↑0)(s: ∀c∈cs,VS c)(K:Dcs d (Zs S (tms.map (aB E)) ws T) ws Gs)(hw:ws.length<1000)(b c):
  ∃a M P c',qB (WY p lc le ↑0 #[cs,3] b c) (Zs S (tms.map (aB E)) ws T)=.ok (.next (WY p lc le ↑0 #[cs,3] P c')) (Zs S (tms.map (aB E)) a M)/\
   Dcs d (Zs S (tms.map (aB E)) a M) a (Gs++(wN tms cs E).toList)/\(∀w∈a,w∈ws\/ ∃e,w=.loc e/\↑0<=e):=by
 obtain⟨Z,f⟩: ∃Z,Z=Zs S (tms.map (aB E)) ws T:=⟨_,rfl⟩
 have A:Z[↑0]? =#[tms.map (aB E),2]:=by rw[f];exact zs_0 _ _ _ _
 have r:=zDQ (S:=Z) (cs:=cs) A (λt Q=>by obtain⟨u,q,rfl⟩:=mM.mp Q;exact ZZ k (L u q)) s (by rw[lM];omega);have i:=Qo (V:=E) (cs:=cs) L;unfold qB
 cases z:wN (tms.map (aB E)) cs []with
 |none=>
  rw[z]at r i;rw[i];have B:cK (WY p lc le ↑0 #[cs,3] b c) Z=.ok (.next (WY p lc le ↑0 #[cs,3] (some .non) c)) Z:=by unfold cK;simp? [r]
  have D:cL (WY p lc le ↑0 #[cs,3] (some .non) c) Z=.ok (.next (WY p lc le ↑0 #[cs,3] (some .non) c)) Z:=by unfold cL;simp? [NB,fT,iF]
  refine⟨ws,T,some .non,c,?_,by simpa using K,λw hw=>.inl hw⟩;rw[<-f,zE B,D]
 |some F=>
  rw[z]at r i;rw[i];have y:mV F:=HR _ _ _ _ z WG s;have W:mV (E++F):=HR tms cs E _ (by rw[i];rfl) k s;have v:=HU _ _ _ _ z;rw[ç,lM]at v;have B:cK (WY p lc le ↑0 #[cs,3] b c) Z=.ok (.next (WY p lc le ↑0 #[cs,3] #[Z.length] c)) (Z++[.dic F]):=by unfold cK;simp? [r]
  have m:Z[le]? =#[E,7]:=by rw[f];exact WH h _ _ _
  have n:(Z++[.dic F])[le]? =#[E,7]:=by rw[á (gS.mp m).1];exact m
  have H:((Z++[MO.dic F])++[MO.dic E])[Z.length+1]? =#[E,7]:=by have:=zM (Z++[.dic F]) (.dic E);rw[lA,lS]at this;exact this
  have N:((Z++[MO.dic F])++[MO.dic E])[Z.length]? =#[F,7]:=by rw[aA];exact JG _ _ _
  have O:((Z++[MO.dic F])++[MO.dic E]).set (Z.length+1) (.dic (E++F))=Z++[.dic F,.dic (E++F)]:=by have:=kL (Z++[.dic F]) (.dic E) (.dic (E++F));rw[lA,lS]at this;rw[this,aA];rfl
  have q:=Y4 H k N y (by omega) (by omega);rw[Qp z,O]at q;have J:(Z++[MO.dic F,MO.dic (E++F)])[↑0+1]? =#[ws,2]:=by rw[f,WI];exact Yt _ _ _ _
  have I:(Z++[MO.dic F,MO.dic (E++F)]).set (↑0+1) (.lst (ws++[.loc (Z.length+1)]))=Zs S (tms.map (aB E)) (ws++[.loc (Z.length+1)]) (T++[.dic F,.dic (E++F)]):=by rw[f,WI,Qv]
  have j:=jE (d:=.loc (Z.length+1)) J (by omega);rw[I]at j;have G:(Z++[MO.dic F]).length=Z.length+1:=by rw[lA,lS]
  have C: ∀S',NB #[Z.length,1] (.val .non) S'=.ok (.val (.bl true)) S':=λ_=>rfl;have D:cL (WY p lc le ↑0 #[cs,3] #[Z.length] c) (Z++[.dic F])=.ok (.next (WY p lc le ↑0 #[cs,3] #[Z.length] #[Z.length+1])) (Zs S (tms.map (aB E)) (ws++[.loc (Z.length+1)]) (T++[.dic F,.dic (E++F)])):=by unfold cL;simp? [C];rw[zE (F:=CJ (bJ (yJ (vJ 2) wJ) Kc) 7) (ρ':=WY p lc le ↑0 #[cs,3] #[Z.length] #[Z.length+1]) (S':=(Z++[.dic F])++[.dic E]) (by simp? [Y3 n k,G])];rw[zE (F:=BJ (eJ vI EF (vJ 7) (yJ (vJ 6) wJ))) (ρ':=WY p lc le ↑0 #[cs,3] #[Z.length] #[Z.length+1]) (S':=Z++[.dic F,.dic (E++F)]) (by simp? [MB H k,q])];simp? [xI J,j]
  refine⟨ws++[.loc (Z.length+1)],T++[.dic F,.dic (E++F)],_,_,by rw[<-f,zE B,D],?_,λw hw=>?_⟩
  .refine Dcs.snoc ⟨?_,?_,W⟩ (K.mono λl o U _=>Y2 U)
   .have:↑0<=Z.length:=by rw[f];simp
    omega
   .rw[<-I,zQ (by rw[f];simp only[lA,lC];omega)];have:=zM (Z++[.dic F]) (.dic (E++F));rw[G,aA]at this;exact this
  .rcases å.mp hw with hw|hw
   .exact .inl hw
   .exact .inr ⟨Z.length+1,mS.mp hw,by rw[f];simp only[lA,lC];omega⟩
theorem Qw(h:S[le]? =#[E,7])(B:mV E)(n:E.length<=1000)(F: ∀t∈tms,jQ t)(o:tms.length<=100)(D:d<↑0)(j: ∀q∈gs,S[q.1]? =#[q.2,2]): ∀(rs:List Rw),(∀r∈rs, ∀c∈r.2,VS c)-> ∀ f  s  T  a b c ,Dcs d (Zs S (tms.map (aB E)) f T) f s->f.length+rs.length<1000->(∀w∈f, ∃e,w=.loc e/\↑0<=e)->
  ∃i H Q M c',kZ (yX 5) qB gs (rs.map λr=>.tup r.2) (WY p lc le ↑0 a b c) (Zs S (tms.map (aB E)) f T)=.ok (.next (WY p lc le ↑0 Q M c')) (Zs S (tms.map (aB E)) i H)/\
   Dcs d (Zs S (tms.map (aB E)) i H) i (s++rs.filterMap λr=>wN tms r.2 E)/\(∀w∈i, ∃e,w=.loc e/\↑0<=e)
 |[],_,f,s,T,a,b,c,hD,_,hw=>⟨f,T,a,b,c,rfl,by simpa using hD,hw⟩
 |r::rs,hr,f,s,T,a,b,c,hD,hl,hw=>by
  rw[lC]at hl;obtain⟨k,U,N,K,Z,A,O⟩:=Yu (p:=p) (lc:=lc) h B n F o D (hr r mF0) hD (by omega) b c
  have C:k.length<=f.length+1:=by
   have X:=A.len;have e2:=hD.len;rw[lA]at X;have:(wN tms r.2 E).toList.length<=1:=by cases wN tms r.2 E<;>simp
   omega
  obtain⟨v,W,L,I,J,Y,m,P⟩:=Qw h B n F o D j rs (λr u=>hr r (mO _ u)) k _ U #[r.2,3] N K A (by omega) (λw y=>(O w y).elim (hw w) id);refine⟨v,W,L,I,J,?_,?_,P⟩
  .rw[ã,zZ (show yX 5 (.tup r.2) (WY p lc le ↑0 a b c) (Zs S (tms.map (aB E)) f T)=.ok (WY p lc le ↑0 #[r.2,3] b c) (Zs S (tms.map (aB E)) f T)from rfl) Z (λq hq=>WH (j q hq) _ _ _)];exact Y
  .rw[ą];rw[aA]at m
   cases z:wN tms r.2 E with
   |none=>rw[z]at m;exact m
   |some G=>rw[z]at m;exact m
end
structure COk(S:Sto)(lc:Nat)(rows:List Rw):Prop where
 ex: ∃C:Ev,S[lc]? =#[C,7]/\C.all (λp=>pS p.1)=true/\ ∀t:Int,(look C (.int t)=none/\(rows.filter λr=>decide (r.1=t))=[])\/ ∃q,look C (.int t)=#[q]/\S[q]? =some (.lst ((rows.filter λr=>decide (r.1=t)).map λr=>.tup r.2))
def zFA(rows:List Rw):Prop:=(∀r∈rows, ∀c∈r.2,VS c)/\rows.length<=100
theorem Y5(a b c e)(S):xK #[[a,b,c,e],6] #[0,5] S=.ok (.val a) S:=rfl
theorem i4_1(a b c e)(S):xK #[[a,b,c,e],6] #[1,5] S=.ok (.val b) S:=rfl
theorem zDR(a b c e)(S):xK #[[a,b,c,e],6] #[2,5] S=.ok (.val c) S:=rfl
theorem Y6(p)(q)(S):xK (.val (pM p q)) #[0,5] S=.ok (.val (.str (Ts p))) S:=by cases p<;>rfl
theorem pM_m(p)(q)(S):xK (.val (pM p q)) #[-1,5] S=.ok (.val q) S:=by cases p<;>rfl
theorem E6:decide (Ts (.quan x t tms)=OT)=false:=by cases x<;>rfl
def Qx: ∀{ws},sK n ws->(∀w∈ws, ∃e,w=.loc e/\n<=e)->ws=[]
 |[],_,_=>rfl
 |w::ws,h,hw=>by obtain⟨e,rfl,a⟩:=hw w mF0;unfold sK lo at h;omega
def zDS(v:CK p)(h:S[le]? =#[E,7])(s:mV E)(J:E.length<=1000)(hC:COk S lc rows)(Z:zFA rows)(hd:d<↑0)(K:le≠d):
  ∃r e T,zS 3 aR [.val (pM p q),#[lc,1],#[le,1]] S=.ok r (S++T)/\Dcs d (S++T) e (Bb rows E p)/\(r=.new e\/ ∃w,r=#[w,1]/\↑0<=w/\(S++T)[w]? =#[e,2]):=by
 have z:=(gS.mp h).1
 cases p with
 |same a b=>
  have ha:=Qt h s (v.1 a (by simp[Pt.tms]));have hb:=Qt h s (v.1 b (by simp[Pt.tms]));have pa:=KM (ZZ s (v.1 a (by simp[Pt.tms])));have pb:=KM (ZZ s (v.1 b (by simp[Pt.tms])));rw[pH]
  have N: ∀o,fW (#[[.str OT,a,b,q],3]::#[lc]::#[le]::o) S=.ok (.ret (.new (if aB E a=aB E b then [.loc le]else []))) S:=λo=>by
   unfold fW;simp? [Y5,i4_1,zDR,eq_str,č,ha,hb,Gf pa.1 pb.1 (by omega)];by_cases k:aB E a=aB E b
   .rw[dT0 k,iP k];simp? []
   .rw[dF0 k,iN k];simp? [fT,iF]
  have L:aR [.tup [.str OT,a,b,q],.loc lc,.loc le] S=.ok (.new (if aB E a=aB E b then [.loc le]else [])) (S++[]):=by show yP (tE [#[[.str OT,a,b,q],3],#[lc],#[le],none,none,none,none,none] S)=_;unfold tE;rw[cT (N _),aN];rfl
  have i:sK ↑0 (if aB E a=aB E b then [.loc le]else []):=by
   split
   .exact kO λx Q=>by rw[mS.mp Q];exact R8 z
   .exact kO λx Q=>by simp at Q
  refine⟨_,_,[],by rw[aN];exact cI (T:=[]) rfl L i,?_,.inl rfl⟩;rw[aN];by_cases k:aB E a=aB E b
  .rw[iP k,iP k];exact⟨⟨le,rfl,K,h,s⟩,trivial⟩
  .rw[iN k,iN k];trivial
 |quan x t tms=>
  obtain⟨C,c1,c2,c3⟩:=hC;have W:=v.1;have M:tms.length<=100:=v.2;have W: ∀t∈tms,jQ t:=v.1;obtain⟨P,B⟩: ∃P,P=pM (.quan x t tms) q:=⟨_,rfl⟩
  have Y:=λS=>Y6 (.quan x t tms) q S;have P1: ∀S,xK (.val P) #[1,5] S=.ok #[t,5] S:=λS=>by rw[B];rfl
  have P2: ∀S,xK (.val P) #[2,5] S=.ok #[tms,6] S:=λS=>by rw[B];rfl
  rw[<-B]at Y;have N: ∀o,fW (some P::o) S=.ok (.next (some P::o)) S:=λo=>by unfold fW;simp? [Y,eq_str,E6,fT,iF]
  have e2:BD [some P,#[lc],#[le],none,none,none,none,none] S=.ok (.next [some P,#[lc],#[le],#[↑0],none,none,none,none]) (S++[.lst (tms.map (aB E))]):=by
   unfold BD
   have hc:xM (yX 0) rM cJ (vN 1 [2] [some P,#[lc],#[le],none,none,none,none,none]) [] tms S=.ok (tms.map (aB E)) S:=by
    have X:=gN (f:=id) (g:=aB E) (gf:=yX 0) (cf:=rM) (ef:=cJ) (ρb:=vN 1 [2] [some P,#[lc],#[le],none,none,none,none,none]) (gs:=[]) (ds:=tms) (kG S) λu hu=>⟨_,rfl,rfl,by show cJ [some u,#[le]] S=_;unfold cJ;simp? [Qt h s (W u hu)]⟩
    rw[List.map_id]at X;exact X
   simp? [P2,ON,show tms.length<1000000 by omega,hc]
  have e3:BE [some P,#[lc],#[le],#[↑0],none,none,none,none] (S++[.lst (tms.map (aB E))])=.ok (.next (WY P lc le ↑0 none none none)) (Zs S (tms.map (aB E)) [] []):=by unfold BE;simp? [];rw[lA,aA];rfl
  have I:(Zs S (tms.map (aB E)) [] [])[lc]? =#[C,7]:=WH c1 _ _ _;have m:AQ (Zs S (tms.map (aB E)) [] []) #[lc,1]=some (lc,C):=pG I c2;have G:vI #[lc,1] (Zs S (tms.map (aB E)) [] [])=true:=by unfold vI;rw[m];rfl
  have O: ∀r∈rows.filter (λr=>decide (r.1=t)), ∀c∈r.2,VS c:=λr hr=>Z.1 r (ñ.mp hr).1;have aa:(rows.filter λr=>decide (r.1=t)).length<=100:=ì (Ĉ _ _) Z.2
  have A: ∀{gs:Y0}{g:Er},(∀q∈gs,S[q.1]? =#[q.2,2])->EH #[lc,1] [#[t,5],.new []] (Zs S (tms.map (aB E)) [] [])=.ok g (Zs S (tms.map (aB E)) [] [])->vM g (Zs S (tms.map (aB E)) [] [])=.ok ⟨(rows.filter λr=>decide (r.1=t)).map λr=>.tup r.2,gs⟩ (Zs S (tms.map (aB E)) [] [])->
    ∃r e T,zS 3 aR [.val P,#[lc,1],#[le,1]] S=.ok r (S++T)/\Dcs d (S++T) e (Bb rows E (.quan x t tms))/\(r=.new e\/ ∃w,r=#[w,1]/\↑0<=w/\(S++T)[w]? =#[e,2]):=λF y D=>by
   obtain⟨e,T,a,b,c,g1,H,g3⟩:=Qw (p:=P) (lc:=lc) (d:=d) h s J W M hd F _ O [] [] [] none none none trivial (by simp only[ç];omega) (λw hw=>by simp at hw);rw[Ě, <-pI rows E x t tms]at H;have e4:BF (WY P lc le ↑0 none none none) (Zs S (tms.map (aB E)) [] [])=.ok (.next (WY P lc le ↑0 a b c)) (Zs S (tms.map (aB E)) e T):=by unfold BF;simp? [G,P1,y,D];exact g1
   have L:aR [P,.loc lc,.loc le] S=.ok #[↑0+1,1] (Zs S (tms.map (aB E)) e T):=by show yP (tE [some P,#[lc],#[le],none,none,none,none,none] S)=_;unfold tE;rw[zE (N _),zE e2,zE e3,zE e4];rfl
   have j:=Km (S:=S) (rs:=[.val P,#[lc,1],#[le,1]]) (n:=3) rfl L (le_succ _) (Yt _ _ _ _);by_cases i:sK ↑0 e
   .rw[iP i]at j;have hn:=Qx i g3;subst hn;refine⟨_,[],[],by rw[aN];exact j,?_,.inl rfl⟩;have:=H.len;have:Bb rows E (.quan x t tms)=[]:=ĝ.mp (by rw[<-this];rfl);rw[this];trivial
   .rw[iN i]at j;exact⟨_,e,_,j,H,.inr ⟨_,rfl,le_succ _,Yt _ _ _ _⟩⟩
  rw[<-B];rcases c3 t with⟨k1,k2⟩|⟨qq,k1,k2⟩
  .refine A (gs:=[]) (g:=.new []) (λq U=>by simp at U) ?_ ?_
   .unfold EH;rw[m];dsimp only;rw[k1];rfl
   .rw[k2];rfl
  .refine A (gs:=[(qq,(rows.filter λr=>decide (r.1=t)).map λr=>.tup r.2)]) (g:=#[qq,1]) (λq U=>by rw[mS.mp U];exact k2) ?_ ?_
   .unfold EH;rw[m];dsimp only;rw[k1];rfl
   .exact kE (WH k2 _ _ _)
def fM:List Pt->MV
 |[]=>.tup [.str YES]
 |p::ps=>pM p (fM ps)
def KO:List Pt->List MV
 |[]=>[]
 |p::ps=>pM p (fM ps)::KO ps
theorem WJ: ∀{ps}{i}{p},ps[i]? =some p->(KO ps)[i]? =some (pM p (fM (ps.drop (i+1))))
 |[],_,_,h=>by simp at h
 |q::ps,0,p,h=>by cases h;rfl
 |q::ps,i+1,p,h=>WJ (ps:=ps) (i:=i) (by simpa using h)
theorem MC: ∀ps:List Pt,(KO ps).length=ps.length
 |[]=>rfl
 |_::ps=>by unfold KO;rw[lC,lC,MC ps]
def Ko(ps:List Pt):List (List Nat):=bU [] (ps.flatMap Pt.nms)
def Yv:x∈Ko ps↔ ∃p∈ps,x∈p.nms:=by unfold Ko;rw[cP,mem_flatMap];simp
theorem Gz: ∀{ps:List Pt},(∀p∈ps,CK p)->(ps.flatMap Pt.nms).length<=100 * ps.length
 |[],_=>by simp
 |p::ps,h=>by rw[flatMap_cons,lA,lC];have d:=Gz (ps:=ps) λq a=>h q (mO _ a);have b:p.nms.length<=p.tms.length:=ċ _ _;have c:=(h p mF0).2;omega
def Yw(h: ∀p∈ps,CK p):(Ko ps).length<=100 * ps.length:=by have:=bM (ps.flatMap Pt.nms) [];have:=Gz h;unfold Ko;simp only[ç]at *;omega
def vls(ps:List Pt)(E:Ev):List MV:=(Ko ps).map λx=>(look E (.str x)).getD .non
def bN(ps:List Pt)(i:Nat)(E:Ev):MV:=.tup [zH i,.tup (vls (ps.drop i) E)]
def Qy(c: ∀d,a=some d->VS d)(f: ∀d,b=some d->VS d)(h:a.getD .non=b.getD .non):a=b:=by
 cases a with
 |none=>
  cases b with
  |none=>rfl
  |some d=>rcases f d rfl with⟨i,rfl⟩|⟨i,rfl⟩<;>cases h
 |some d=>
  cases b with
  |none=>rcases c d rfl with⟨i,rfl⟩|⟨i,rfl⟩<;>cases h
  |some e=>exact congrArg some h
theorem OU{α β:Type}{f g:α->β}: ∀{l:List α},l.map f=l.map g-> ∀x∈l,f x=g x
 |[],_,x,h=>by simp at h
 |y::l,e,x,h=>by
  rw[ã,ã]at e;obtain⟨b,a⟩:=List.cons.inj e;rcases mC.mp h with rfl|h
  .exact b
  .exact OU a x h
def Qz(k:mV E)(b:mV E')(h:bN ps i E=bN ps j E'):hold rows (ps.drop i) E=hold rows (ps.drop j) E':=by unfold bN at h;obtain⟨f,e⟩:=List.cons.inj (MV.tup.inj h);have f:=LW f;subst f;have e:=MV.tup.inj (List.cons.inj e).1;refine OS (P:=λx=>x∈Ko (ps.drop i)) _ _ _ (λx c=>?_) λp m x c=>Yv.mpr ⟨p,m,c⟩;exact Qy (λd a=>HQ k a) (λd a=>HQ b a) (OU e x c)
def zDT(h:VS d\/d=.non): ∃k,kN d=some (.key k):=by
 rcases h with(⟨i,rfl⟩|⟨x,rfl⟩)|rfl
 .exact⟨_,fS i⟩
 .exact⟨_,oB x⟩
 .exact⟨_,NF⟩
theorem Ra: ∀{ds},(∀d∈ds,VS d\/d=.non)-> ∃a,bX ds=some a/\vS a=0
 |[],_=>⟨[],sY,by rw[vS]⟩
 |d::ds,h=>by obtain⟨k,c⟩:=zDT (h d mF0);obtain⟨a,i,b⟩:=Ra λe f=>h e (mO _ f);refine⟨.key k::a,by rw[dC,c,i];rfl,?_⟩;rw[mX,b,qZ];rfl
def Y7(a:mV E): ∀d∈vls ps E,VS d\/d=.non:=λd b=>by
 obtain⟨x,_,rfl⟩:=mM.mp b
 cases z:look E (.str x)with
 |none=>exact .inr rfl
 |some e=>exact .inl (HQ a z)
def WK(a:mV E):keyOk (bN ps i E)=true:=by obtain⟨d,c,b⟩:=Ra (Y7 (ps:=ps.drop i) a);unfold keyOk bN;rw[fU,dC,dC,fS,fU,c,sY];show(true&&decide (qZ _<=4))=true;rw[Bool.true_and,decide_eq_true_iff,fO,mX,mX,fO,b,qZ,vS];decide
def Vld(rows:List Rw)(ps:List Pt)(F:Ev):Prop:= ∀q∈F, ∃i E,mV E/\q.1=bN ps i E/\q.2=.bl (hold rows (ps.drop i) E)
def Vld.look(V:Vld rows ps F)(b:mV E)(h:look F (bN ps i E)=some v):v=.bl (hold rows (ps.drop i) E):=by
 unfold M.look at h;obtain⟨q,a,rfl⟩:=Option.map_eq_some_iff.mp h;obtain⟨j,k,f,c,d⟩:=V q (List.mem_of_find?_eq_some a);have e:q.1=bN ps i E:=by simpa using List.find?_some a
 rw[d,Qz b f (e.symm.trans c)]
theorem Vld.dic(V:Vld rows ps F)(h:S[d]? =#[F,7]):NL S #[d,1]=some (d,F):=by unfold NL;dsimp only;rw[h];dsimp only;rw[iP];rw[õ];intro q a;obtain⟨i,E,_,e,_⟩:=V q a;rw[e];rfl
def Vld.put(V:Vld rows ps F)(b:mV E):Vld rows ps (putK F (bN ps i E) (.bl (hold rows (ps.drop i) E))):=by
 intro q a;unfold putK at a;split at a
 .obtain⟨p,c,rfl⟩:=mM.mp a;split
  .rename_i e;exact⟨i,E,b,e,rfl⟩
  .exact V p c
 .rcases å.mp a with a|a
  .exact V q a
  .rw[mS.mp a];exact⟨i,E,b,rfl,rfl⟩
def Rb(F)(k d):(putK F k d).length<=F.length+1:=by
 unfold putK;split
 .rw[lM];omega
 .simp
noncomputable abbrev Tt(a b c d:Nat):List (Str×MV):=[("steps",.loc a),("asked",.loc b),("cells",.loc c),("found",.loc d)]
structure MS(rows:List Rw)(ps:List Pt)(B:Sto)(ls a b c d:Nat):Prop where
 rc:B[ls]? =some (.rcd "Reading" (Tt a b c d))
 st:B[a]? =#[KO ps,2]
 ak: ∃as,B[b]? =#[as,2]/\ ∀i,i<ps.length-> ∃q,as[i]? =#[q]/\B[q]? =#[(Ko (ps.drop i)).map MV.str,2]
 cl:COk B c rows
 dd:B[d]? =#[[],7]
 cd:c≠d
 pk: ∀p∈ps,CK p
 pl:ps.length<=100
 rk:zFA rows
structure Cur(B S:Sto)(d:Nat)(F:Ev):Prop where
 len:B.length<=↑0
 old: ∀l,l<B.length->l≠d->S[l]? =B[l]?
 fd:S[d]? =#[F,7]
section
def Cur.up(C:Cur B S d F)(h:B[l]? =some o)(a:l≠d):S[l]? =some o:=by rw[C.old l (gS.mp h).1 a];exact h
def MS.nd(M:MS rows ps B ls a b c d)(h:B[l]? =some o)(ho:o≠.dic []):l≠d:=λe=>by subst e;rw[M.dd]at h;exact ho (â h).symm
def MS.cur(M:MS rows ps B ls a b c d)(C:Cur B S d F){l:Nat}(h:B[l]? =some o)(ho:o≠.dic []):S[l]? =some o:=C.up h (M.nd h ho)
def MS.cells(M:MS rows ps B ls a b c d)(C:Cur B S d F):COk S c rows:=by
 obtain⟨K,i,e,f⟩:=M.cl;refine⟨K,C.up i M.cd,e,λt=>?_⟩;rcases f t with h|⟨q,h4,h5⟩
 .exact .inl h
 .exact .inr ⟨q,h4,M.cur C h5 (by simp)⟩
def uM(h:S[ls]? =some (.rcd "Reading" fs))(a:fs.lookup f=some v):oC "Reading" f #[ls,1] S=.ok (.val v) S:=by unfold oC NW;dsimp only;rw[h];dsimp only;rw[iP rfl];dsimp only;rw[a]
theorem OW(a b c d):List.lookup ("steps":Str) (Tt a b c d)=some (MV.loc a):=rfl
theorem Re(a b c d):List.lookup ("asked":Str) (Tt a b c d)=some (MV.loc b):=rfl
theorem Rf(a b c d):List.lookup ("cells":Str) (Tt a b c d)=some (MV.loc c):=rfl
theorem Aa(a b c d):List.lookup ("found":Str) (Tt a b c d)=some (MV.loc d):=rfl
end
theorem Ha: ∀{ds},sK n ds-> ∀d∈ds,lo n d
 |[],_,d,h=>by simp at h
 |e::ds,hl,d,h=>by
  unfold sK at hl;rcases mC.mp h with rfl|h
  .exact hl.1
  .exact Ha hl.2 d h
theorem TJ(ds)(S):AC [.new ds] S=.ok #[ds,6] S:=rfl
noncomputable abbrev EN(ls lt le:Nat)(p s:V0):Rho:=[#[ls],#[lt],#[le],p,s]
section
def Y8(a:S[lt]? =#[T,2]):nA (EN ls lt le none none) S=.ok (.next (EN ls lt le (some (zH T.length)) none)) S:=by unfold nA;simp? [dX a]
def Y9(M:MS rows ps B ls a b c d)(C:Cur B S d F)(i):nB (EN ls lt le (some (zH i)) none) S=if i=ps.length then .ok (.ret (.val (.bl true))) S else .ok (.next (EN ls lt le (some (zH i)) none)) S:=by
 have h:=uM (M.cur C M.rc (by simp)) (OW a b c d);have f:=dX (M.cur C M.st (by simp));rw[MC]at f;unfold nB;simp? [h,f];by_cases e:i=ps.length
 .rw[iP e,dT0 (by rw[e]),iP rfl]
 .rw[iN e,dF0 (λz=>e (by omega)),iN (by simp)]
theorem zDU(M:MS rows ps B ls a b c d)(C:Cur B S d F)(e:S[le]? =#[E,7])(h:mV E)(hi:i<ps.length):nE (EN ls lt le (some (zH i)) none) S=.ok (.next (EN ls lt le (some (zH i)) (some (bN ps i E)))) S:=by
 obtain⟨as,k,v⟩:=M.ak;obtain⟨q,r,o⟩:=v i hi;have w:=uM (M.cur C M.rc (by simp)) (Re a b c d);have n:=aP (M.cur C k (by simp)) (tN r);have j:=M.cur C o (by simp);have s:=Yw (ps:=ps.drop i) λp t=>M.pk p (mem_of_mem_drop t);have u:=M.pl;rw[Ć]at s
 have m:xM (yX 0) lO cB (vN 1 [2] (EN ls lt le (some (zH i)) none)) [(q,(Ko (ps.drop i)).map MV.str)] ((Ko (ps.drop i)).map MV.str) S=.ok (vls (ps.drop i) E) S:=
  gN (f:=MV.str) (g:=λx=>(look E (.str x)).getD .non) (xP j) λx y=>⟨[#[x,4],#[le]],rfl,rfl,by unfold cB;simp? [MB e h,Yo e h]⟩
 unfold nE;simp? [w,n,kE j,lM,show(Ko (ps.drop i)).length<1000000 by omega,m,TJ];rfl
theorem zDV(V:Vld rows ps F)(C:Cur B S d F)(a:mV E)(h:look F (bN ps i E)=v):Jo false (.val (bN ps i E)) #[d,1] S=.ok (.val (.bl v.isSome)) S:=by unfold Jo;dsimp only;rw[V.dic C.fd];dsimp only;rw[iP (WK a),h];rfl
def zDW(M:MS rows ps B ls a b c d)(C:Cur B S d F)(V:Vld rows ps F)(e:mV E)(i):gX (EN ls lt le (some (zH i)) (some (bN ps i E))) S=match look F (bN ps i E)with |some v=>.ok (.ret (.val v)) S|none=>.ok (.next (EN ls lt le (some (zH i)) (some (bN ps i E)))) S:=by
 have f:=uM (M.cur C M.rc (by simp)) (Aa a b c d)
 cases z:look F (bN ps i E)with
 |none=>
  unfold gX;simp? [f,zDV V C e z,Option.isSome,fT,iF]
 |some v=>
  have h:Kf #[d,1] (.val (bN ps i E)) S=.ok (.val v) S:=by unfold Kf;rw[V.dic C.fd];dsimp only;rw[iP (WK e),z]
  unfold gX;simp? [f,zDV V C e z,Option.isSome,h]
theorem Z6(i)(hi:i=ps.length)(M:MS rows ps B ls a b c d)(C:Cur B S d F)(f:S[lt]? =#[T,2])(h:T.length=i):zS 3 zX [#[ls,1],#[lt,1],#[le,1]] S=.ok (.val (.bl true)) S:=by refine LT rfl ?_;show yP (yB (EN ls lt le none none) S)=_;unfold yB;have e:=Y9 (lt:=lt) (le:=le) M C T.length;rw[iP (h.trans hi)]at e;rw[zE (Y8 f),cT e];rfl
theorem Z7(hi:i<ps.length)(M:MS rows ps B ls a b c d)(C:Cur B S d F)(V:Vld rows ps F)(m:S[lt]? =#[T,2])(n:T.length=i)(e:S[le]? =#[E,7])(f:mV E)(k:look F (bN ps i E)=some (.bl v)):zS 3 zX [#[ls,1],#[lt,1],#[le,1]] S=.ok (.val (.bl v)) S:=by subst n;refine LT rfl ?_;show yP (yB (EN ls lt le none none) S)=_;unfold yB;have h:=Y9 (lt:=lt) (le:=le) M C T.length;rw[iN (by omega)]at h;have j:=zDW (lt:=lt) (le:=le) M C V f T.length;rw[k]at j;rw[zE (Y8 m),zE h,zE (zDU M C e f hi),cT j];rfl
def Z8(A:ps[i]? =some p)(M:MS rows ps B ls a b c d)(C:Cur B S d F)(V:Vld rows ps F)(W:B.length<=lt)(n:S[lt]? =#[T,2])(hT:T.length=i)(t:S[le]? =#[E,7])(v:mV E)(y:E.length<=1000)(D:le≠d)(Q:look F (bN ps i E)=none):
  ∃w j U,zS 3 zX [#[ls,1],#[lt,1],#[le,1]] S=.ok (.val .non) ((S++U).set lt (.lst (T++[.tup [bN ps i E,.loc w]])))/\↑0<=w/\(S++U)[w]? =#[j,2]/\Dcs d (S++U) j (Bb rows E p):=by
 subst hT;have hi:=(gS.mp A).1;have aa:=M.pl;have h:=(gS.mp n).1;have z:=(gS.mp C.fd).1;obtain⟨r,j,U,Z,J,O⟩:=zDS (q:=fM (ps.drop (T.length+1))) (M.pk p (î A)) t v y (M.cells C) M.rk z D;have K:=Y9 (lt:=lt) (le:=le) M C T.length;rw[iN (by omega)]at K;have H:=zDW (lt:=lt) (le:=le) M C V v T.length;rw[Q]at H;have h1:=uM (M.cur C M.rc (by simp)) (OW a b c d);have N:=aP (M.cur C M.st (by simp)) (tN (WJ A));have P:=uM (M.cur C M.rc (by simp)) (Rf a b c d)
 obtain⟨w,f,u,G,k3,k4⟩: ∃w f,wR [.val (bN ps T.length E),r] (S++U)=.ok #[[bN ps T.length E,.loc w],6] (S++f)/\↑0<=w/\(S++f)[w]? =#[j,2]/\Dcs d (S++f) j (Bb rows E p):=by
  rcases O with rfl|⟨w,rfl,u,G⟩
  .refine⟨(S++U).length,U++[.lst j],?_,by simp,?_,?_⟩
   .rw[FD (by simp), <-aA];rfl
   .rw[<-aA];exact zM _ _
   .refine J.mono λl o I _=>?_;rw[<-aA,á (gS.mp I).1];exact I
  .exact⟨w,U,tup2 _ _ _,u,G,J⟩
 have m:(S++f)[lt]? =#[T,2]:=by rw[á h];exact n
 have Y:nF (EN ls lt le (some (zH T.length)) (some (bN ps T.length E))) S=.ok (.next (EN ls lt le (some (zH T.length)) (some (bN ps T.length E)))) ((S++f).set lt (.lst (T++[.tup [bN ps T.length E,.loc w]]))):=by unfold nF;simp? [xI n,h1,N,P,Z,u,jE m (show T.length<1000000 by omega)]
 have X:zX [.loc ls,.loc lt,.loc le] S=.ok (.val .non) ((S++f).set lt (.lst (T++[.tup [bN ps T.length E,.loc w]]))):=by show yP (yB (EN ls lt le none none) S)=_;unfold yB;rw[zE (Y8 n),zE K,zE (zDU M C t v hi),zE H,zE Y];rfl
 refine⟨w,j,f,?_,G,k3,k4⟩;unfold zS;rw[iP (show [Er.val (.loc ls),#[lt,1],#[le,1]].length=3 from rfl),show zP [#[ls,1],#[lt,1],#[le,1]] S=([.loc ls,.loc lt,.loc le],S)from rfl,X];show bY S (.val .non) _=_;unfold bY;rw[iN];rintro⟨_,L⟩;have s:((S++f).set lt (.lst (T++[.tup [bN ps T.length E,.loc w]])))[lt]? =#[T++[.tup [bN ps T.length E,.loc w]],2]:=get_set m;rcases L lt h with e|⟨o,e,ho⟩
 .rw[s,n]at e;have:=congrArg List.length (MO.lst.inj (â e));simp at this
 .rw[s]at e;cases e;have k:=Ha (show sK _ _ from ho) (.tup [bN ps T.length E,.loc w]) (by simp);unfold lo sK at k;have k:=k.2;unfold sK at k;have k:=k.1;unfold lo at k;omega
end
noncomputable abbrev HW(ls:Nat)(v:MV)(lt:Nat)(to st b a:V0):Rho:=[#[ls],some v,#[lt],to,st,b,a]
noncomputable def zFB(n:Nat):Pt->Nat
 |.same _ _=>1
 |.quan _ _ _=>n
def Ab(n:Nat):List Pt->Nat
 |[]=>0
 |p::ps=>1+zFB n p * (1+Ab n ps)
def Yx(rows)(E)(p):(Bb rows E p).length<=zFB rows.length p:=by
 cases p with
 |same a b=>
  rw[pH];split
  .exact à 1
  .exact zero_le 1
 |quan x t tms=>
  rw[pI];exact ì (ċ _ _) (Ĉ _ _)
def Yy(xs)(x:α):uT (xs++[x]) (-1)=some x:=by
 unfold uT
 rw[show XM (xs++[x]).length (-1)=some xs.length from by
  unfold XM;rw[lA,lS];have a: ¬((0:Int)<= -1):=by decide
  simp only[a,iF];split
  .congr 1;omega
  .omega]
 simp
theorem Rg(p):(!decide (Ts p=Y1))=p.ex:=by
 cases p with
 |same a b=>rfl
 |quan x t tms=>cases x<;>rfl
def ne_str(x y)(S):II (.val (.str x)) (.val (.str y)) S=.ok (.val (.bl (!decide (x=y)))) S:=NC (US _ x y)
theorem zDX(ps)(i)(E)(S):xK (.val (bN ps i E)) #[0,5] S=.ok (.val (zH i)) S:=rfl
def zDY(p:Pt)(to:MV):Prop:=to=.non\/to=.bl (!p.ex)
theorem Rh(h:zDY p to)(S):II (.val to) (.val (.bl p.ex)) S=.ok (.val (.bl true)) S:=by
 rcases h with rfl|rfl
 .cases p.ex<;>rfl
 .rw[Og];cases p.ex<;>rfl
section
def Hb(j:ps[i]? =some p)(M:MS rows ps B ls a b c d)(C:Cur B S d F)(k:S[lt]? =#[T++[.tup [bN ps i E,.loc w]],2])(to st wy se):
  yV (HW ls v lt to st wy se) S=xV (HW ls v lt to (some (bN ps i E)) #[w] (some (.bl p.ex))) S:=by
 have o:=uM (M.cur C M.rc (by simp)) (OW a b c d);have f:=aP (M.cur C M.st (by simp)) (tN (WJ j));have e:=aP k (Yy _ _);have n:kR (HW ls v lt to st wy se) S=.ok (.next (HW ls v lt to (some (bN ps i E)) wy se)) S:=by unfold kR;simp? [e,CF]
 have h:kT (HW ls v lt to (some (bN ps i E)) wy se) S=.ok (.next (HW ls v lt to (some (bN ps i E)) #[w] se)) S:=by unfold kT;simp? [e,tL]
 have m:kU (HW ls v lt to (some (bN ps i E)) #[w] se) S=.ok (.next (HW ls v lt to (some (bN ps i E)) #[w] (some (.bl p.ex)))) S:=by unfold kU;simp? [o,zDX,f,Y6,ne_str,Rg]
 unfold yV;rw[zE n,zE h,zE m]
def E7(a:S[lt]? =#[T++[x],2])(to st wy se):xE (HW ls v lt to st wy se) S=.ok true S:=by unfold xE;simp? [qQ a];simp
theorem Ac(a b c d):List.lookup ("enter":Str) (Tt a b c d)=none:=rfl
def E8(M:MS rows ps B ls a b c d)(C:Cur B S d F):NW "Reading" #[ls,1] S=some (ls,Tt a b c d):=by unfold NW;dsimp only;rw[M.cur C M.rc (by simp)];dsimp only;rw[iP rfl]
def zDZ(j:ps[i]? =some p)(M:MS rows ps B ls a b c d)(C:Cur B S d F)(k:S[lt]? =#[T++[.tup [bN ps i E,.loc w]],2])(hw:S[w]? =#[ws++[.loc e],2])(f:zDY p to)(m:zS 3 zX [#[ls,1],#[lt,1],#[e,1]] (S.set w (.lst ws))=.ok (.val r) S2)(st wy se):
  yV (HW ls v lt (some to) st wy se) S=.ok (.next (HW ls v lt (some r) (some (bN ps i E)) #[w] (some (.bl p.ex)))) S2:=by
 rw[Hb j M C k];unfold xV;have h:(ws++[MV.loc e]).isEmpty=false:=by cases ws<;>rfl
 simp? [Rh f,qQ hw,h,ğ];unfold RJ;simp? [E8 M C,Ac,xI hw,WB hw,m]
def Z9(s:mV E)(y:ps[i]? =some p)(M:MS rows ps B ls a b c d)(C:Cur B S d F)(V:Vld rows ps F)(z:B.length<=lt)(n:F.length<1000000)(r:S[lt]? =#[T++[.tup [bN ps i E,.loc w]],2])(hw:S[w]? =#[ws,2])(k:(zDY p to/\ws=[]/\x= !p.ex)\/(to=.bl p.ex/\x=p.ex))(st wy se):
  yV (HW ls v lt (some to) st wy se) S=.ok (.next (HW ls v lt (some (.bl x)) (some (bN ps i E)) #[w] (some (.bl p.ex)))) ((S.set d (.dic (putK F (bN ps i E) (.bl x)))).set lt (.lst T)):=by
 rw[Hb y M C r];have t:=(gS.mp M.dd).1;have A:=uM (M.cur C M.rc (by simp)) (Aa a b c d);have u:SC #[d,1] (.val (bN ps i E)) (.bl x) (HW ls v lt (some (.bl x)) (some (bN ps i E)) #[w] (some (.bl p.ex))) S=.ok (HW ls v lt (some (.bl x)) (some (bN ps i E)) #[w] (some (.bl p.ex))) (S.set d (.dic (putK F (bN ps i E) (.bl x)))):=by unfold SC;dsimp only;rw[V.dic C.fd];dsimp only;rw[iP ⟨WK s,n⟩]
 have e:(S.set d (.dic (putK F (bN ps i E) (.bl x))))[lt]? =#[T++[.tup [bN ps i E,.loc w]],2]:=by rw[zQ (by omega)];exact r
 have q:EJ (vJ 3) (DJ SC (bJ (vJ 0) (oC "Reading" "found")) (vJ 4)) (HW ls v lt (some (.bl x)) (some (bN ps i E)) #[w] (some (.bl p.ex))) S=.ok (.next (HW ls v lt (some (.bl x)) (some (bN ps i E)) #[w] (some (.bl p.ex)))) (S.set d (.dic (putK F (bN ps i E) (.bl x)))):=by simp? [uH,A,u]
 have o:BJ (gJ wF EG (vJ 2)) (HW ls v lt (some (.bl x)) (some (bN ps i E)) #[w] (some (.bl p.ex))) (S.set d (.dic (putK F (bN ps i E) (.bl x))))=.ok (.next (HW ls v lt (some (.bl x)) (some (bN ps i E)) #[w] (some (.bl p.ex)))) ((S.set d (.dic (putK F (bN ps i E) (.bl x)))).set lt (.lst T)):=by simp? [xI e,WB e]
 unfold xV;rcases k with⟨h,rfl,rfl⟩|⟨rfl,rfl⟩
 .have f:=Rh h S;have m:([]:U0).isEmpty=true:=rfl;have j:iJ (bJ (dJ II (vJ 3) (vJ 6)) jW) (CJ (nJ (vJ 6)) 3) JJ (HW ls v lt (some to) (some (bN ps i E)) #[w] (some (.bl p.ex))) S=.ok (.next (HW ls v lt (some (.bl (!p.ex))) (some (bN ps i E)) #[w] (some (.bl p.ex)))) S:=by simp? [f]
  simp? [f,qQ hw,m,Ķ,fT,iF];rw[zE j,zE q,o]
 .have f: ∀S,II (.val (.bl p.ex)) (.val (.bl p.ex)) S=.ok (.val (.bl false)) S:=λS=>by rw[Og];cases p.ex<;>rfl
  have j:iJ (bJ (dJ II (vJ 3) (vJ 6)) jW) (CJ (nJ (vJ 6)) 3) JJ (HW ls v lt (some (.bl p.ex)) (some (bN ps i E)) #[w] (some (.bl p.ex))) S=.ok (.next (HW ls v lt (some (.bl p.ex)) (some (bN ps i E)) #[w] (some (.bl p.ex)))) S:=by simp? [f,fT,iF]
  simp? [f,fT,iF];rw[zE j,zE q,o]
end
def Kp(S S':Sto)(xs:Db):Prop:=↑0<=S'.length/\ ∀l,l<↑0->l∉xs->S'[l]? =S[l]?
def Kp.refl(S)(xs):Kp S S xs:=⟨à _,λ_ _ _=>rfl⟩
def Kp.trans(h:Kp S S' xs)(h':Kp S' S'' xs):Kp S S'' xs:=⟨ì h.1 h'.1,λl a b=>by rw[h'.2 l (æ a h.1) b,h.2 l a b]⟩
def Kp.sub(h:Kp S S' xs)(f: ∀x∈xs,x∈ys):Kp S S' ys:=⟨h.1,λl a b=>h.2 l a λz=>b (f l z)⟩
def Kp.set(S)(o)(h:l∈xs):Kp S (S.set l o) xs:=⟨by rw[ÿ];exact à _,λk _ a=>zQ λe=>a (e▸h)⟩
def Kp.app(S T)(xs):Kp S (S++T) xs:=⟨by rw[lA];omega,λl a _=>á a⟩
def Kp.at(h:Kp S S' xs)(e:S[l]? =some o)(a:l∉xs):S'[l]? =some o:=by rw[h.2 l (gS.mp e).1 a];exact e
def Cur.kp(C:Cur B S d F)(k:Kp S S' xs)(e: ∀x∈xs,x=d\/B.length<=x)(c:S'[d]? =#[F',7]):Cur B S' d F':=
 ⟨ì C.len k.1,λl b a=>by rw[k.2 l (æ b C.len) (λz=>(e l z).elim a λq=>by omega),C.old l b a],c⟩
def Kr(rows:List Rw)(p:Pt)(rest:List Pt)(Gs:List Ev):Bool:=if p.ex=true then Gs.any (hold rows rest)else Gs.all (hold rows rest)
theorem CL(rows)(p)(rest)(E):hold rows (p::rest) E=Kr rows p rest (Bb rows E p):=by
 conv=>lhs;unfold hold
 rfl
theorem Yz(rows)(p)(rest):Kr rows p rest []= !p.ex:=by unfold Kr;cases p.ex<;>rfl
def Ri{rest:List Pt}(h:hold rows rest G=p.ex):Kr rows p rest (Gs++[G])=p.ex:=by unfold Kr;rw[List.any_append,List.all_append];simp only[List.any_cons,Ĝ,List.any_nil,List.all_nil,h];cases p.ex<;>simp
def zAA{rest:List Pt}(h:hold rows rest G= !p.ex):Kr rows p rest (Gs++[G])=Kr rows p rest Gs:=by unfold Kr;rw[List.any_append,List.all_append];simp only[List.any_cons,Ĝ,List.any_nil,List.all_nil,h];cases p.ex<;>simp
def Zb(c:CK p)(h:G∈Bb rows E p):G.length<=E.length+100:=by
 cases p with
 |same a b=>
  rw[pH]at h;split at h
  .rw[mS.mp h];omega
  .simp at h
 |quan x t tms=>
  rw[pI]at h;obtain⟨r,_,d⟩:=Đ.mp h;have:=HU _ _ _ _ d;have:tms.length<=100:=c.2;omega
abbrev WL(N:Nat)(ρ:Rho)(S:Sto):R Fl:=jI xE yV N ρ S
section
variable{rows:List Rw}{ps:List Pt}{B:Sto}{ls d lt:Nat}{v:MV}
structure Fn(rows:List Rw)(ps:List Pt)(B:Sto)(ls d lt:Nat)(v:MV)(n:Nat)(S0:Sto)(F:Ev)(T:U0)(xs:Db)(ρ:Rho)(S:Sto)(x:Bool):Prop where
 go: ∃k st wy se F' S',k<=n/\(∀N,WL (k+N) ρ S=WL N (HW ls v lt (some (.bl x)) st wy se) S')/\Cur B S' d F'/\Vld rows ps F'/\S'[lt]? =#[T,2]/\Kp S0 S' xs/\F'.length<=F.length+n
def Rj(m:mV E)(t:ps[i]? =some p)(M:MS rows ps B ls a b c d)(C:Cur B S d F)(V:Vld rows ps F)(e:B.length<=lt)(j:F.length<1000000)(k:S[lt]? =#[T++[.tup [bN ps i E,.loc w]],2])(hw:S[w]? =#[ws,2])(s:x=hold rows (ps.drop i) E)(h:(zDY p to/\ws=[]/\x= !p.ex)\/(to=.bl p.ex/\x=p.ex))(st wy se):
  Fn rows ps B ls d lt v 1 S F T [lt,d] (HW ls v lt (some to) st wy se) S x:=by
 have u:=Z9 (v:=v) m t M C V e j k hw h st wy se;have q:=(gS.mp M.dd).1;have r:Kp S (S.set d (.dic (putK F (bN ps i E) (.bl x)))) [lt,d]:=Kp.set _ _ (by simp);have o:=r.trans (Kp.set _ (.lst T) (show lt∈[lt,d] by simp));have f:((S.set d (.dic (putK F (bN ps i E) (.bl x)))).set lt (.lst T))[d]? =#[putK F (bN ps i E) (.bl x),7]:=by rw[zQ (by omega)];exact get_set C.fd
 refine⟨1,some (bN ps i E),#[w],some (.bl p.ex),putK F (bN ps i E) (.bl x),_,à _,λN=>?_,C.kp o (λy n=>?_) f,?_,get_set (by rw[zQ (by omega)];exact k),o,Rb _ _ _⟩
 .show jI _ _ (1+N) _ _=_;rw[Nat.add_comm,bE (E7 k _ _ _ _) u]
 .simp only[mC,nM,or_false]at n;rcases n with rfl|rfl
  .exact .inr e
  .exact .inl rfl
 .subst s;exact V.put m
theorem E9(M:MS rows ps B ls a b c d)(H:B.length<=lt)(hE:mV E)(hp:ps[i]? =some p)(hT:T.length=i)
  (ih: ∀ S  F G  T'  e  st t A ,Cur B S d F->Vld rows ps F->S[lt]? =#[T',2]->T'.length=i+1->S[e]? =#[G,7]->mV G->G.length+100 * m<=1000->e≠d->F.length+Ab rows.length (ps.drop (i+1))<1000000->
   ∃r S1,zS 3 zX [#[ls,1],#[lt,1],#[e,1]] S=.ok (.val r) S1/\Fn rows ps B ls d lt v (Ab rows.length (ps.drop (i+1))) S F T' [lt,d] (HW ls v lt (some r) st t A) S1 (hold rows (ps.drop (i+1)) G)):
  ∀ n  f  Gs  S  F  to  st t A ,f.length=n->Cur B S d F->Vld rows ps F->S[lt]? =#[T++[.tup [bN ps i E,.loc w]],2]->S[w]? =#[f,2]->Dcs d S f Gs->lt<w->zDY p to->Kr rows p (ps.drop (i+1)) Gs=hold rows (ps.drop i) E->(∀G∈Gs,G.length+100 * m<=1000)->F.length+(1+n * (1+Ab rows.length (ps.drop (i+1))))<1000000->
   Fn rows ps B ls d lt v (1+n * (1+Ab rows.length (ps.drop (i+1)))) S F T [lt,d,w] (HW ls v lt (some to) st t A) S (hold rows (ps.drop i) E)
 |0,f,Gs,S,F,to,st,t,A,hn,C,V,ht,hw,hD,hltw,hto,hres,hG,hF=>by have ak:=ĝ.mp hn;subst ak;have ab:Gs=[]:=ĝ.mp hD.len.symm;subst ab;rw[Yz]at hres;obtain⟨k,q,j,s,O,Z,h1,L,h3,P,h5,h6,h7⟩:=(Rj (v:=v) hE hp M C V H (by omega) ht hw (x:=hold rows (ps.drop i) E) rfl (.inl ⟨hto,rfl,hres.symm⟩) st t A).go;exact⟨k,q,j,s,O,Z,by omega,L,h3,P,h5,h6.sub λx u=>by simp only[mC,nM,or_false]at u ⊢; rcases u with h|h<;>simp[h],by omega⟩
 |n+1,f,Gs,S,F,to,st,t,A,hn,C,V,ht,hw,hD,hltw,hto,hres,hG,hF=>by
  have ao:=(gS.mp M.dd).1;rcases List.eq_nil_or_concat f with rfl|⟨f,x,rfl⟩
  .simp at hn
  .rw[List.concat_eq_append]at *;obtain⟨Gs,G,e,rfl,af,rfl,ai,he,aj⟩:=hD.last;rw[lA,lS]at hn;have X:(n+1) * (1+Ab rows.length (ps.drop (i+1)))=n * (1+Ab rows.length (ps.drop (i+1)))+(1+Ab rows.length (ps.drop (i+1))):=Nat.succ_mul _ _;rw[X]at hF ⊢;have ae:w≠e:=λz=>by subst z;rw[hw]at he;cases he
   have k0:Kp S (S.set w (.lst f)) [lt,d,w]:=Kp.set _ _ (by simp);have ah:Kp S (S.set w (.lst f)) [w]:=Kp.set _ _ (by simp);have C0:Cur B (S.set w (.lst f)) d F:=C.kp ah (λy hy=>.inr (by rw[mS.mp hy];omega)) (by rw[zQ (by omega)];exact C.fd);obtain⟨r,S1,g1,g2⟩:=ih (S.set w (.lst f)) F G (T++[.tup [bN ps i E,.loc w]]) e (some (bN ps i E)) #[w] (some (.bl p.ex)) C0 V (by rw[zQ (by omega)];exact ht) (by rw[lA,hT];rfl) (by rw[zQ ae];exact he) aj (hG G (by simp)) ai (by omega);have hb:=zDZ (v:=v) hp M C ht hw hto g1 st t A;obtain⟨k,D,K,I,F1,Y,j1,j2,j3,j4,j5,j6,j7⟩:=g2.go;have hw2:Y[w]? =#[f,2]:=j6.at (get_set hw) (by simp only[mC,nM,or_false];omega);have U:Kp S Y [lt,d,w]:=k0.trans (j6.sub λx u=>by simp only[mC,nM,or_false]at u ⊢; rcases u with h|h<;>simp[h]);have first: ∀N,WL (1+k+N) (HW ls v lt (some to) st t A) S=WL N (HW ls v lt (some (.bl (hold rows (ps.drop (i+1)) G))) D K I) Y:=λN=>by show jI _ _ (1+k+N) _ _=_;rw[show 1+k+N=(k+N)+1 by omega,bE (E7 ht _ _ _ _) hb];exact j2 N
   have aa:Dcs d Y f Gs:=af.mono λl o Q aq=>by
    have h1:l≠w:=λz=>by subst z;rw[hw]at Q;cases Q
    have L:l≠lt:=λz=>by subst z;rw[ht]at Q;cases Q
    exact j6.at (by rw[zQ (Ne.symm h1)];exact Q) (by simp only[mC,nM,or_false];omega)
   by_cases J:hold rows (ps.drop (i+1)) G=p.ex
   .have hr:=Ri (Gs:=Gs) J;rw[hres]at hr;obtain⟨k',q,j,s,O,Z,h1,L,h3,P,h5,h6,h7⟩:=(Rj (v:=v) (to:=.bl p.ex) hE hp M j3 j4 H (by omega) j5 hw2 (x:=hold rows (ps.drop i) E) rfl (.inr ⟨rfl,hr⟩) D K I).go;refine⟨1+k+k',q,j,s,O,Z,by omega,λN=>?_,h3,P,h5,U.trans (h6.sub λx u=>by simp only[mC,nM,or_false]at u ⊢; rcases u with h|h<;>simp[h]),by omega⟩;rw[add_assoc,first,J];exact L N
   .have W:hold rows (ps.drop (i+1)) G= !p.ex:=by revert J;cases hold rows (ps.drop (i+1)) G<;>cases p.ex<;>simp
    rw[zAA W]at hres;obtain⟨k',q,j,s,O,Z,h1,L,h3,P,h5,h6,h7⟩:=(E9 M H hE hp hT ih n f Gs Y F1 (.bl (!p.ex)) D K I (by omega) j3 j4 j5 hw2 aa hltw (.inr rfl) hres (λG' ag=>hG G' (by simp[ag])) (by omega)).go;refine⟨1+k+k',q,j,s,O,Z,by omega,λN=>?_,h3,P,h5,U.trans h6,by omega⟩;rw[add_assoc,first,W];exact L N
theorem F2(M:MS rows ps B ls a b c d)(h:B.length<=lt): ∀ m i ,i+m=ps.length-> ∀ S  F E  T  le  st q s ,Cur B S d F->Vld rows ps F->S[lt]? =#[T,2]->T.length=i->S[le]? =#[E,7]->mV E->E.length+100 * m<=1000->le≠d->F.length+Ab rows.length (ps.drop i)<1000000->
   ∃r f,zS 3 zX [#[ls,1],#[lt,1],#[le,1]] S=.ok (.val r) f/\Fn rows ps B ls d lt v (Ab rows.length (ps.drop i)) S F T [lt,d] (HW ls v lt (some r) st q s) f (hold rows (ps.drop i) E)
 |0,i,him,S,F,E,T,le,st,q,s,C,V,ht,hT,hle,hE,hEz,hld,hF=>by
  have hi:i=ps.length:=by omega
  have n:ps.drop i=[]:=by rw[hi];exact drop_length
  refine⟨_,S,Z6 i hi M C ht hT,?_⟩;rw[n];exact⟨0,st,q,s,F,S,à _,λN=>by rw[İ];rfl,C,V,ht,Kp.refl _ _,by omega⟩
 |m+1,i,him,S,F,E,T,le,st,q,s,C,V,ht,hT,hle,hE,hEz,hld,hF=>by
  have hi:i<ps.length:=by omega
  obtain⟨p,D⟩: ∃p,ps[i]? =some p:=⟨_,gE0 hi⟩
  have n:ps.drop i=p::ps.drop (i+1):=by rw[Į hi];rw[gE0 hi]at D;cases D;rfl
  cases z:look F (bN ps i E)with
  |some u=>
   have hu:=V.look hE z;subst hu;exact⟨_,S,Z7 hi M C V ht hT hle hE z,⟨0,st,q,s,F,S,zero_le _,λN=>by rw[İ],C,V,ht,Kp.refl _ _,by omega⟩⟩
  |none=>
   obtain⟨w,H,U,g1,g2,g3,g4⟩:=Z8 D M C V h ht hT hle hE (by omega) hld z;have t:=(gS.mp ht).1;have aa:=(gS.mp C.fd).1;have af:=(gS.mp M.dd).1;obtain⟨f,j⟩: ∃f,f=(S++U).set lt (.lst (T++[.tup [bN ps i E,.loc w]])):=⟨_,rfl⟩
   rw[<-j]at g1;have K:Kp S f [lt,d]:=by rw[j];exact(Kp.app S U _).trans (Kp.set _ _ (by simp))
   have J:Kp (S++U) f [lt]:=by rw[j];exact Kp.set _ _ (by simp)
   have C1:Cur B f d F:=C.kp ((Kp.app S U [lt]).trans J) (λy hy=>.inr (by rw[mS.mp hy];exact h)) (J.at (by rw[á aa];exact C.fd) (by simp only[mC,nM,or_false];omega));have P:f[lt]? =#[T++[.tup [bN ps i E,.loc w]],2]:=by rw[j];exact get_set (by rw[á t];exact ht)
   have X:f[w]? =#[H,2]:=J.at g3 (by simp only[mC,nM,or_false];omega);have O:Dcs d f H (Bb rows E p):=g4.mono λl o A _=>J.at A (by simp only[mC,nM,or_false];rintro rfl;rw[á t,ht]at A;cases A);have Y:=M.pk p (î D);have I:=Yx rows E p;have ab:Ab rows.length (ps.drop i)=1+zFB rows.length p * (1+Ab rows.length (ps.drop (i+1))):=by rw[n];rfl
   have ae:H.length * (1+Ab rows.length (ps.drop (i+1)))<=zFB rows.length p * (1+Ab rows.length (ps.drop (i+1))):=Nat.mul_le_mul_right _ (by rw[g4.len];exact I);have Z:=λS F G T' e st q s=>F2 M h m (i+1) (by omega) S F G T' e st q s;have fn:=E9 (v:=v) (m:=m) M h hE D hT Z H.length H (Bb rows E p) f F .non st q s rfl C1 V P X O (by omega) (.inl rfl) (by rw[n,CL]) (λG hG=>by have:=Zb Y hG;omega) (by omega);refine⟨.non,f,g1,?_⟩;obtain⟨k,Q,L,W,F',S',h1,h2,h3,h4,h5,h6,h7⟩:=fn.go;refine⟨k,Q,L,W,F',S',by omega,h2,h3,h4,h5,⟨ì K.1 h6.1,λl A hn=>?_⟩,by omega⟩;rw[h6.2 l (æ A K.1) (by simp only[mC,nM,or_false]at hn ⊢; omega),K.2 l A hn]
end
def F3(h:CK p)(d:lo n q):lo n (pM p q):=by
 cases p with
 |same a b=>
  refine IP (kO λx c=>?_);simp only[mC,nM,or_false]at c;rcases c with rfl|rfl|rfl|rfl
  .exact AI _ _
  .exact Gy (h.1 _ (by simp[Pt.tms])) _
  .exact Gy (h.1 _ (by simp[Pt.tms])) _
  .exact d
 |quan x t tms=>
  refine IP (kO λy c=>?_);simp only[mC,nM,or_false]at c;rcases c with rfl|rfl|rfl|rfl
  .exact AI _ _
  .exact AH _ _
  .exact IP (kO λu e=>Gy (h.1 u e) _)
  .exact d
theorem Rk: ∀{ps},(∀p∈ps,CK p)->lo n (fM ps)
 |[],_=>IP (kO λx b=>by rw[mS.mp b];exact AI _ _)
 |p::ps,h=>F3 (h p mF0) (Rk λq a=>h q (mO _ a))
theorem Rl: ∀{ps},(∀p∈ps,CK p)->sK n (KO ps)
 |[],_=>kO λx b=>by simp[KO]at b
 |p::ps,h=>by unfold KO sK;exact⟨F3 (h p mF0) (Rk λq a=>h q (mO _ a)),Rl λq a=>h q (mO _ a)⟩
noncomputable abbrev PO(f:MV)(l:Nat)(i:MV):Rho:=[some f,#[l],some i]
theorem Zc(p):(!decide (Ts p=YES))=true:=by
 cases p with
 |same a b=>rfl
 |quan x t tms=>cases x<;>rfl
theorem Ad: ∀ ps  xs  N ,ps.length<N->xs.length+ps.length<1000->jI gK mE N (PO f ↑0 (fM ps)) (S++[.lst xs])=.ok (.next (PO f ↑0 (fM []))) (S++[.lst (xs++KO ps)])
 |[],xs,N+1,_,_=>by
  have a:gK (PO f ↑0 (fM [])) (S++[.lst xs])=.ok false (S++[.lst xs]):=by unfold gK;simp? [show∀Z,xK (.val (fM [])) #[0,5] Z=.ok (.val (.str YES)) Z from λ_=>rfl,ne_str,č];rfl
  rw[sX a];unfold KO;rw[aN]
 |p::ps,xs,N+1,hN,hl=>by
  rw[lC]at hN hl;have a:gK (PO f ↑0 (fM (p::ps))) (S++[.lst xs])=.ok true (S++[.lst xs]):=by unfold gK;simp? [show∀Z,xK (.val (fM (p::ps))) #[0,5] Z=.ok (.val (.str (Ts p))) Z from λZ=>Y6 p (fM ps) Z,ne_str,Zc]
  have b:mE (PO f ↑0 (fM (p::ps))) (S++[.lst xs])=.ok (.next (PO f ↑0 (fM ps))) (S++[.lst (xs++[pM p (fM ps)])]):=by
   unfold mE;have c:oG (PO f ↑0 (fM (p::ps))) (S++[.lst xs])=.ok (.next (PO f ↑0 (fM (p::ps)))) (S++[.lst (xs++[pM p (fM ps)])]):=by unfold oG;simp? [xI (zM S (.lst xs)),jE (d:=fM (p::ps)) (zM S (.lst xs)) (show xs.length<1000000 by omega),kL];rfl
   rw[zE c];unfold BC;simp? [show∀Z,xK (.val (fM (p::ps))) #[-1,5] Z=.ok (.val (fM ps)) Z from λZ=>pM_m p (fM ps) Z]
  rw[bE a b,Ad ps (xs++[pM p (fM ps)]) N (by omega) (by rw[lA,lS];omega),aA];rfl
def Rm(h: ∀p∈ps,CK p)(e:ps.length<=100)(S):zS 1 dD [.val (fM ps)] S=.ok (.new (KO ps)) S:=by
 have a:tW [some (fM ps),none,none] S=.ok (.next [some (fM ps),#[↑0],none]) (S++[.lst []]):=by unfold tW;simp? []
 have c:tX [some (fM ps),#[↑0],none] (S++[.lst []])=.ok (.next (PO (fM ps) ↑0 (fM ps))) (S++[.lst []]):=by unfold tX;simp? []
 have d:HE (PO (fM ps) ↑0 (fM ps)) (S++[.lst []])=.ok (.next (PO (fM ps) ↑0 (fM []))) (S++[.lst (KO ps)]):=Ad ps [] 10000 (by omega) (by simp only[ç];omega);have b:dD [fM ps] S=.ok #[↑0,1] (S++[.lst (KO ps)]):=by show yP (FH [some (fM ps),none,none] S)=_;unfold FH;rw[zE a,zE c,zE d];rfl
 exact sV rfl b (à _) (zM _ _) (Rl h)
def atm(p:Pt):MV:=.tup [.str (Ts p),.tup p.tms]
noncomputable abbrev D4(m:MV)(n:Nat)(a t:V0):Rho:=[some m,#[n],a,t]
theorem JH: ∀ tms ,(∀d∈tms,jQ d)-> ∀ b  t ,b.length+tms.length<100000->
  ∃c,kZ (yX 3) lY [] tms (D4 m ↑0 a t) (S++[.dic (dT b)])=.ok (.next (D4 m ↑0 a c)) (S++[.dic (dT (bU b (tms.filterMap vn)))])
 |[],_,b,t,_=>⟨t,rfl⟩
 |d::tms,hT,b,t,hl=>by
  rw[lC]at hl;rcases hT d mF0 with⟨x,rfl⟩|⟨v,hv,rfl⟩
  .have i:=ZV b x;obtain⟨c,f⟩:=JH (S:=S) (m:=m) (a:=a) tms (λe h=>hT e (mO _ h)) (uL b x) #[[.str JF,.str x],3] (by omega);refine⟨c,?_⟩;rw[zZ (show yX 3 (.tup [.str JF,.str x]) (D4 m ↑0 a t) (S++[.dic (dT b)])=.ok (D4 m ↑0 a #[[.str JF,.str x],3]) (S++[.dic (dT b)])from rfl) (ρ':=D4 m ↑0 a #[[.str JF,.str x],3]) (S':=S++[.dic (dT (uL b x))]) ?_ (kG _)]
   .rw[ą,nZ];exact f
   .unfold lY oF;simp? [CF,tL,TF,uH,Yd (zM S (.dic (dT b))) (show b.length<1000000 by omega),kL]
  .obtain⟨c,f⟩:=JH (S:=S) (m:=m) (a:=a) tms (λe h=>hT e (mO _ h)) b #[[.str IS,v],3] (by omega);refine⟨c,?_⟩;rw[zZ (show yX 3 (.tup [.str IS,v]) (D4 m ↑0 a t) (S++[.dic (dT b)])=.ok (D4 m ↑0 a #[[.str IS,v],3]) (S++[.dic (dT b)])from rfl) (ρ':=D4 m ↑0 a #[[.str IS,v],3]) (S':=S++[.dic (dT b)]) ?_ (kG _)]
   .rw[ą,HP];exact f
   .unfold lY oF;simp? [CF,tL,Gg,fT,iF]
def Ro: ∀ xs b a ,bU a (xs++b)=bU (bU a xs) b:=λxs b a=>List.foldl_append
noncomputable def gm(p:MV×List MV):MV:=.tup [p.1,.tup p.2]
theorem Hc(c: ∀b,stay gs (S++[.dic (dT b)])): ∀(ps:List (MV×List MV)),(∀p∈ps,(∀d∈p.2,jQ d)/\p.2.length<=100)-> ∀ b  a t ,b.length+100 * ps.length<50000->
  ∃f e,kZ (yX 2) mB gs (ps.map gm) (D4 m ↑0 a t) (S++[.dic (dT b)])=.ok (.next (D4 m ↑0 f e)) (S++[.dic (dT (bU b (ps.flatMap λp=>p.2.filterMap vn)))])
 |[],_,b,a,t,_=>⟨a,t,rfl⟩
 |p::ps,h,b,a,t,hl=>by
  rw[lC]at hl;have j:=h p mF0;have r:=j.2;obtain⟨i,s⟩:=JH (S:=S) (m:=m) (a:=some (gm p)) p.2 j.1 b t (by omega);have n:mB (D4 m ↑0 (some (gm p)) t) (S++[.dic (dT b)])=.ok (.next (D4 m ↑0 (some (gm p)) i)) (S++[.dic (dT (bU b (p.2.filterMap vn)))]):=by unfold mB AV;simp? [show∀Z,xK (.val (gm p)) #[1,5] Z=.ok #[p.2,6] Z from λ_=>rfl,ON];exact s
  have u:=bM (p.2.filterMap vn) b;have v:(p.2.filterMap vn).length<=p.2.length:=ċ _ _;obtain⟨f,e,k⟩:=Hc (m:=m) c ps (λq o=>h q (mO _ o)) (bU b (p.2.filterMap vn)) (some (gm p)) i (by omega);refine⟨f,e,?_⟩;rw[ã,zZ (show yX 2 (gm p) (D4 m ↑0 a t) (S++[.dic (dT b)])=.ok (D4 m ↑0 (some (gm p)) t) (S++[.dic (dT b)])from rfl) n (c _),k,flatMap_cons,Ro]
theorem Hd{ps:List (MV×List MV)}(h: ∀p∈ps,(∀d∈p.2,jQ d)/\p.2.length<=100)(t:ps.length<=100)(S):zS 1 xT [.new (ps.map gm)] S=.ok (.new ((bU [] (ps.flatMap λp=>p.2.filterMap vn)).map MV.str)) S:=by
 obtain⟨a,c⟩: ∃a:Sto,a=S++[.lst (ps.map gm)]:=⟨_,rfl⟩
 have i:a[↑0]? =#[ps.map gm,2]:=by rw[c];exact zM _ _
 have e: ∀f,(a++[.dic (dT f)])[↑0]? =#[ps.map gm,2]:=λf=>by rw[á (gS.mp i).1];exact i
 obtain⟨n,j,k⟩:=Hc (S:=a) (m:=.loc ↑0) (λf=>xP (e f)) ps h [] none none (by simp only[ç];omega);obtain⟨b,o⟩: ∃b,b=bU [] (ps.flatMap λp=>p.2.filterMap vn):=⟨_,rfl⟩
 rw[<-o]at k ⊢;have s:tS [#[↑0],none,none,none] a=.ok (.next (D4 (.loc ↑0) a.length none none)) (a++[.dic (dT [])]):=by unfold tS;simp? [RZ];rfl
 have q:tU (D4 (.loc ↑0) a.length none none) (a++[.dic (dT [])])=.ok (.next (D4 (.loc ↑0) a.length n j)) (a++[.dic (dT b)]):=by unfold tU;simp? [kE (e [])];exact k
 have r:tV (D4 (.loc ↑0) a.length n j) (a++[.dic (dT b)])=.ok (.ret (.new (b.map MV.str))) (a++[.dic (dT b)]):=by unfold tV;simp? [Qc (zM a (.dic (dT b)))]
 refine cI (T:=[.lst (ps.map gm),.dic (dT b)]) rfl ?_ (HN _ _);show xT [.loc ↑0] (S++[.lst (ps.map gm)])=_;rw[<-c];show yP (FG [#[↑0],none,none,none] a)=_;unfold FG;rw[zE s,zE q,r,c,aA];rfl
def zAB(h: ∀p∈ps,CK p)(b:ps.length<=100)(S):zS 1 xT [.new (ps.map atm)] S=.ok (.new ((Ko ps).map MV.str)) S:=by have:=Hd (ps:=ps.map λp=>(.str (Ts p),p.tms)) (λq c=>by obtain⟨p,a,rfl⟩:=mM.mp c;exact h p a) (by rw[lM];exact b) S;rw[List.map_map,List.flatMap_map]at this;exact this
theorem at_e(p)(r)(S):gW [some (pM p r)] S=.ok (.val (atm p)) S:=by
 unfold gW
 cases p with
 |same a b=>
  have c:fQ #[[.str OT,a,b,r],6] (some 1) (some 3) S=.ok #[[a,b],6] S:=rfl;show(bJ _ _) [#[[.str OT,a,b,r],3]] S=_;simp? [Y5,eq_str,č,c];rfl
 |quan x t tms=>
  show(bJ _ _) [#[[.str (Ts (.quan x t tms)),.int t,.tup tms,r],3]] S=_;simp? [Y5,zDR,eq_str,E6,fT,iF];rfl
theorem He(hs:stay gs S): ∀ ps ,xM (yX 0) dZ gW (vN 1 [] ρ) gs (KO ps) S=.ok (ps.map atm) S
 |[]=>rfl
 |p::ps=>by unfold KO xM;rw[show yX 0 (pM p (fM ps)) (vN 1 [] ρ) S=.ok [some (pM p (fM ps))] S from rfl,jX,cH,show dZ [some (pM p (fM ps))] S=.ok true S from rfl,jX,cH,iP rfl,at_e,jX,cH];unfold bD;rw[cH,iP hs,He hs ps,cH];rfl
theorem Ks(h: ∀p∈ps,CK p)(b:ps.length<=100)(S):zS 1 fB [.new (KO ps)] S=.ok (.new ((Ko ps).map MV.str)) S:=by have a:(S++[.lst (KO ps)])[↑0]? =#[KO ps,2]:=zM _ _;refine cI (T:=[.lst (KO ps)]) rfl ?_ (HN _ _);show yP (rL [#[↑0]] (S++[.lst (KO ps)]))=_;unfold rL vA;simp? [kE a,MC,show ps.length<1000000 by omega,He (xP a) ps,zAB h b];rfl
noncomputable def Zd(r:Rw):MV:=.tup [.int r.1,.tup r.2]
noncomputable def flt(rs:List Rw)(t:Int):List Rw:=rs.filter λr=>decide (r.1=t)
abbrev zEA(rs:List Rw)(t:Int):List MV:=(flt rs t).map λr=>.tup r.2
structure Cb(S Z:Sto)(done:List Rw):Prop where
 kp:Kp S Z []
 lt:↑0<Z.length
 ex: ∃C:Ev,Z[↑0]? =#[C,7]/\C.all (λp=>pS p.1)=true/\C.length<=done.length/\(∀t:Int,(look C (.int t)=none/\flt done t=[])\/ ∃q,↑0<q/\look C (.int t)=#[q]/\Z[q]? =#[zEA done t,2])/\ ∀(t t':Int)(q:Nat),look C (.int t)=#[q]->look C (.int t')=#[q]->t=t'
noncomputable abbrev CB(lr n:Nat)(t s:V0):Rho:=[#[lr],#[n],t,s]
theorem tO(done)(r)(t):flt (done++[r]) t=flt done t++if r.1=t then [r]else []:=by
 unfold flt;rw[List.filter_append];by_cases h:r.1=t
 .rw[iP h,List.filter_cons,dT0 h];rfl
 .rw[iN h,List.filter_cons,dF0 h];rfl
theorem JI(C)(k x j):look (C++[(k,x)]) j=(look C j).or (if k=j then some x else none):=by
 rw[CI];congr 1;unfold look;rw[find?_cons];by_cases h:k=j
 .rw[iP h,dT0 h];rfl
 .rw[iN h,dF0 h];rfl
def Ze(H:Cb S Z done)(P:done.length<1000)(r):
  ∃I,wU (CB lr ↑0 #[r.1,0] #[r.2,3]) Z=.ok (.next (CB lr ↑0 #[r.1,0] #[r.2,3])) I/\Cb S I (done++[r]):=by
 obtain⟨kp,j,C,F,f,Q,u,w⟩:=H;have B: ∀t,(zEA done t).length<=done.length:=λt=>by rw[lM];exact Ĉ _ _
 have s:(Z++[MO.lst []])[↑0]? =#[C,7]:=by rw[á j];exact F
 have N:(Z++[MO.lst []])[Z.length]? =#[[],2]:=zM _ _;have a:vI #[↑0,1] Z=true:=by unfold vI;rw[pG F f];rfl
 have E:Kp S (Z++[MO.lst []]) []:=kp.trans (Kp.app _ _ _);have A: ∀{l:Nat}{o:MO}{Y:Sto},Kp S Y []->↑0<=l->Kp S (Y.set l o) []:=λG L=>⟨by rw[ÿ];exact G.1,λk K O=>by rw[zQ (by omega)];exact G.2 k K O⟩
 have i: ∀{y:MV}{Y:Sto},IV #[↑0,1] (.int r.1) (.loc Z.length) (Z++[MO.lst []])=.ok (.val y) Y->Da #[↑0,1] [#[r.1,5],.new []] Z=.ok (.val y) Y:=λh=>h;rcases u r.1 with⟨l1,l2⟩|⟨q,hq,l1,l2⟩
 .
  have v:IV #[↑0,1] (.int r.1) (.loc Z.length) (Z++[MO.lst []])=.ok #[Z.length,1] ((Z++[MO.lst []]).set ↑0 (.dic (C++[(.int r.1,.loc Z.length)]))):=by unfold IV;rw[pG s f];dsimp only;rw[iP ⟨rfl,by omega⟩,l1];dsimp only;rw[OR l1]
  have b:((Z++[MO.lst []]).set ↑0 (.dic (C++[(.int r.1,.loc Z.length)])))[Z.length]? =#[[],2]:=by rw[zQ (by omega)];exact N
  refine⟨((Z++[MO.lst []]).set ↑0 (.dic (C++[(.int r.1,.loc Z.length)]))).set Z.length (.lst [.tup r.2]),?_,A (A E (à _)) (by omega),by simp only[ÿ,lA];omega,C++[(.int r.1,.loc Z.length)],?_,?_,by simp;omega,λt=>?_,λt J q h h'=>?_⟩
  .unfold wU bG;simp? [a,i v,xI b,jE (d:=.tup r.2) b ↑3];rfl
  .rw[zQ (by omega)];exact get_set s
  .rw[List.all_append,f];rfl
  .rw[JI];by_cases e:r.1=t
   .subst e;refine .inr ⟨Z.length,j,by rw[l1,iP rfl];rfl,?_⟩;rw[get_set b];show _=some (MO.lst ((flt (done++[r]) r.1).map _));rw[tO,l2,iP rfl];rfl
   .rw[iN (λz=>e (MV.int.inj z)),Option.or_none];rcases u t with⟨m1,m2⟩|⟨q,hq,m1,m2⟩
    .exact .inl ⟨m1,by rw[tO,m2,iN e];rfl⟩
    .have c:=(gS.mp m2).1;refine .inr ⟨q,hq,m1,?_⟩;rw[zQ (by omega),zQ (by omega),á c,m2];show _=some (MO.lst ((flt (done++[r]) t).map _));rw[tO,iN e,aN]
  .rw[JI]at h h'
   have p: ∀{t:Int},look C (.int t)≠#[Z.length]:=λ{t} z=>by
    rcases u t with⟨m1,_⟩|⟨q,_,m1,m2⟩
    .rw[m1]at z;cases z
    .rw[m1]at z;cases z;have:=(gS.mp m2).1;omega
   have n: ∀{t:Int},(look C (.int t)).or (if MV.int r.1=MV.int t then some (MV.loc Z.length)else none)=#[q]->look C (.int t)=#[q]\/(r.1=t/\q=Z.length):=λ{t} h=>by
    cases z:look C (.int t)with
    |some d=>rw[z]at h;exact .inl h
    |none=>
     rw[z]at h;by_cases e:MV.int r.1=MV.int t
     .rw[iP e]at h;have h:some (MV.loc Z.length)=#[q]:=h;cases h;exact .inr ⟨MV.int.inj e,rfl⟩
     .rw[iN e]at h;cases h
   rcases n h with h|⟨h,hq⟩<;>rcases n h' with h'|⟨h',hq'⟩
   .exact w t J q h h'
   .rw[hq']at h;exact absurd h p
   .rw[hq]at h';exact absurd h' p
   .rw[<-h, <-h']
 .have v:IV #[↑0,1] (.int r.1) (.loc Z.length) (Z++[MO.lst []])=.ok #[q,1] (Z++[MO.lst []]):=by unfold IV;rw[pG s f];dsimp only;rw[iP ⟨rfl,by omega⟩,l1]
  have c:=(gS.mp l2).1;have b:(Z++[MO.lst []])[q]? =#[zEA done r.1,2]:=by rw[á c];exact l2
  have M:=B r.1;refine⟨(Z++[MO.lst []]).set q (.lst (zEA done r.1++[.tup r.2])),?_,A E (by omega),by simp only[ÿ,lA];omega,C,?_,f,by simp;omega,λt=>?_,w⟩
  .unfold wU bG;simp? [a,i v,xI b,jE (d:=.tup r.2) b (show(zEA done r.1).length<1000000 by omega)]
  .rw[zQ (by omega)];exact s
  .by_cases e:r.1=t
   .subst e;refine .inr ⟨q,hq,l1,?_⟩;rw[get_set b];show _=some (MO.lst ((flt (done++[r]) r.1).map _));rw[tO,iP rfl,ó];rfl
   .rcases u t with⟨m1,m2⟩|⟨q',hq',m1,m2⟩
    .exact .inl ⟨m1,by rw[tO,m2,iN e];rfl⟩
    .have m:=(gS.mp m2).1;have D:q≠q':=λz=>by subst z;exact e (w _ _ _ l1 m1)
     refine .inr ⟨q',hq',m1,?_⟩;rw[zQ D,á m,m2];show _=some (MO.lst ((flt (done++[r]) t).map _));rw[tO,iN e,aN]
theorem Rp(d: ∀q∈gs,S[q.1]? =#[q.2,2]): ∀ e c  Z  a b ,Cb S Z c->c.length+e.length<=1000->
  ∃f i h,kZ (KB 2 (zV (yX 2) (zV (yX 3) gV))) wU gs (e.map Zd) (CB lr ↑0 a b) Z=.ok (.next (CB lr ↑0 i h)) f/\Cb S f (c++e)
 |[],c,Z,a,b,H,_=>⟨Z,a,b,rfl,by rw[aN];exact H⟩
 |r::e,c,Z,a,b,H,hl=>by rw[lC]at hl;obtain⟨m,p,j⟩:=Ze (lr:=lr) H (by omega) r;obtain⟨f,i,h,o,k⟩:=Rp d e (c++[r]) m #[r.1,0] #[r.2,3] j (by simp;omega);refine⟨f,i,h,?_,by rw[aA]at k;exact k⟩;rw[ã,zZ (show KB 2 (zV (yX 2) (zV (yX 3) gV)) (Zd r) (CB lr S.length a b) Z=.ok (CB lr S.length #[r.1,0] #[r.2,3]) Z from rfl) p (λq n=>j.kp.at (d q n) (by simp))];exact o
def Rq(f:S[lr]? =#[rows.map Zd,2])(A:rows.length<=100):
  ∃Z,zS 1 xU [#[lr,1]] S=.ok #[↑0,1] Z/\Kp S Z []/\↑0<Z.length/\COk Z ↑0 rows:=by
 have e:=(gS.mp f).1;have p:Cb S (S++[.dic []]) []:=⟨Kp.app _ _ _,by simp,[],zM _ _,rfl,à _,λt=>.inl ⟨rfl,rfl⟩,λt y q h=>by cases h⟩
 obtain⟨Z,a,b,j,d⟩:=Rp (lr:=lr) (gs:=[(lr,rows.map Zd)]) (λq w=>by rw[mS.mp w];exact f) rows [] (S++[.dic []]) none none p (by simp only[ç];omega);rw[Ě]at d;have s:dE [#[lr],none,none,none] S=.ok (.next (CB lr ↑0 none none)) (S++[.dic []]):=by unfold dE;simp? [RZ]
 have u:dF (CB lr ↑0 none none) (S++[.dic []])=.ok (.next (CB lr ↑0 a b)) Z:=by unfold dF;simp? [kE (show(S++[MO.dic []])[lr]? =#[rows.map Zd,2] by rw[á e];exact f)];exact j
 obtain⟨kp,c,C,i,r,z,v,B⟩:=d;have n:xU [.loc lr] S=.ok #[↑0,1] Z:=by show yP (aQ [#[lr],none,none,none] S)=_;unfold aQ;rw[zE s,zE u];rfl
 obtain⟨T,o⟩: ∃T,Z=S++.dic C::T:=by
  refine⟨Z.drop (↑0+1),?_⟩
  have j:Z.take ↑0=S:=by
   apply ext_getElem?;intro k;by_cases m:k<↑0
   .rw[Ē m];exact kp.2 k m (by simp)
   .rw[Ġ (by rw[lT];omega),Ġ (by omega)]
  have d:Z.drop ↑0=.dic C::Z.drop (↑0+1):=by rw[Į c];rw[gE0 c]at i;rw[â i]
  conv=>lhs;rw[<-List.take_append_drop ↑0 Z,j,d]
 rw[o]at n;refine⟨Z,by rw[o];exact OP rfl n,kp,c,C,i,r,λt=>?_⟩;rcases v t with h|⟨q,_,h3,h4⟩
 .exact .inl h
 .exact .inr ⟨q,h3,h4⟩
section
def Rr(h:Z[n]? =some (.rcd "Reading" fs))(a:fs.length<1000)(ρ)(x):SV "Reading" fld ρ x #[n,1] Z=.ok (.next ρ) (Z.set n (.rcd "Reading" (Dc fld x fs))):=by unfold SV NW;dsimp only;rw[h];dsimp only;rw[iP rfl];dsimp only;rw[iP a]
def Rt(b:f (#[n]::o) S=.ok (.val x) S')(h:S'[n]? =some (.rcd "Reading" fs))(a:fs.length<1000):E4 "Reading" fld f (vJ 0) (#[n]::o) S=.ok (.next (#[n]::o)) (S'.set n (.rcd "Reading" (Dc fld x fs))):=by unfold E4;rw[b,cH,show bD (.val x) S'=.ok x S' from rfl,cH,show vJ 0 (#[n]::o) S'=.ok #[n,1] S' from rfl,cH];exact Rr h a _ _
def Ru(b:f (#[n]::o) S=.ok (.new ds) S')(h:S'[n]? =some (.rcd "Reading" fs))(a:fs.length<1000):E4 "Reading" fld f (vJ 0) (#[n]::o) S=.ok (.next (#[n]::o)) ((S'++[MO.lst ds]).set n (.rcd "Reading" (Dc fld (.loc S'.length) fs))):=by unfold E4;rw[b,cH,show bD (.new ds) S'=.ok (.loc S'.length) (S'++[MO.lst ds])from rfl,cH,show vJ 0 (#[n]::o) (S'++[MO.lst ds])=.ok #[n,1] (S'++[MO.lst ds])from rfl,cH];exact Rr (by rw[á (gS.mp h).1];exact h) a _ _
end
theorem Ae: ∀ ps  i ,(KO ps).drop i=KO (ps.drop i)
 |_,0=>rfl
 |[],i+1=>rfl
 |p::ps,i+1=>Ae ps i
def Zf(U: ∀p∈ps,CK p)(hl:ps.length<=100)(hR:zFA rows)(hr:S[lr]? =#[rows.map Zd,2]):
  ∃B a b c d,xC [.loc ↑0,fM ps,.loc lr] (S++[.rcd "Reading" []])=.ok (.val .non) B/\MS rows ps B ↑0 a b c d/\Kp S B []/\↑0<d:=by
 have ab:=(gS.mp hr).1;obtain⟨Z,J⟩: ∃Z,Z=S++[MO.rcd "Reading" []]:=⟨_,rfl⟩
 obtain⟨u,m⟩: ∃u:Rho,u=[#[↑0],some (fM ps),#[lr]]:=⟨_,rfl⟩
 have z0:Z[↑0]? =some (.rcd "Reading" []):=by rw[J];exact zM _ _
 have lZ:Z.length=↑0+1:=by rw[J];simp
 obtain⟨j,y⟩: ∃j,j=(Z++[MO.lst (KO ps)]).set ↑0 (.rcd "Reading" [("steps",.loc Z.length)]):=⟨_,rfl⟩
 have e1:fX u Z=.ok (.next u) j:=by rw[y,m];exact Ru (f:=fJ 1 dD (yJ (vJ 1) wJ)) (show fJ 1 dD (yJ (vJ 1) wJ) [#[↑0],some (fM ps),#[lr]] Z=.ok (.new (KO ps)) Z by simp? [Rm U hl]) z0 ↑3
 have Y:j.length=↑0+2:=by rw[y,ÿ,lA,lZ];rfl
 have Q:j[↑0]? =some (.rcd "Reading" [("steps",.loc Z.length)]):=by rw[y];exact get_set (by rw[á (by omega)];exact z0)
 have W:j[Z.length]? =#[KO ps,2]:=by rw[y,zQ (by omega)];exact zM _ _
 have k1:Kp S j [↑0]:=by rw[y,J];exact((Kp.app S _ _).trans (Kp.app _ _ _)).trans (Kp.set _ _ (by simp))
 obtain⟨g,hg⟩: ∃g:Nat->List MV,g=λi=>(Ko (ps.drop i)).map MV.str:=⟨_,rfl⟩
 obtain⟨n,v⟩: ∃n,n=j++(List.range ps.length).map λi=>MO.lst (g i):=⟨_,rfl⟩
 obtain⟨as,H⟩: ∃as,as=(List.range' j.length ps.length).map MV.loc:=⟨_,rfl⟩
 have z:xM (yX 0) jY wK (vN 1 [0] u) [] ((List.range ps.length).map zH) j=.ok as n:=by
  have h:=FN (f:=zH) (g:=g) (gf:=yX 0) (cf:=jY) (ef:=wK) (ρb:=vN 1 [0] u) (S:=j) (List.range ps.length) (λi hi T=>by
   refine⟨[some (zH i),#[↑0]],by rw[m];rfl,rfl,?_⟩;have rT:(j++T)[↑0]? =some (.rcd "Reading" [("steps",.loc Z.length)]):=by rw[á (by omega)];exact Q
   have sT:(j++T)[Z.length]? =#[KO ps,2]:=by rw[á (by omega)];exact W
   have K:=Ks (ps:=ps.drop i) (λp h=>U p (mem_of_mem_drop h)) (by rw[Ć];omega) (j++T);rw[<-Ae, <-tM]at K;unfold wK;simp? [uM rT (show List.lookup ("steps":Str) [("steps",MV.loc Z.length)]=#[Z.length]from rfl),WF sT,K];rw[hg]) []
  rw[aN,ç,Nat.add_zero,ù]at h;rw[H,v];exact h
 have M:n.length=↑0+2+ps.length:=by rw[v];simp[Y]
 have r2:n[↑0]? =some (.rcd "Reading" [("steps",.loc Z.length)]):=by rw[v,á (by omega)];exact Q
 obtain⟨k,s⟩: ∃k,k=(n++[MO.lst as]).set ↑0 (.rcd "Reading" [("steps",.loc Z.length),("asked",.loc n.length)]):=⟨_,rfl⟩
 have e2:fY u j=.ok (.next u) k:=by
  rw[s,m];refine(Ru (f:=pJ _ _ _ _ 1 [0]) (ds:=as) ?_ r2 (by show 1<1000;decide)).trans ?_
  .have D:=dX W;rw[MC]at D;rw[m]at z;simp? [uM Q (show List.lookup ("steps":Str) [("steps",MV.loc Z.length)]=#[Z.length]from rfl),D,Kj (show ps.length<=1000 by omega),lM,ù,show ps.length<1000000 by omega,z]
  .rfl
 have E:Kp j k [↑0]:=by rw[s,v];exact((Kp.app j _ _).trans (Kp.app _ _ _)).trans (Kp.set _ _ (by simp))
 have N:Kp n k [↑0]:=by rw[s];exact(Kp.app _ _ _).trans (Kp.set _ _ (by simp))
 have ae:k.length=↑0+3+ps.length:=by rw[s];simp[M];omega
 have r3:k[↑0]? =some (.rcd "Reading" [("steps",.loc Z.length),("asked",.loc n.length)]):=by rw[s];exact get_set (by rw[á (by omega)];exact r2)
 have a3:k[n.length]? =#[as,2]:=by rw[s,zQ (by omega)];exact zM _ _
 have O:k[lr]? =#[rows.map Zd,2]:=(k1.trans E).at hr (by simp only[mC,nM,or_false];omega);obtain⟨F,c1,c2,c3,c4⟩:=Rq O hR.2;have r4:F[↑0]? =some (.rcd "Reading" [("steps",.loc Z.length),("asked",.loc n.length)]):=c2.at r3 (by simp);obtain⟨r,w⟩: ∃r,r=F.set ↑0 (.rcd "Reading" [("steps",.loc Z.length),("asked",.loc n.length),("cells",.loc k.length)]):=⟨_,rfl⟩
 have e3:fZ u k=.ok (.next u) r:=by rw[w,m];exact Rt (f:=fJ 1 xU (yJ (vJ 2) wJ)) (show fJ 1 xU (yJ (vJ 2) wJ) [#[↑0],some (fM ps),#[lr]] k=.ok #[k.length,1] F by simp? [c1]) r4 (by show 2<1000;decide)
 have A:Kp k r [↑0]:=by rw[w];exact(c2.sub λx hx=>by simp at hx).trans (Kp.set _ _ (by simp))
 have P:Kp F r [↑0]:=by rw[w];exact Kp.set _ _ (by simp)
 have r5:r[↑0]? =some (.rcd "Reading" [("steps",.loc Z.length),("asked",.loc n.length),("cells",.loc k.length)]):=by rw[w];exact get_set r4
 have aa:r.length=F.length:=by rw[w,ÿ]
 obtain⟨B,L⟩: ∃B,B=(r++[MO.dic []]).set ↑0 (.rcd "Reading" (Tt Z.length n.length k.length r.length)):=⟨_,rfl⟩
 have e4:iA u r=.ok (.next u) B:=by rw[L,m];refine(Rt (f:=zJ) (x:=.loc r.length) (S':=r++[.dic []]) rfl (by rw[á (by omega)];exact r5) (by show 3<1000;decide)).trans rfl
 have G:Kp r B [↑0]:=by rw[L];exact(Kp.app _ _ _).trans (Kp.set _ _ (by simp))
 have kS:Kp S B [↑0]:=((k1.trans E).trans A).trans G;have I: ∀{l:Nat},l≠↑0->l∉[↑0]:=λh=>by simpa using h
 refine⟨B,Z.length,n.length,k.length,r.length,?_,⟨?_,?_,?_,?_,?_,by omega,U,hl,hR⟩,⟨kS.1,λl X _=>kS.2 l X (I (by omega))⟩,by omega⟩
 .show yP (yQ [#[↑0],some (fM ps),#[lr]] _)=_;rw[<-J, <-m];unfold yQ;rw[zE e1,zE e2,zE e3,e4];rfl
 .rw[L];exact get_set (by rw[á (by omega)];exact r5)
 .exact((E.trans A).trans G).at W (I (by omega))
 .refine⟨as,(A.trans G).at a3 (I (by omega)),λi hi=>⟨j.length+i,?_,?_⟩⟩
  .rw[H,ï,List.getElem?_range' hi];simp
  .refine((N.trans A).trans G).at ?_ (I (by omega));rw[v,é (by omega),Nat.add_sub_cancel_left,ï,getElem?_range hi,hg];rfl
 .obtain⟨C,h1,h2,h3⟩:=c4;have up: ∀{l:Nat}{o:MO},F[l]? =some o->(∀c fs,o≠.rcd c fs)->B[l]? =some o:=λ{l o} h K=>(P.trans G).at h (I λe=>by subst e;rw[r4]at h;exact K _ _ (â h).symm);refine⟨C,up h1 (by simp),h2,λt=>?_⟩;rcases h3 t with h|⟨q,h4,h5⟩
  .exact .inl h
  .exact .inr ⟨q,h4,up h5 (by simp)⟩
 .rw[L,zQ (by omega)];exact zM _ _
def Zg(k:Kp S Z []):Z.take ↑0=S:=by
 apply ext_getElem?;intro j;by_cases a:j<↑0
 .rw[Ē a];exact k.2 j a (by simp)
 .rw[Ġ (by rw[lT];omega),Ġ (by omega)]
def Zh(k:Kp S Z xs): ∃c,bY S (.val (.bl b)) Z=.ok (.val (.bl b)) c/\Kp S c xs:=by
 unfold bY;split
 .dsimp only;rw[iP (RW _ _)];refine⟨_,rfl,by rw[lT];have:=k.1;omega,λl a d=>?_⟩;rw[Ē a];exact k.2 l a d
 .exact⟨_,rfl,k⟩
def zEB(M:MS rows ps S ls a b c d)(e:S[le]? =#[E,7])(C:mV E)(n:E.length+100 * ps.length<=1000)(s:le≠d)(A:Ab rows.length ps<1000000):
  ∃i,zS 2 yR [#[ls,1],#[le,1]] S=.ok (.val (.bl (hold rows ps E))) i/\Kp S i [d]:=by
 have f:=(gS.mp e).1;have o:=(gS.mp M.dd).1;have w:Cur S (S++[MO.lst []]) d []:=⟨by simp,λl j _=>á j,by rw[á o];exact M.dd⟩
 obtain⟨r,m,L,B⟩:=F2 (v:=.loc le) (lt:=↑0) M (à _) ps.length 0 (by omega) (S++[MO.lst []]) [] E [] le none none none w (λq h=>by simp at h) (zM _ _) rfl (by rw[á f];exact e) C n s (by rw[drop_zero];simpa using A);obtain⟨k,st,y,N,T,p,Q,t,W,U,z,u,X⟩:=B.go;rw[drop_zero]at Q t;have J:jZ [#[ls],#[le],none,none,none,none,none] S=.ok (.next (HW ls (.loc le) ↑0 none none none none)) (S++[.lst []]):=by unfold jZ;simp? []
 have O:hX (HW ls (.loc le) ↑0 none none none none) (S++[.lst []])=.ok (.next (HW ls (.loc le) ↑0 (some r) none none none)) m:=by
  unfold hX;have H:RJ "Reading" "enter" 3 zX (vJ 0) (yJ (vJ 2) (yJ (vJ 1) wJ)) (HW ls (.loc le) ↑0 none none none none) (S++[MO.lst []])=.ok (.val r) m:=by unfold RJ;simp? [E8 M w,Ac,L]
  simp? [H]
 have I:nG (HW ls (.loc le) ↑0 (some r) none none none) m=.ok (.next (HW ls (.loc le) ↑0 (some (.bl (hold rows ps E))) st y N)) p:=by show WL 100000000 _ _=_;rw[show(100000000:Nat)=k+((99999999 - k)+1) by omega,t];refine sX ?_;unfold xE;simp? [qQ z];rfl
 have F:yR [.loc ls,.loc le] S=.ok (.val (.bl (hold rows ps E))) p:=by show yP (yF [#[ls],#[le],none,none,none,none,none] S)=_;unfold yF;rw[zE J,zE O,zE I];rfl
 have K:Kp S p [d]:=⟨ì (by simp) u.1,λl j P=>by rw[u.2 l (by rw[lA];omega) (by simp only[mC,nM,or_false]at P ⊢; omega),á j]⟩
 obtain⟨i,G,D⟩:=Zh (b:=hold rows ps E) K;refine⟨i,?_,D⟩;unfold zS;rw[iP (show [Er.val (.loc ls),#[le,1]].length=2 from rfl),show zP [#[ls,1],#[le,1]] S=([.loc ls,.loc le],S)from rfl,F];exact G
def zAC(k:Kp S Z []):Em S Z:=⟨k.1,λl a=>.inl (k.2 l a (by simp))⟩
def Rv(c:rs.length=n)(a:F (zP rs S).1 (zP rs S).2=.ok (.val (.bl b)) Z)(k:Kp S Z []):zS n F rs S=.ok (.val (.bl b)) S:=by unfold zS;rw[iP c,a];show bY S (.val (.bl b)) Z=_;unfold bY;rw[iP (zAC k)];dsimp only;rw[iP (RW _ _),Zg k]
theorem zEC(a b c d):List.lookup ("holds_with":Str) (Tt a b c d)=none:=rfl
theorem Rx(w: ∀p∈ps,CK p)(A:ps.length<=9)(u:zFA rows)(t:Ab rows.length ps<1000000)(s:S[lr]? =#[rows.map Zd,2])(e:S[le]? =#[E,7])(q:mV E)(r:E.length<=100):
  zS 3 LS [.val (fM ps),#[lr,1],#[le,1]] S=.ok (.val (.bl (hold rows ps E))) S:=by
 obtain⟨B,a,b,c,d,y,M,h,z⟩:=Zf w (by omega) u s;have n:=(gS.mp e).1;obtain⟨m,v,o⟩:=zEB M (h.at e (by simp)) q (by omega) (by omega) t;have k:Kd "Reading" 3 xC [.val (fM ps),#[lr,1]] S=.ok #[↑0,1] B:=by unfold Kd;rw[iP (show [Er.val (fM ps),#[lr,1]].length+1=3 from rfl),show zP [#[↑0,1],.val (fM ps),#[lr,1]] (S++[.rcd "Reading" []])=([.loc ↑0,fM ps,.loc lr],S++[.rcd "Reading" []])from rfl,y];rfl
 have i:NW "Reading" #[↑0,1] B=some (↑0,Tt a b c d):=by unfold NW;dsimp only;rw[M.rc];dsimp only;rw[iP rfl]
 refine Rv (Z:=m) rfl ?_ ⟨ì h.1 o.1,λl f _=>by rw[o.2 l (æ f h.1) (by simp only[mC,nM,or_false];omega),h.2 l f (by simp)]⟩;show yP (VM [some (fM ps),#[lr],#[le]] S)=_;unfold VM SY;have j:RJ "Reading" "holds_with" 2 yR (bJ (yJ (vJ 0) (yJ (vJ 1) wJ)) (Kd "Reading" 3 xC)) (yJ (vJ 2) wJ) [some (fM ps),#[lr],#[le]] S=.ok (.val (.bl (hold rows ps E))) m:=by unfold RJ;simp? [k,i,zEC,v]
 simp? [j];rfl
section
variable(K F:Nat->List (List Nat))(n:Nat)
inductive Kn(i:Nat):List Nat->Prop
 |key {x:Db}:x∈K i->Kn i x
 |step {x:Db} (j:Nat):j<n->j≠i->(∀y,y∈K j->Kn i y)->x∈F j->Kn i x
inductive Rc(i:Nat):Nat->Prop
 |self:Rc i i
 |step {x:Db} (j k:Nat):Rc i j->k<n->x∈F j->x∈F k-> ¬Kn K F n i x->Rc i k
end
def DY(tms:U0):List (List Nat):=bU [] (tms.filterMap vn)
def WM(c: ∀d∈tms,jQ d)(a:tms.length<=100)(S):zS 1 xT [.new [.tup [tm0,.tup tms]]] S=.ok (.new ((DY tms).map MV.str)) S:=by have:=Hd (ps:=[(tm0,tms)]) (λq b=>by rw[mS.mp b];exact⟨c,a⟩) (show 1<=100 by decide) S;rw[flatMap_cons,List.flatMap_nil,aN]at this;exact this
def Dk(hs:Ch)(tms:U0):List (List Nat):=(DY tms).filter λx=>!decide (x∈hs)
theorem Hf(i: ∀d∈tms,jQ d)(h:tms.length<=100)(S):zS 2 wL [#[[.tup (hs.map MV.str),at'],6],#[[tm0,.tup tms],6]] S=.ok (.new ((Dk hs tms).map MV.str)) S:=by
 have j:(DY tms).length<=tms.length:=by have k:=bM (tms.filterMap vn) [];have m:=ċ vn tms;rw[ç]at k;unfold DY;omega
 have a:=KN (S:=S) (gf:=yX 0) (cf:=aS) (ef:=tF) (ρb:=[none,#[[.tup (hs.map MV.str),at'],3]]) (gs:=[]) (p:=λd=>match d with |.str x=>!decide (x∈hs)|_=>false) (kG S) (ds:=(DY tms).map MV.str) λd b=>by obtain⟨y,n,rfl⟩:=mM.mp b;refine⟨[#[y,4],#[[.tup (hs.map MV.str),at'],3]],rfl,?_,rfl⟩;unfold aS;simp? [CF,X6,if_true]
 have c:((DY tms).map MV.str).filter (λd=>match d with |.str x=>!decide (x∈hs)|_=>false)=(Dk hs tms).map MV.str:=by unfold Dk;rw[List.filter_map];rfl
 rw[c]at a;have e:((DY tms).map MV.str).length<1000000:=by rw[lM];omega
 refine cI (T:=[]) rfl ?_ (kO λd b=>by obtain⟨y,_,rfl⟩:=mM.mp b;exact AI _ _);rw[aN];show yP (tZ [#[[.tup (hs.map MV.str),at'],3],#[[tm0,.tup tms],3]] S)=_;have f:oH [#[[.tup (hs.map MV.str),at'],3],#[[tm0,.tup tms],3]] S=.ok (.ret (.new ((Dk hs tms).map MV.str))) S:=by unfold oH;simp? [lst1,WM i h,show∀(ds:U0)(S:Sto),vM (.new ds) S=.ok ⟨ds,[]⟩ S from λ_ _=>rfl,e,show vN 1 [0] [some (MV.tup [.tup (hs.map MV.str),at']),#[[tm0,.tup tms],3]]=[none,#[[.tup (hs.map MV.str),at'],3]]from rfl,a]
 unfold tZ;rw[f];rfl
def pK:x∈Dk hs tms↔x∈tms.filterMap vn/\x∉hs:=by unfold Dk DY;rw[ñ,cP];simp
theorem zAD{ts:Tk}(a:uT (ts.map tbl) t=some (tbl p))(b:0<=p.2)(f: ∀d∈tms,jQ d)(i:tms.length<=100)(S):
  zS 3 dP [#[ts.map tbl,6],#[[.tup (hs.map MV.str),at'],6],#[[.int t,.tup tms],6]] S=.ok (.new ((Dk hs (tms.take p.2.toNat)).map MV.str)) S:=by
 refine cI (T:=[]) rfl ?_ (kO λd a=>by obtain⟨y,_,rfl⟩:=mM.mp a;exact AI _ _);rw[aN];show yP (BG [#[ts.map tbl,3],#[[.tup (hs.map MV.str),at'],3],#[[.int t,.tup tms],3],none] S)=_;have h:rN [#[ts.map tbl,3],#[[.tup (hs.map MV.str),at'],3],#[[.int t,.tup tms],3],none] S=.ok (.next [#[ts.map tbl,3],#[[.tup (hs.map MV.str),at'],3],#[[.int t,.tup tms],3],#[p.2,0]]) S:=by unfold rN;simp? [CF,ix_tup (S:=S) a,show∀S:Sto,xK (.val (tbl p)) #[1,5] S=.ok #[p.2,5] S from λ_=>rfl]
 have e:=Hf (hs:=hs) (at':=at') (tm0:=.int t) (tms:=tms.take p.2.toNat) (λd a=>f d (ķ a)) (by rw[lT];omega) S;have c:rO [#[ts.map tbl,3],#[[.tup (hs.map MV.str),at'],3],#[[.int t,.tup tms],3],#[p.2,0]] S=.ok (.ret (.new ((Dk hs (tms.take p.2.toNat)).map MV.str))) S:=by unfold rO;simp? [CF,tL,Gn,GS _ _ b,tup2,e]
 unfold BG;rw[zE h,c];rfl
def Zi(h:x∈Dk hs (tms.take k)):x∈Dk hs tms:=by rw[pK]at h ⊢;refine⟨?_,h.2⟩;obtain⟨d,a,e⟩:=Đ.mp h.1;exact Đ.mpr ⟨d,ķ a,e⟩
noncomputable abbrev zED(x:Db):MV:=.tup [.str x,.bl true]
theorem Af: ∀xs:List (List Nat),AS (xs.map zED)=some (dT xs)
 |[]=>rfl
 |x::xs=>by rw[ã];unfold AS;rw[iP (show pS (.str x)=true from rfl),Af xs];rfl
theorem WN: ∀ xs a ,HA (dT a) (dT xs)=dT (bU a xs)
 |[],a=>rfl
 |x::xs,a=>by show HA (putK (dT a) (.str x) (.bl true)) (dT xs)=dT (bU (uL a x) xs);rw[Qb,WN xs]
def Hg(xs)(S):ZA [.new (xs.map zED)] S=.ok #[S.length,1] (S++[.dic (dT (bU [] xs))]):=by show(match AS (xs.map zED)with |some kvs=>R.ok (Er.val (.loc S.length)) (S++[MO.dic (Pe kvs)])|none=>.no)=_;rw[Af];show R.ok (Er.val (.loc S.length)) (S++[MO.dic (HA (dT []) (dT xs))])=_;rw[WN]
def Ry(neg)(h:S[l]? =#[dT ks,7])(x):DV neg (.val (.str x)) #[l,1] S=.ok (.val (.bl (if neg=true then !decide (x∈ks)else decide (x∈ks)))) S:=by unfold DV;dsimp only;rw[pG h (OO ks)];dsimp only;rw[iP (show pS (.str x)=true from rfl),Gi]
def Hh(h:S[l]? =#[dT ks,7]):SS [#[l,1]] S=.ok #[ks.length,5] S:=by unfold SS;dsimp only;rw[pG h (OO ks)];dsimp only;rw[show(dT ks).length=ks.length by unfold dT;rw[lM]]
theorem Zj(h:S[l]? =#[dT ks,7]):vI #[l,1] S=true:=by unfold vI;rw[pG h (OO ks)];rfl
def Zk(h:S[l]? =#[dT ks,7])(c:S[m]? =#[dT xs,7])(a:l≠m)(b:ks.length+xs.length<1000000):EF #[l,1] [#[m,1]] S=.ok (.val .non) (S.set l (.dic (dT (bU ks xs)))):=by unfold EF;dsimp only;rw[pG h (OO ks)];dsimp only;rw[pG c (OO xs)];dsimp only;rw[iP ⟨a,by rw[show(dT ks).length=ks.length by unfold dT;rw[lM],show(dT xs).length=xs.length by unfold dT;rw[lM]];exact b⟩,WN]
noncomputable def aM(a:Int×List MV):MV:=.tup [.int a.1,.tup a.2]
abbrev qM(hs:Ch)(as:X0):MV:=.tup [.tup (hs.map MV.str),.tup (as.map aM)]
structure AOk(ts:Tk)(a:Int×List MV):Prop where
 tb: ∃p,uT ts a.1=some p/\0<=p.2
 tm: ∀d∈a.2,jQ d
 len:a.2.length<=4
def QR(ts:Tk)(hs:Ch)(a:Int×List MV):List (List Nat):=Dk hs (a.2.take ((uT ts a.1).getD (0,0)).2.toNat)
abbrev PX(hs:Ch)(a:Int×List MV):List (List Nat):=Dk hs a.2
def Rz(h:AOk ts a)(S):zS 3 dP [#[ts.map tbl,6],#[[.tup (hs.map MV.str),d],6],.val (aM a)] S=.ok (.new ((QR ts hs a).map MV.str)) S:=by obtain⟨p,b,c⟩:=h.tb;have e:=zAD (ts:=ts) (t:=a.1) (p:=p) (hs:=hs) (at':=d) (tms:=a.2) (by rw[Ye,b];rfl) c h.tm (by have:=h.len;omega) S;unfold QR;rw[b];exact e
def F4(h:AOk ts a)(S):zS 2 wL [#[[.tup (hs.map MV.str),d],6],.val (aM a)] S=.ok (.new ((PX hs a).map MV.str)) S:=Hf h.tm (by have:=h.len;omega) S
def Sa(hs)(tms):(Dk hs tms).length<=tms.length:=by have b:=bM (tms.filterMap vn) [];have c:=ċ vn tms;have a:=Ĉ (λx=>!decide (x∈hs)) (DY tms);rw[ç]at b;unfold Dk;unfold DY at a ⊢;omega
def JK(h:AOk ts a):(PX hs a).length<=4:=ì (Sa hs a.2) h.len
def Sb(h:AOk ts a):(QR ts hs a).length<=4:=ì (Sa hs _) (by rw[lT];have:=h.len;omega)
def stK(ts:Tk)(hs ks:Ch)(a:Int×List MV):List (List Nat):=if(QR ts hs a).all (λx=>decide (x∈ks))=true then bU ks (bU [] (PX hs a))else ks
abbrev KA(ts:Tk)(q:MV)(i:Nat)(as oth:U0)(l:Nat)(b:Int)(o:V0):Rho:=[#[ts.map tbl,3],some q,#[i,0],#[as,3],#[oth,3],#[l],#[b,0],o]
def Zl(h:AOk ts a)(S T)(z:ks.length<=1000):
  ∃w,mG (KA ts (.tup [.tup (hs.map MV.str),qd]) i as oth ↑0 b (some (aM a))) (S++.dic (dT ks)::T)=.ok (.next (KA ts (.tup [.tup (hs.map MV.str),qd]) i as oth ↑0 b (some (aM a)))) (S++.dic (dT (stK ts hs ks a))::w):=by
 obtain⟨m,j⟩: ∃m:Sto,m=S++.dic (dT ks)::T:=⟨_,rfl⟩
 have k:m[↑0]? =#[dT ks,7]:=by rw[j];exact JG _ _ _
 have o:xM (yX 0) BI oK [none,#[↑0]] [] ((QR ts hs a).map MV.str) m=.ok ((QR ts hs a).map λx=>.bl (decide (x∈ks))) m:=
  gN (kG _) λx _=>⟨[#[x,4],#[↑0]],rfl,rfl,by unfold oK;simp? [Ry false k x,fT,iF]⟩
 have v:((QR ts hs a).map MV.str).length<1000000:=by rw[lM];have:=Sb (hs:=hs) h;omega
 have y:((PX hs a).map MV.str).length<1000000:=by rw[lM];have:=JK (hs:=hs) h;omega
 have u:xM (yX 0) BK oM [none] [] ((PX hs a).map MV.str) m=.ok ((PX hs a).map zED) m:=
  gN (kG _) λx _=>⟨[#[x,4]],rfl,rfl,by unfold oM;simp? [tup2]⟩
 have n: ∀a b c d e f g h:Option MV,vN 1 [5] [a,b,c,d,e,f,g,h]=[none,f]:=λ_ _ _ _ _ _ _ _=>rfl;have r: ∀a b c d e f g h:Option MV,vN 1 [] [a,b,c,d,e,f,g,h]=[none]:=λ_ _ _ _ _ _ _ _=>rfl;unfold mG BL;rw[<-j];unfold stK;by_cases q:(QR ts hs a).all (λx=>decide (x∈ks))=true
 .have s:(m++[.dic (dT (bU [] (PX hs a)))])[↑0]? =#[dT ks,7]:=by rw[á (gS.mp k).1];exact k
  have t:↑0≠m.length:=by rw[j,lA,lC];omega
  have p:ks.length+(bU [] (PX hs a)).length<1000000:=by have:=bM (PX hs a) [];have:=JK (hs:=hs) h;rw[ç]at *;omega
  refine⟨T++[.dic (dT (bU [] (PX hs a)))],?_⟩;rw[iP q];simp? [Rz h,CG,v,n,o,Gj,q,Zj k,F4 h,y,r,u,Hg,Zk s (zM _ _) t p];rw[j,aA,List.cons_append,Yh]
 .refine⟨T,?_⟩;rw[iN q, <-j];simp? [Rz h,CG,v,n,o,Gj,q,fT,iF]
def Hi(ts)(hs ks)(a): ∃t,stK ts hs ks a=ks++t:=by
 have b: ∀(xs ks:Ch), ∃t,bU ks xs=ks++t:=by
  intro xs
  induction xs with
  |nil=>exact λks=>⟨[],(aN _).symm⟩
  |cons x xs ih=>
   intro ks;obtain⟨t,e⟩:=ih (uL ks x);show∃t,bU (uL ks x) xs=ks++t;rw[e];unfold uL;split
   .exact⟨t,rfl⟩
   .exact⟨x::t,by rw[aA];rfl⟩
 unfold stK;split
 .exact b _ _
 .exact⟨[],(aN _).symm⟩
theorem WO(ts)(hs): ∀(oth:X0) ks , ∃t,oth.foldl (stK ts hs) ks=ks++t
 |[],ks=>⟨[],(aN _).symm⟩
 |a::oth,ks=>by obtain⟨t,e⟩:=Hi ts hs ks a;obtain⟨u,b⟩:=WO ts hs oth (stK ts hs ks a);exact⟨t++u,by rw[ħ,b,e,aA]⟩
theorem Ag(ts)(hs): ∀(oth:X0) ks ,oth.foldl (stK ts hs) ks=ks-> ∀a∈oth,stK ts hs ks a=ks
 |[],_,_,a,ha=>by simp at ha
 |c::oth,ks,h,a,ha=>by
  rw[ħ]at h;obtain⟨t,e⟩:=Hi ts hs ks c;obtain⟨u,d⟩:=WO ts hs oth (stK ts hs ks c);have i:ks++(t++u)=ks++[]:=by rw[aN, <-aA, <-e, <-d,h]
  have f:t=[]:=(List.append_eq_nil_iff.mp (List.append_cancel_left i)).1;have b:stK ts hs ks c=ks:=by rw[e,f,aN]
  rcases mC.mp ha with rfl|ha
  .exact b
  .rw[b]at h;exact Ag ts hs oth ks h a ha
def zAE(h:ks.Nodup)(a):(stK ts hs ks a).Nodup:=by
 unfold stK;split
 .exact WA _ h
 .exact h
def Fq(hs:Ch)(as:X0)(j:Nat):List (List Nat):=(as[j]?).elim [] (PX hs)
def Kq(ts:Tk)(hs:Ch)(as:X0)(j:Nat):List (List Nat):=(as[j]?).elim [] (QR ts hs)
theorem HV(h:as[j]? =some a):Fq hs as j=PX hs a:=by unfold Fq;rw[h];rfl
theorem TL(h:as[j]? =some a):Kq ts hs as j=QR ts hs a:=by unfold Kq;rw[h];rfl
def KqF(ts)(hs)(as)(j)(_:j<as.length)(y)(h:y∈Kq ts hs as j):y∈Fq hs as j:=by
 unfold Kq at h;unfold Fq
 cases e:as[j]? with
 |none=>rw[e]at h;simp at h
 |some a=>
  rw[e]at h;exact Zi h
abbrev Li(ts:Tk)(hs:Ch)(as:X0):Nat->List Nat->Prop:=Kn (Kq ts hs as) (Fq hs as) as.length
def zAF(c:as[j]? =some a)(f:j≠i)(h: ∀x∈ks,Li ts hs as i x): ∀x∈stK ts hs ks a,Li ts hs as i x:=by
 intro x b;unfold stK at b;split at b
 .rename_i e;rw[cP,cP]at b;rcases b with b|b|b
  .exact h x b
  .simp at b
  .refine .step j (gS.mp c).1 f (λy d=>?_) (by rw[HV c];exact b);rw[TL c]at d;exact h y (ö (õ.mp e y d))
 .exact h x b
theorem Sd: ∀(oth:X0),(∀a∈oth, ∃j,as[j]? =some a/\j≠i)-> ∀ c ,c.Nodup->(∀x∈c,Li ts hs as i x)->(oth.foldl (stK ts hs) c).Nodup/\ ∀x∈oth.foldl (stK ts hs) c,Li ts hs as i x
 |[],_,c,hn,h=>⟨hn,h⟩
 |a::oth,ho,c,hn,h=>by obtain⟨j,e,d⟩:=ho a mF0;rw[ħ];exact Sd oth (λb f=>ho b (mO _ f)) _ (zAE hn a) (zAF e d h)
def zAG{oth:X0}(hi:as[i]? =some a0)(f: ∀x∈QR ts hs a0,x∈ks)(ho: ∀j a,as[j]? =some a->j≠i->a∈oth)(b: ∀a∈oth,stK ts hs ks a=ks)(h:Li ts hs as i x):x∈ks:=by
 induction h with
 |key h=>rw[TL hi]at h;exact f _ h
 |@step x j hj hne hall hx ih=>
  have c:=gE0 hj;have e:=b _ (ho j _ c hne);rw[HV c]at hx;rw[TL c]at ih;unfold stK at e;rw[iP (õ.mpr λy d=>dT0 (ih y d))]at e;rw[<-e,cP,cP];exact .inr (.inr hx)
def Ah(hs:Ch)(as:X0):List (List Nat):=as.flatMap (PX hs)
theorem WP: ∀{as},(∀a∈as,AOk ts a)->(Ah hs as).length<=4 * as.length
 |[],_=>à _
 |a::as,h=>by have d:=WP (hs:=hs) λb c=>h b (mO _ c);have e:=JK (hs:=hs) (h a mF0);unfold Ah at d ⊢;rw[flatMap_cons,lA,lC];omega
def F5(hi:i<as.length)(h:Li ts hs as i x):x∈Ah hs as:=by
 have e: ∀j,j<as.length->x∈Fq hs as j->x∈Ah hs as:=λj a h=>by rw[HV (gE0 a)]at h;exact mem_flatMap.mpr ⟨_,getElem_mem a,h⟩
 cases h with
 |key h=>exact e i hi (KqF ts hs as i hi _ h)
 |step j a _ _ hx=>exact e j a hx
theorem Se(S): ∀(os:X0),(∀a∈os,AOk ts a)-> ∀ T  ks  o ,ks.length+4 * os.length<=1000->
  ∃d f,kZ (yX 7) mG [] (os.map aM) (KA ts (.tup [.tup (hs.map MV.str),qd]) i as oth ↑0 b o) (S++.dic (dT ks)::T)=.ok (.next (KA ts (.tup [.tup (hs.map MV.str),qd]) i as oth ↑0 b f)) (S++.dic (dT (os.foldl (stK ts hs) ks))::d)
 |[],_,T,ks,o,_=>⟨T,o,rfl⟩
 |a::os,h,T,ks,o,hl=>by
  rw[lC]at hl;have j:=h a mF0;obtain⟨m,n⟩:=Zl (hs:=hs) (qd:=qd) (i:=i) (as:=as) (oth:=oth) (b:=b) j S T (ks:=ks) (by omega)
  have q:(stK ts hs ks a).length<=ks.length+4:=by
   unfold stK;split
   .have s:=bM (bU [] (PX hs a)) ks;have p:=bM (PX hs a) [];have r:=JK (hs:=hs) j;rw[ç]at p;omega
   .omega
  obtain⟨d,f,e⟩:=Se (hs:=hs) (qd:=qd) (i:=i) (as:=as) (oth:=oth) (b:=b) S os (λc k=>h c (mO _ k)) m (stK ts hs ks a) (some (aM a)) (by omega);refine⟨d,f,?_⟩;rw[ã,zZ (ρ0:=KA ts (.tup [.tup (hs.map MV.str),qd]) i as oth ↑0 b (some (aM a))) rfl n (kG _)];exact e
def Hj(S T)(ks):fC (KA ts q i as oth ↑0 b o) (S++.dic (dT ks)::T)=.ok (decide (b<ks.length)) (S++.dic (dT ks)::T):=by unfold fC;simp? [Hh (JG S T (.dic (dT ks))),lt_int]
def Zm(S){os:X0}(h: ∀a∈os,AOk ts a)(T)(ks)(o)(f:ks.length+4 * os.length<=1000):
  ∃d c,mH (KA ts (.tup [.tup (hs.map MV.str),qd]) i as (os.map aM) ↑0 b o) (S++.dic (dT ks)::T)=.ok (.next (KA ts (.tup [.tup (hs.map MV.str),qd]) i as (os.map aM) ↑0 ks.length c)) (S++.dic (dT (os.foldl (stK ts hs) ks))::d):=by
 obtain⟨d,c,e⟩:=Se (hs:=hs) (qd:=qd) (i:=i) (as:=as) (oth:=os.map aM) (b:=ks.length) S os h T ks o f;refine⟨d,c,?_⟩;have j:oN (KA ts (.tup [.tup (hs.map MV.str),qd]) i as (os.map aM) ↑0 b o) (S++.dic (dT ks)::T)=.ok (.next (KA ts (.tup [.tup (hs.map MV.str),qd]) i as (os.map aM) ↑0 ks.length o)) (S++.dic (dT ks)::T):=by unfold oN;simp? [Hh (JG S T (.dic (dT ks)))]
 unfold mH;rw[zE j];unfold BM;simp? [ON];exact e
theorem Ai{os:X0}(hi:i<as.length)(F: ∀a∈as,AOk ts a)(p:as.length<=4)(h: ∀a∈os, ∃j,as[j]? =some a/\j≠i)(w:os.length<=4)(S): ∀ m f ,m+2<=f-> ∀ T  c  b  o ,c.Nodup->(∀x∈c,Li ts hs as i x)->(Ah hs as).length<=c.length+m->b<c.length->
  ∃G d u A t,jI fC mH f (KA ts (qM hs as) i (as.map aM) (os.map aM) ↑0 b o) (S++.dic (dT c)::T)=.ok (.next (KA ts (qM hs as) i (as.map aM) (os.map aM) ↑0 u A)) (S++.dic (dT d)::G)/\d=c++t/\(∀x∈d,Li ts hs as i x)/\(∀a∈os,stK ts hs d a=d)/\d.Nodup
 |_,0,hf,_,_,_,_,_,_,_,_=>by omega
 |m,f+1,hf,T,c,b,o,hn,hk,hU,hb=>by
  have v: ∀a∈os,AOk ts a:=λa K=>by obtain⟨j,Q,_⟩:=h a K;exact F a (î Q)
  have P:c.length<=16:=by have O:=FO hn λx E=>F5 hi (hk x E);have H:=WP (hs:=hs) F;omega
  obtain⟨C,B,D⟩:=Zm (hs:=hs) (qd:=.tup (as.map aM)) (i:=i) (as:=as.map aM) (b:=b) S v T c o (by omega);have y:=Hj (ts:=ts) (q:=qM hs as) (i:=i) (as:=as.map aM) (oth:=os.map aM) (b:=b) (o:=o) S T c;rw[dT0 hb]at y;obtain⟨t,r⟩:=WO ts hs os c;obtain⟨k,s⟩:=Sd os h c hn hk;have z:=congrArg List.length r;rw[lA]at z;by_cases I:t=[]
  .subst I;rw[aN]at r;obtain⟨f,rfl⟩: ∃g,f=g+1:=⟨f - 1,by omega⟩
   have n:=Hj (ts:=ts) (q:=qM hs as) (i:=i) (as:=as.map aM) (oth:=os.map aM) (b:=c.length) (o:=B) S C c;rw[dF0 (by omega)]at n;refine⟨C,c,c.length,B,[],?_,(aN _).symm,hk,Ag ts hs os c r,hn⟩;rw[r]at D;rw[bE y D,sX n]
  .have N:0<t.length:=List.length_pos_iff.mpr I;have O:=FO k λx E=>F5 hi (s x E);have W:m - 1<m:=by omega
   obtain⟨G,d,u,A,J,e,H,M,L,U⟩:=Ai hi F p h w S (m - 1) f (by omega) C (os.foldl (stK ts hs) c) c.length B k s (by omega) (by omega);refine⟨G,d,u,A,t++J,?_,by rw[H,r,aA],M,L,U⟩;rw[bE y D];exact e
def Hk{as:X0}:a∈as.take i++as.drop (i+1)↔ ∃j,as[j]? =some a/\j≠i:=by
 rw[å];constructor
 .rintro(h|h)
  .obtain⟨j,b,e⟩:=List.mem_take_iff_getElem.mp h;exact⟨j,by rw[<-e];exact gE0 _,by omega⟩
  .obtain⟨j,e⟩:=List.mem_iff_getElem?.mp h;rw[List.getElem?_drop]at e;exact⟨i+1+j,e,by omega⟩
 .rintro⟨j,b,c⟩;by_cases h:j<i
  .exact .inl (î (show(as.take i)[j]? =some a by rw[Ē h];exact b))
  .exact .inr (î (i:=j - (i+1)) (show(as.drop (i+1))[j - (i+1)]? =some a by rw[List.getElem?_drop,show i+1+(j - (i+1))=j by omega];exact b))
def Sf(C: ∀a∈as,AOk ts a)(o:as.length<=4){i:Nat}(hi:i<as.length)(S):
  ∃A T,zS 3 uE [#[ts.map tbl,6],.val (qM hs as),#[i,5]] S=.ok #[↑0,1] (S++.dic (dT A)::T)/\(∀x,x∈A↔Li ts hs as i x)/\A.Nodup:=by
 have p:=gE0 hi;have k:=C _ (getElem_mem hi);obtain⟨a,K⟩: ∃a,a=as[i]:=⟨_,rfl⟩
 rw[<-K]at p k;obtain⟨os,q⟩: ∃os,os=as.take i++as.drop (i+1):=⟨_,rfl⟩
 have B: ∀c∈os, ∃j,as[j]? =some c/\j≠i:=λc n=>Hk.mp (q▸n);have u:os.length<=4:=by rw[q,lA,lT,Ć];omega
 have r: ∀x∈bU [] (QR ts hs a),Li ts hs as i x:=λx m=>by
  rw[cP]at m;rcases m with m|m
  .simp at m
  .exact .key (by rw[TL p];exact m)
 obtain⟨U,D,W,X,t,L,Q,M,H,I⟩:=Ai (hs:=hs) hi C o B u S 100 10000 (by omega) [] (bU [] (QR ts hs a)) (-1) none (WA _ nodup_nil) r (by have:=WP (hs:=hs) C;omega) (by omega);refine⟨D,U,?_,λx=>⟨M x,λh=>?_⟩,I⟩
 .refine OP rfl ?_;show yP (FK [#[ts.map tbl,3],some (qM hs as),#[i,0],none,none,none,none,none] S)=_;have O:uA [#[ts.map tbl,3],some (qM hs as),#[i,0],none,none,none,none,none] S=.ok (.next [#[ts.map tbl,3],some (qM hs as),#[i,0],#[as.map aM,3],none,none,none,none]) S:=by unfold uA;simp? [tL]
  have P:uB [#[ts.map tbl,3],some (qM hs as),#[i,0],#[as.map aM,3],none,none,none,none] S=.ok (.next [#[ts.map tbl,3],some (qM hs as),#[i,0],#[as.map aM,3],#[os.map aM,3],none,none,none]) S:=by
   have n:((i:Int)+1)=((i+1:Nat):Int):=by omega
   have G:((as.map aM).take i).length+((as.map aM).drop (i+1)).length<=sizeLine:=fits (by rw[lT,Ć,lM];omega);unfold uB;simp? [Gn,Ki,n,tM,GR G];rw[q,ó,List.map_take,map_drop]
  have s:((QR ts hs a).map MV.str).length<1000000:=by rw[lM];have:=Sb (hs:=hs) k;omega
  have v:xM (yX 0) BH oI [none] [] ((QR ts hs a).map MV.str) S=.ok ((QR ts hs a).map zED) S:=
   gN (kG _) λx _=>⟨[#[x,4]],rfl,rfl,by unfold oI;simp? [tup2]⟩
  have z: ∀a b c d e f g h:Option MV,vN 1 [] [a,b,c,d,e,f,g,h]=[none]:=λ_ _ _ _ _ _ _ _=>rfl;have w:xK #[as.map aM,6] #[i,5] S=.ok (.val (aM a)) S:=ix_tup (tN (by rw[ï,p];rfl));have N:uC [#[ts.map tbl,3],some (qM hs as),#[i,0],#[as.map aM,3],#[os.map aM,3],none,none,none] S=.ok (.next [#[ts.map tbl,3],some (qM hs as),#[i,0],#[as.map aM,3],#[os.map aM,3],#[↑0],none,none]) (S++[.dic (dT (bU [] (QR ts hs a)))]):=by unfold uC;simp? [w,Rz k,CG,s,z,v,Hg]
  have F:uD [#[ts.map tbl,3],some (qM hs as),#[i,0],#[as.map aM,3],#[os.map aM,3],#[↑0],none,none] (S++[.dic (dT (bU [] (QR ts hs a)))])=.ok (.next (KA ts (qM hs as) i (as.map aM) (os.map aM) ↑0 (-1) none)) (S++[.dic (dT (bU [] (QR ts hs a)))]):=by unfold uD;simp? [cH]
  unfold FK;rw[zE O,zE P,zE N,zE F,zE (show HG _ _=_ from L)];unfold HI;simp? [cH];rfl
 .refine zAG p (λy J=>?_) (λj c n E=>by rw[q];exact Hk.mpr ⟨j,n,E⟩) H h;rw[Q,å,cP];exact .inl (.inr J)
def rD(rs:Db):List (MV×MV):=rs.map λj=>(zH j,.bl true)
theorem Hl(rs):(rD rs).map (·.1)=rs.map zH:=by unfold rD;rw[List.map_map];rfl
def Hm(rs)(j):(look (rD rs) (zH j)).isSome=decide (j∈rs):=by
 by_cases h:j∈rs
 .rw[dT0 h];unfold look;rw[Option.isSome_map,List.find?_isSome];exact⟨(zH j,.bl true),mM.mpr ⟨j,h,rfl⟩,by simp⟩
 .rw[dF0 h]
  cases z:(look (rD rs) (zH j)).isSome with
  |false=>rfl
  |true=>
   have:=ZU z;rw[Hl]at this;exact absurd (Gp.mp this) h
theorem zAH(h:j∉rs):putK (rD rs) (zH j) (.bl true)=rD (rs++[j]):=by unfold putK;rw[Hm,iN (by rw[dF0 h];exact xF0)];unfold rD;rw[ó];rfl
theorem Si(rs):(rD rs).all (λp=>pS p.1)=true:=by unfold rD;rw[all_map,õ];intro x _;rfl
def Sj(neg)(h:S[l]? =#[rD rs,7])(j):DV neg (.val (zH j)) #[l,1] S=.ok (.val (.bl (if neg=true then !decide (j∈rs)else decide (j∈rs)))) S:=by unfold DV;dsimp only;rw[pG h (Si rs)];dsimp only;rw[iP (show pS (zH j)=true from rfl),Hm]
def Hn(h:S[l]? =#[rD rs,7])(b:rs.length<1000000)(a:j∉rs)(ρ):EE #[l,1] (.val (zH j)) (.bl true) ρ S=.ok ρ (S.set l (.dic (rD (rs++[j])))):=by unfold EE;dsimp only;rw[pG h (Si rs)];dsimp only;rw[iP ⟨rfl,by unfold rD;rw[lM];exact b⟩,zAH a]
def Sk(h:S[l]? =#[rD rs,7]):AR [#[l,1]] S=.ok (.new (rs.map zH)) S:=by unfold AR;dsimp only;rw[pG h (Si rs)];dsimp only;rw[Hl]
def Kt(xs a:Ch):Bool:=xs.any λx=>decide (x∈a)
theorem zAI(c:S[l]? =#[xs.map MV.str,2])(d:S[m]? =#[ys.map MV.str,2])(i:xs.length<1000000):zS 2 bS [#[l,1],#[m,1]] S=.ok (.val (.bl (Kt xs ys))) S:=by
 refine LT rfl ?_;show yP (aT [#[l],#[m]] S)=_
 have h:xM (yX 0) iB bH [none,#[m]] [(l,xs.map MV.str)] (xs.map MV.str) S=.ok (xs.map λx=>.bl (decide (x∈ys))) S:=
  gN (xP c) λx _=>⟨[#[x,4],#[m]],rfl,rfl,by unfold bH;simp? [fI false d (dI x) LU,fT,iF];rw[dec_is (LV (x:=x) (fs:=ys))]⟩
 have f:(xs.map MV.str).length<1000000:=by rw[lM];exact i
 have e: ∀a b:Option MV,vN 1 [1] [a,b]=[none,b]:=λ_ _=>rfl;unfold aT oO;simp? [kE c,f,e,h,Gk];rfl
abbrev SA(ts:Tk)(q:MV)(i l0 c a:Nat)(b o:V0):Rho:=[#[ts.map tbl,3],some q,some (zH i),#[l0],#[c],#[a],#[a+1],b,o]
abbrev vK(B:Sto)(rs ws:Db):Sto:=B++[.dic (rD rs),.lst (ws.map zH)]
structure UN(B:Sto)(l4 u0 n:Nat)(un:Nat->List (List Nat)):Prop where
 tab:B[l4]? =#[(List.range' u0 n).map MV.loc,2]
 row: ∀j,j<n->B[u0+j]? =#[(un j).map MV.str,2]
 len: ∀j,j<n->(un j).length<=4
def Sl(B)(rs ws):(vK B rs ws)[B.length]? =#[rD rs,7]:=by simp[vK]
def Aj(B)(rs ws):(vK B rs ws)[B.length+1]? =#[ws.map zH,2]:=by simp[vK]
def zAJ(B)(rs ws rs'):(vK B rs ws).set B.length (.dic (rD rs'))=vK B rs' ws:=by simp[vK]
def Sm(B)(rs ws ws'):(vK B rs ws).set (B.length+1) (.lst (ws'.map zH))=vK B rs ws':=by simp[vK]
def Ho{k:Nat}(h:B[k]? =some o)(rs ws):(vK B rs ws)[k]? =some o:=by show(B++_)[k]? =_;rw[á (gS.mp h).1];exact h
def Sn(U:UN B l4 u0 n un)(a:j<n)(rs ws):xK #[l4,1] (.val (zH j)) (vK B rs ws)=.ok #[u0+j,1] (vK B rs ws):=
 aP (Ho U.tab rs ws) (tN (by rw[ï,List.getElem?_range' a,Nat.one_mul];rfl))
def Zn(U:UN B l4 u0 n un)(hw:w<n)(d:j<n)(m:rs.length<1000)(h:ws.length<1000):
  cU (SA ts q i l0 l4 B.length #[u0+w] (some (zH j))) (vK B rs ws)=.ok (.next (SA ts q i l0 l4 B.length #[u0+w] (some (zH j)))) (if j∉rs/\Kt (un w) (un j)=true then vK B (rs++[j]) (ws++[j])else vK B rs ws):=by
 have a:=Sj true (Sl B rs ws) j;rw[iP rfl]at a;unfold cU qE;by_cases c:j∈rs
 .rw[dT0 c]at a;rw[iN λz=>z.1 c];simp? [a,Ķ,fT,iF]
 .rw[dF0 c]at a;have e:=zAI (Ho (U.row w hw) rs ws) (Ho (U.row j d) rs ws) (by have:=U.len w hw;omega);by_cases b:Kt (un w) (un j)=true
  .rw[iP ⟨c,b⟩];have k:(EJ (kJ (.bl true)) (DJ EE (vJ 5) (vJ 8))) (SA ts q i l0 l4 B.length #[u0+w] (some (zH j))) (vK B rs ws)=.ok (.next (SA ts q i l0 l4 B.length #[u0+w] (some (zH j)))) (vK B (rs++[j]) ws):=by simp? [uH,Hn (Sl B rs ws) (show rs.length<1000000 by omega) c,zAJ]
   have f:(BJ (eJ wF tR (vJ 6) (yJ (vJ 8) wJ))) (SA ts q i l0 l4 B.length #[u0+w] (some (zH j))) (vK B (rs++[j]) ws)=.ok (.next (SA ts q i l0 l4 B.length #[u0+w] (some (zH j)))) (vK B (rs++[j]) (ws++[j])):=by simp? [xI (Aj B (rs++[j]) ws),jE (Aj B (rs++[j]) ws) (show(ws.map zH).length<1000000 by rw[lM];omega)];rw[show ws.map zH++[.int (j:Int)]=(ws++[j]).map zH by rw[ó];rfl,Sm]
   simp? [a,ğ,Sn U d,e,b];rw[zE k,f]
  .rw[iN λz=>b z.2];simp? [a,ğ,Sn U d,e,b,fT,iF]
theorem Dl(U:UN B l4 u0 n un)(hw:w<n): ∀(d:Db),(∀j∈d,j<n)-> ∀ rs ws  o ,rs.length+d.length<1000->ws.length+d.length<1000->
  ∃t m,kZ (yX 8) cU [] (d.map zH) (SA ts q i l0 l4 B.length #[u0+w] o) (vK B rs ws)=.ok (.next (SA ts q i l0 l4 B.length #[u0+w] m)) (vK B (rs++t) (ws++t))/\(rs.Nodup->(rs++t).Nodup)/\(∀k∈t,k<n/\Kt (un w) (un k)=true)/\ ∀k∈d,Kt (un w) (un k)=true->k∈rs++t
 |[],_,rs,ws,o,_,_=>⟨[],o,by rw[aN,aN];rfl,λh=>by rw[aN];exact h,λk c=>by simp at c,λk c=>by simp at c⟩
 |j::d,hjs,rs,ws,o,h1,h2=>by
  rw[lC]at h1 h2;have A:=hjs j mF0;have f: ∀k∈d,k<n:=λk c=>hjs k (mO _ c);have e:=Zn (ts:=ts) (q:=q) (i:=i) (l0:=l0) U hw A (rs:=rs) (ws:=ws) (by omega) (by omega);by_cases p:j∉rs/\Kt (un w) (un j)=true
  .rw[iP p]at e;obtain⟨t,m,v,u,s,y⟩:=Dl (ts:=ts) (q:=q) (i:=i) (l0:=l0) U hw d f (rs++[j]) (ws++[j]) (some (zH j)) (by rw[lA,lS];omega) (by rw[lA,lS];omega);refine⟨j::t,m,?_,λD=>?_,λk c=>?_,λk c r=>?_⟩
   .rw[ã,zZ (ρ0:=SA ts q i l0 l4 B.length #[u0+w] (some (zH j))) rfl e (kG _),v,aA,aA];rfl
   .have:=u (Ĥ.mpr ⟨D,by simp,λa C b E=>by rw[mS.mp E];rintro rfl;exact p.1 C⟩);rw[aA]at this;exact this
   .rcases mC.mp c with rfl|c
    .exact⟨A,p.2⟩
    .exact s k c
   .rcases mC.mp c with rfl|c
    .exact å.mpr (.inr mF0)
    .have:=y k c r;rw[aA]at this;exact this
  .rw[iN p]at e;obtain⟨t,m,v,u,s,y⟩:=Dl (ts:=ts) (q:=q) (i:=i) (l0:=l0) U hw d f rs ws (some (zH j)) (by omega) (by omega);refine⟨t,m,?_,u,s,λk c r=>?_⟩
   .rw[ã,zZ (ρ0:=SA ts q i l0 l4 B.length #[u0+w] (some (zH j))) rfl e (kG _),v]
   .rcases mC.mp c with rfl|c
    .exact å.mpr (.inl (Classical.byContradiction λz=>p ⟨z,r⟩))
    .exact y k c r
def Zo(U:UN B l4 u0 n un)(v:n<=4)(hw:w<n)(y:rs.length<=100)(p:ws.length<=100)(nm o):
  ∃t a,cW (SA ts q i l0 l4 B.length nm o) (vK B rs (ws++[w]))=.ok (.next (SA ts q i l0 l4 B.length #[u0+w] a)) (vK B (rs++t) (ws++t))/\(rs.Nodup->(rs++t).Nodup)/\(∀k∈t,k<n/\Kt (un w) (un k)=true)/\ ∀k,k<n->Kt (un w) (un k)=true->k∈rs++t:=by
 obtain⟨t,a,e,f,c,s⟩:=Dl (ts:=ts) (q:=q) (i:=i) (l0:=l0) U hw (List.range n) (λj h=>Ą.mp h) rs ws o (by rw[ù];omega) (by rw[ù];omega);refine⟨t,a,?_,f,c,λk r=>s k (Ą.mpr r)⟩;have m:EG #[B.length+1,1] [] (vK B rs (ws++[w]))=.ok (.val (zH w)) (vK B rs ws):=by rw[WB (ds:=ws.map zH) (d:=zH w) (by rw[Aj,ó];rfl),Sm]
 have u:nK (SA ts q i l0 l4 B.length nm o) (vK B rs (ws++[w]))=.ok (.next (SA ts q i l0 l4 B.length #[u0+w] o)) (vK B rs ws):=by unfold nK;simp? [xI (Aj B rs (ws++[w])),m,Sn U hw]
 unfold cW;rw[zE u];unfold qF;have b:=dX (Ho U.tab rs ws);rw[lM,List.length_range']at b;simp? [b,Kj (n:=n) (by omega)];exact e
theorem Ak(U:UN B l4 u0 n un)(u:n<=4){P:Nat->Prop}(I: ∀r k,P r->k<n->Kt (un r) (un k)=true->P k): ∀ m f ,m<f-> ∀ rs ws  d o ,n - rs.length+ws.length<=m->ws.length<=rs.length->rs.Nodup->(∀r∈rs,r<n/\P r)->(∀r∈ws,r∈rs)->(∀r∈rs,r∉ws-> ∀k,k<n->Kt (un r) (un k)=true->k∈rs)->
  ∃a c C,jI jO cW f (SA ts q i l0 l4 B.length d o) (vK B rs ws)=.ok (.next (SA ts q i l0 l4 B.length c C)) (vK B a [])/\(∀r∈rs,r∈a)/\a.Nodup/\(∀r∈a,r<n/\P r)/\ ∀r∈a, ∀k,k<n->Kt (un r) (un k)=true->k∈a
 |_,0,hf,_,_,_,_,_,_,_,_,_,_=>by omega
 |m,f+1,hf,rs,ws,d,o,hm,hwl,hnd,hr,hw,hc=>by
  have H:jO (SA ts q i l0 l4 B.length d o) (vK B rs ws)=.ok (!(ws.map zH).isEmpty) (vK B rs ws):=by unfold jO;simp? [qQ (Aj B rs ws)]
  have W:rs.length<=n:=by have:=FO hnd λx D=>Ą.mpr (hr x D).1;rw[ù]at this;exact this
  rcases List.eq_nil_or_concat ws with rfl|⟨ws,w,rfl⟩
  .exact⟨rs,d,o,sX H,λr h=>h,hnd,hr,λr h=>hc r h (by simp)⟩
  .rw[List.concat_eq_append]at *;have y:jO (SA ts q i l0 l4 B.length d o) (vK B rs (ws++[w]))=.ok true (vK B rs (ws++[w])):=by rw[H];simp
   rw[lA,lS]at hm hwl;have F:w∈rs:=hw w (å.mpr (.inr mF0));have j:=hr w F;obtain⟨t,C,e,K,A,T⟩:=Zo (ts:=ts) (q:=q) (i:=i) (l0:=l0) U u j.1 (rs:=rs) (ws:=ws) (by omega) (by omega) d o;have b:=K hnd
   have p: ∀r∈rs++t,r<n/\P r:=λr h=>by
    rcases å.mp h with h|h
    .exact hr r h
    .exact⟨(A r h).1,I w r j.2 (A r h).1 (A r h).2⟩
   have v:(rs++t).length<=n:=by have:=FO b λx D=>Ą.mpr (p x D).1;rw[ù]at this;exact this
   rw[lA]at v;have M:m - 1<m:=by omega
   obtain⟨a,c,E,S,O,N,L,Q⟩:=Ak (ts:=ts) (q:=q) (i:=i) (l0:=l0) U u I (m - 1) f (by omega) (rs++t) (ws++t) #[u0+w] C (by rw[lA,lA];omega) (by rw[lA,lA];omega) b p (λr h=>by
    rcases å.mp h with h|h
    .exact å.mpr (.inl (hw r (å.mpr (.inl h))))
    .exact å.mpr (.inr h)) (λr h J k G s=>by
    rcases å.mp h with h|h
    .by_cases e:r=w
     .subst e;exact T k G s
     .exact å.mpr (.inl (hc r h (λz=>by
       rcases å.mp z with z|z
       .exact J (å.mpr (.inl z))
       .exact e (mS.mp z)) k G s))
    .exact absurd (å.mpr (.inr h)) J)
   refine⟨a,c,E,?_,λr h=>O r (å.mpr (.inl h)),N,L,Q⟩;rw[bE y e];exact S
abbrev F6(ts:Tk)(hs:Ch)(as:X0):Nat->Nat->Prop:=Rc (Kq ts hs as) (Fq hs as) as.length
def zBG(hs ks:Ch)(as:X0)(j:Nat):List (List Nat):=(Fq hs as j).filter λx=>!decide (x∈ks)
def So(c: ∀x,x∈ks↔Li ts hs as i x)(r k):Kt (zBG hs ks as r) (zBG hs ks as k)=true↔ ∃x,x∈Fq hs as r/\x∈Fq hs as k/\ ¬Li ts hs as i x:=by
 unfold Kt;rw[ġ];constructor
 .rintro⟨x,b,a⟩;have a:=ö a;unfold zBG at b a;rw[ñ]at b a;exact⟨x,b.1,a.1,λz=>by have:=b.2;rw[dT0 ((c x).mpr z)]at this;cases this⟩
 .rintro⟨x,b,a,d⟩;have e:(!decide (x∈ks))=true:=by rw[dF0 λz=>d ((c x).mp z)];rfl
  exact⟨x,ñ.mpr ⟨b,e⟩,dT0 (ñ.mpr ⟨a,e⟩)⟩
def F7(hi:i<as.length)(h:F6 ts hs as i j):j<as.length:=by
 cases h with
 |self=>exact hi
 |step j k _ hk _ _ _=>exact hk
theorem Zp(S)(i):ZC ↑0 (.val (zH i)) (.val (.bl true)) (S++[.dic []])=.ok #[↑0,1] (S++[.dic (rD [i])]):=by unfold ZC;dsimp only;rw[iP ⟨rfl,zM _ _⟩,kL];rfl
def Ku(L: ∀a∈as,AOk ts a)(p:as.length<=4)(hi:i<as.length)(S):
  ∃n:List Nat,zS 3 fE [#[ts.map tbl,6],.val (qM hs as),.val (zH i)] S=.ok (.new (n.map zH)) S/\n.Nodup/\ ∀j,j∈n↔F6 ts hs as i j:=by
 obtain⟨o,T,e1,M,_⟩:=Sf (hs:=hs) L p hi S;obtain⟨m,t⟩: ∃m:Sto,m=S++.dic (dT o)::T:=⟨_,rfl⟩
 have J: ∀U:Sto,(m++U)[↑0]? =#[dT o,7]:=λU=>by rw[t,aA];exact JG _ _ _
 have C: ∀a∈as, ∀U:Sto, ∃s,yX 0 (aM a) [none,some (qM hs as),#[↑0]] (m++U)=.ok s (m++U)/\qD s (m++U)=.ok true (m++U)/\nI s (m++U)=.ok (.new (((PX hs a).filter λx=>!decide (x∈o)).map MV.str)) (m++U):=λa Q U=>by
  have w:=L a Q;refine⟨[some (aM a),some (qM hs as),#[↑0]],rfl,rfl,?_⟩
  have D:xM (yX 0) nH qC [none,#[↑0]] [] ((PX hs a).map MV.str) (m++U)=.ok (((PX hs a).filter λx=>!decide (x∈o)).map MV.str) (m++U):=
   wZ (kG _) λx _=>⟨[#[x,4],#[↑0]],rfl,by unfold nH;simp? [Ry true (J U) x],rfl⟩
  have I:((PX hs a).map MV.str).length<1000000:=by rw[lM];have:=JK (hs:=hs) w;omega
  have H: ∀a b c:Option MV,vN 1 [2] [a,b,c]=[none,c]:=λ_ _ _=>rfl;unfold nI;simp? [F4 w,CG,I,H,D]
 have v:=FN (f:=aM) (g:=λa=>((PX hs a).filter λx=>!decide (x∈o)).map MV.str) as C [];rw[aN,ç,Nat.add_zero]at v;obtain⟨B,A⟩: ∃B:Sto,B=m++(as.map λa=>MO.lst (((PX hs a).filter λx=>!decide (x∈o)).map MV.str))++[.lst ((List.range' m.length as.length).map MV.loc)]:=⟨_,rfl⟩
 have U:UN B (m.length+as.length) m.length as.length (zBG hs o as):=by
  refine⟨?_,λj u=>?_,λj u=>?_⟩
  .rw[A,é (by rw[lA,lM];exact à _),lA,lM,sub_self];rfl
  .rw[A,aA,é (by omega),Nat.add_sub_cancel_left,á (by rw[lM];exact u),ï,gE0 u];unfold zBG;rw[HV (gE0 u)];rfl
  .unfold zBG;rw[HV (gE0 u)];have z:=Ĉ (λx=>!decide (x∈o)) (PX hs as[j]);have y:=JK (hs:=hs) (L _ (getElem_mem u));omega
 obtain⟨n,O,o',e5,g1,Z,Y,g4⟩:=Ak (ts:=ts) (q:=qM hs as) (i:=i) (l0:=↑0) U p (P:=F6 ts hs as i) (λr k K F D=>by
  obtain⟨x,z,y,G⟩:=(So M r k).mp D;exact .step r k K F z y G) 10 10000 (by omega) [i] [i] none none (by rw[lS];omega) (à _) (by simp) (λr K=>by
  rw[mS.mp K];exact⟨hi,.self⟩) (λr h=>h) (λr h hn=>absurd h hn)
 refine⟨n,?_,Z,λj=>⟨λh=>(Y j h).2,λh=>?_⟩⟩
 .have E: ∃V,vK B n []=S++V:=⟨_,by rw[show vK B n []=B++[.dic (rD n),.lst []]from rfl,A,t];simp only[aA];rfl⟩
  obtain⟨V,N⟩:=E;refine cI (T:=V) rfl ?_ (Yg _ _);show yP (rP [#[ts.map tbl,3],some (qM hs as),some (zH i),none,none,none,none,none,none] S)=_;have f1:iQ [#[ts.map tbl,3],some (qM hs as),some (zH i),none,none,none,none,none,none] S=.ok (.next [#[ts.map tbl,3],some (qM hs as),some (zH i),#[↑0],none,none,none,none,none]) m:=by unfold iQ;simp? [e1];rw[t]
  have H: ∀a b c d e f g h i:Option MV,vN 1 [1,3] [a,b,c,d,e,f,g,h,i]=[none,b,d]:=λ_ _ _ _ _ _ _ _ _=>rfl;have I:(as.map aM).length<1000000:=by rw[lM];omega
  have X:iR [#[ts.map tbl,3],some (qM hs as),some (zH i),#[↑0],none,none,none,none,none] m=.ok (.next [#[ts.map tbl,3],some (qM hs as),some (zH i),#[↑0],#[m.length+as.length],none,none,none,none]) B:=by unfold iR;simp? [tL,ON,I,H,v];rw[A,lA,lM]
  have W:iS [#[ts.map tbl,3],some (qM hs as),some (zH i),#[↑0],#[m.length+as.length],none,none,none,none] B=.ok (.next [#[ts.map tbl,3],some (qM hs as),some (zH i),#[↑0],#[m.length+as.length],#[B.length],none,none,none]) (B++[.dic (rD [i])]):=by unfold iS;simp? [d1J,Zp]
  have f4:iU [#[ts.map tbl,3],some (qM hs as),some (zH i),#[↑0],#[m.length+as.length],#[B.length],none,none,none] (B++[.dic (rD [i])])=.ok (.next (SA ts (qM hs as) i ↑0 (m.length+as.length) B.length none none)) (vK B [i] [i]):=by unfold iU;simp? [lst1];rw[lA,aA];rfl
  unfold rP;rw[zE f1,zE X,zE W,zE f4,zE (show vB _ _=_ from e5)];unfold vC;simp? [Sk (Sl B n [])];rw[N];rfl
 .induction h with
  |self=>exact g1 i mF0
  |@step x j k u hkn z y G ih=>exact g4 j ih k hkn ((So M j k).mpr ⟨x,z,y,G⟩)
abbrev Pr:=Nat×Nat
def dA(p:Pr):MV:=.tup [zH p.1,zH p.2]
def Zq(h:dA p=dA q):p=q:=by
 unfold dA at h;injection h with h
 injection h with h1 h
 injection h with h2 _
 exact Prod.ext (LW h1) (LW h2)
def Sq{T:List Pr}:dA p∈T.map dA↔p∈T:=⟨λh=>by obtain⟨q,a,e⟩:=mM.mp h;rw[<-Zq e];exact a,λh=>mM.mpr ⟨p,h,rfl⟩⟩
def Al(T:List Pr): ∀y∈T.map dA,pd y=true/\OL y<40:=λy a=>by obtain⟨p,_,rfl⟩:=mM.mp a;unfold dA;exact⟨by rw[lI,xF,xF,mN,uI,uI];rfl,by rw[DR,gM,gM,CA,uK,uK];decide⟩
def zEE(T:List Pr)(n):sK n (T.map dA):=kO λd a=>KL (Al T d a).1
noncomputable def Zr(a b:Pr):Bool:=decide (a.1<b.1\/a.1=b.1/\a.2<b.2)
theorem KP{α:Type}{le:α->α->Prop}: ∀{c d:List α},c.Perm d->c.Pairwise le->d.Pairwise le->(∀a∈c, ∀b∈c,le a b->le b a->a=b)->c=d
 |[],d,p,_,_,_=>p.nil_eq
 |a::c,[],p,_,_,_=>by have:=p.length_eq;simp at this
 |a::c,b::d,p,h1,h2,u=>by
  have h:=List.pairwise_cons.mp h1;have f:=List.pairwise_cons.mp h2
  have e:a=b:=by
   rcases mC.mp (p.mem_iff.mp (mF0 (a:=a) (l:=c)))with e|m2
   .exact e
   .rcases mC.mp (p.mem_iff.mpr (mF0 (a:=b) (l:=d)))with e|m1
    .exact e.symm
    .exact u a mF0 b (mO _ m1) (h.1 b m1) (f.1 a m2)
  subst e;rw[KP (p.cons_inv) h.2 f.2 λx j y i=>u x (mO _ j) y (mO _ i)]
def OX{β:Type}(T:List β):(List.range T.length).filterMap (T[·]?)=T:=by
 induction T with
 |nil=>rfl
 |cons t T ih=>
  rw[lC,List.range_succ_eq_map,ą,List.filterMap_map];show t::List.filterMap (λi=>(t::T)[i+1]?) (List.range T.length)=_;simp only[List.getElem?_cons_succ];rw[ih]
def OY(S)(a b):LN S zR (dA a) (dA b)=some (Zr a b):=by
 have e:zR=38+1+1:=rfl;rw[e];show((eqv S (38+1) (zH a.1) (zH b.1)).bind λz=>if z=true then((eqv S (38+1) (zH a.2) (zH b.2)).bind λz=>if z=true then some false else LN S (38+1) (zH a.2) (zH b.2))else LN S (38+1) (zH a.1) (zH b.1))=_;rw[show eqv S (38+1) (zH a.1) (zH b.1)=some (decide ((a.1:Int)=b.1))from DG 38 a.1 b.1,show eqv S (38+1) (zH a.2) (zH b.2)=some (decide ((a.2:Int)=b.2))from DG 38 a.2 b.2];show(if decide ((a.1:Int)=b.1)=true then(if decide ((a.2:Int)=b.2)=true then some false else some (decide ((a.2:Int)<b.2)))else some (decide ((a.1:Int)<b.1)))=_;unfold Zr;split
 .rename_i h;have h:=ö h;split
  .rename_i c;have c:=ö c;rw[dF0 (by omega)]
  .exact congrArg some (dec_is (by omega))
 .rename_i h;have h: ¬(a.1:Int)=b.1:=λz=>h (dT0 z);exact congrArg some (dec_is (by omega))
def OZ:Zr a b=false↔ ¬(a.1<b.1\/a.1=b.1/\a.2<b.2):=by unfold Zr;exact decide_eq_false_iff_not
def Am:Zr a b=true↔(a.1<b.1\/a.1=b.1/\a.2<b.2):=by unfold Zr;exact decide_eq_true_iff
def Zt{R:List Pr}(z:R.Perm T)(r:R.Pairwise (λa b=>Zr b a=false))(G:T.length<64)(L:bZ S p=some (T.map dA)):SJ [p] S=.ok (.new (R.map dA)) S:=by
 have mem: ∀k∈T.map dA, ∃t,k=dA t:=λk F=>by obtain⟨t,_,n⟩:=mM.mp F;exact⟨t,n.symm⟩
 have ok:SrtJ S (T.map dA):=by
  refine⟨by rw[lM];exact G,λd s=>?_,λ_ d s=>?_,⟨λa m b o=>?_,λa m b o c q f n=>?_,λa m b o f=>?_⟩⟩
  .obtain⟨t,rfl⟩:=mem d s;simp[dA,uY,SE]
  .obtain⟨t,rfl⟩:=mem d s;exact⟨_,_,rfl⟩
  .obtain⟨t,rfl⟩:=mem a m;obtain⟨u,rfl⟩:=mem b o;exact⟨_,OY S t u⟩
  .obtain⟨t,rfl⟩:=mem a m;obtain⟨u,rfl⟩:=mem b o;obtain⟨v,rfl⟩:=mem c q;rw[OY]at f n ⊢;have f:=OZ.mp (â f);have n:=OZ.mp (â n);rw[OZ.mpr (by omega)]
  .obtain⟨t,rfl⟩:=mem a m;obtain⟨u,rfl⟩:=mem b o;rw[OY]at f ⊢;have f:=Am.mp (â f);rw[OZ.mpr (by omega)]
 refine Xj L ok (λM h=>?_) ?_
 .obtain⟨e,E,H,rfl⟩:=h;rw[lM]at E;have J:(e.filterMap (T[·]?)).Perm T:=by have:=E.filterMap (T[·]?);rwa [OX]at this
  have w:(e.filterMap (T[·]?)).Pairwise (λa b=>Zr b a=false):=by rw[List.pairwise_filterMap];refine H.imp λ{i j} h b o c q=>?_;have h':=h (dA b) (dA c) (by rw[ï,o];rfl) (by rw[ï,q];rfl);rw[OY]at h';exact â h'
  have I:e.filterMap ((T.map dA)[·]?)=(e.filterMap (T[·]?)).map dA:=by rw[List.map_filterMap];congr 1;funext i;rw[ï]
  rw[I,KP (J.trans z.symm) w r λa _ b _ f n=>by have f:=OZ.mp f;have n:=OZ.mp n;exact Prod.ext (by omega) (by omega)]
 .have g:(List.range T.length).map (λi=>(T[i]?).getD (0,0))=T:=by rw[NP λi hi=>Ą.mp hi,OX]
  obtain⟨e,C,B⟩:=SF z.symm (List.range T.length) g;have y: ∀i,i∈e->i<T.length:=λi hi=>Ą.mp (C.mem_iff.mp hi);refine⟨e,by rw[lM];exact C,?_,?_⟩
  .rw[<-B,pairwise_map]at r;refine List.Pairwise.imp_of_mem (λ{i j} hi K h a c m q=>?_) r;have D:T[i]? =some (T[i]'(y i hi)):=gE0 _;have A:T[j]? =some (T[j]'(y j K)):=gE0 _;rw[ï,D]at m;rw[ï,A]at q;cases m;cases q;rw[D,A]at h;rw[OY];exact congrArg some h
  .have w:e.map (λi=>(T[i]?).getD (0,0))=e.filterMap (T[·]?):=NP y;rw[<-B,w,List.map_filterMap];congr 1;funext i;rw[ï]
noncomputable abbrev CT(q:MV)(l:Nat)(p a:V0):Rho:=[some q,#[l],p,a]
theorem Ss(S): ∀(as:X0) k  rs  p a ,rs.length+as.length<1000->(∀a∈as,0<=a.1)->(rs++as.map λa=>a.1.toNat).Nodup->
  ∃o n e,kZ (KB 2 (zV (yX 2) (zV (yX 3) gV))) gQ [] (((as.map aM).zipIdx k).map λp=>.tup [.int (p.2),p.1]) (CT q ↑0 p a) (S++[.dic (rD rs)])=.ok (.next (CT q ↑0 o n)) (S++[.dic (rD e)])
 |[],k,rs,p,a,_,_,_=>⟨p,a,rs,rfl⟩
 |c::as,k,rs,p,a,hl,h0,hn=>by
  rw[lC]at hl;have m:=h0 c mF0;have f:zH c.1.toNat=.int c.1:=by rw[show zH c.1.toNat=.int ((c.1.toNat:Nat):Int)from rfl,Int.toNat_of_nonneg m]
  rw[ã]at hn;have d:c.1.toNat∉rs:=λz=>(Ĥ.mp hn).2.2 _ z _ mF0 rfl;obtain⟨o,n,e,t⟩:=Ss (q:=q) S as (k+1) (rs++[c.1.toNat]) #[(k:Nat),0] (some (aM c)) (by rw[lA,lS];omega) (λb v=>h0 b (mO _ v)) (by rw[aA];exact hn);refine⟨o,n,e,?_⟩;have j:=Sj false (zM S (.dic (rD rs))) c.1.toNat;rw[dF0 d,iN xF0,f]at j;have i:=λr=>Hn (zM S (.dic (rD rs))) (show rs.length<1000000 by omega) d r;rw[f]at i;have h: ∀S:Sto,xK (.val (aM c)) #[0,5] S=.ok #[c.1,5] S:=λ_=>rfl;have s:jM (CT q ↑0 #[(k:Nat),0] (some (aM c))) (S++[.dic (rD rs)])=.ok (.next (CT q ↑0 #[(k:Nat),0] (some (aM c)))) (S++[.dic (rD rs)]):=by unfold jM;simp? [h,j,fT,iF]
  have u:jN (CT q ↑0 #[(k:Nat),0] (some (aM c))) (S++[.dic (rD rs)])=.ok (.next (CT q ↑0 #[(k:Nat),0] (some (aM c)))) (S++[.dic (rD (rs++[c.1.toNat]))]):=by unfold jN;simp? [h,uH,i,kL]
  rw[ã,zipIdx_cons,ã,zZ (ρ0:=CT q ↑0 #[(k:Nat),0] (some (aM c))) (S0:=S++[.dic (rD rs)]) rfl (by unfold gQ;rw[zE s];exact u) (kG _)];exact t
theorem Zu(j:as.length<=4)(d: ∀a∈as,0<=a.1)(c:(as.map λa=>a.1.toNat).Nodup)(S):zS 1 jD [.val (qM hs as)] S=.ok (.val .non) S:=by
 obtain⟨h,i,b,e⟩:=Ss (q:=qM hs as) S as 0 [] none none (by rw[ç];omega) d c;refine mZ (T:=[.dic (rD b)]) rfl ?_ (UR _) (λl=>by simp);show yP (cC [some (qM hs as),none,none,none] S)=_;have f:gR [some (qM hs as),none,none,none] S=.ok (.next (CT (qM hs as) ↑0 none none)) (S++[.dic (rD [])]):=by unfold gR;simp? [RZ];rfl
 unfold cC;rw[zE f];unfold aH;simp? [tL,Gq,Jn];rw[show(List.map (λp=>MV.tup [.int (p.2:Nat),p.1]) (List.map aM as).zipIdx)=(((as.map aM).zipIdx 0).map λp=>.tup [.int (p.2:Nat),p.1])from rfl,e];rfl
structure QOk(ts:Tk)(as:X0):Prop where
 at': ∀a∈as,AOk ts a
 len:as.length<=4
 pos: ∀a∈as,0<=a.1
 nd:(as.map λa=>a.1.toNat).Nodup
 ne:1<=as.length
open Classical in
def PR(R:Nat->Nat->Prop)(n:Nat):List Pr:=(List.range n).flatMap λa=>((List.range n).filter λb=>decide (b≠a/\R a b)).map λb=>(a,b)
open Classical in
def zAK{R:Nat->Nat->Prop}{n:Nat}{p:Pr}:p∈PR R n↔p.1<n/\p.2<n/\p.2≠p.1/\R p.1 p.2:=by
 unfold PR;rw[mem_flatMap];constructor
 .rintro⟨a,f,h⟩;obtain⟨b,c,rfl⟩:=mM.mp h;rw[ñ]at c;exact⟨Ą.mp f,Ą.mp c.1,ö c.2⟩
 .rintro⟨i,d,e⟩;exact⟨p.1,Ą.mpr i,mM.mpr ⟨p.2,ñ.mpr ⟨Ą.mpr d,dT0 e⟩,rfl⟩⟩
def F8(R)(n):(PR R n).Pairwise (λa b=>Zr a b=true):=by
 unfold PR;rw[List.pairwise_flatMap];refine⟨λa _=>?_,?_⟩
 .rw[pairwise_map];refine List.Pairwise.imp ?_ (List.Pairwise.filter _ List.pairwise_lt_range);intro x y h;exact Am.mpr (.inr ⟨rfl,h⟩)
 .refine List.pairwise_lt_range.imp λ{a b} h x d y c=>?_;obtain⟨_,_,rfl⟩:=mM.mp d;obtain⟨_,_,rfl⟩:=mM.mp c;exact Am.mpr (.inl h)
def zEF(R)(n):(PR R n).Nodup:=(F8 R n).imp λ{a b} h e=>by subst e;have:=Am.mp h;omega
section
abbrev SW(ts:Tk)(q:MV)(p o:V0):Rho:=[#[ts.map tbl,3],some q,p,o]
def zAL{rs:Db}(Q:QOk ts as)(hi:i<as.length)(b:rs.Nodup)(h: ∀j,j∈rs↔F6 ts hs as i j):rs.length<=4:=by have:=FO b λx a=>Ą.mpr (F7 hi ((h x).mp a));rw[ù]at this;have:=Q.len;omega
theorem Su(Q:QOk ts as)(S): ∀ m k (T:List Pr) o ,k+m=as.length->T.length<=4 * k->T.Nodup->(∀p,p∈T↔p.1<k/\p.2≠p.1/\F6 ts hs as p.1 p.2)->
  ∃(i:List Pr)(z:V0),kZ (yX 3) DO [] ((List.range' k m).map zH) (SW ts (qM hs as) #[↑0] o) (S++[.lst (T.map dA)])=.ok (.next (SW ts (qM hs as) #[↑0] z)) (S++[.lst (i.map dA)])/\i.length<=16/\i.Nodup/\ ∀p,p∈i↔p.1<as.length/\p.2≠p.1/\F6 ts hs as p.1 p.2
 |0,k,T,o,hk,hl,hn,h=>⟨T,o,rfl,by have:=Q.len;omega,hn,by rw[<-hk];exact h⟩
 |m+1,k,T,o,hk,hl,hn,h=>by
  have r:k<as.length:=by omega
  obtain⟨t,K,n,f⟩:=Ku (hs:=hs) Q.at' Q.len r (S++[.lst (T.map dA)]);have C:=zAL Q r n f;have J:=Q.len
  have D:xM (yX 0) BN BO [none,some (zH k)] [] (t.map zH) (S++[.lst (T.map dA)])=.ok (((t.filter λb=>!decide (b=k)).map λb=>(k,b)).map dA) (S++[.lst (T.map dA)]):=by
   rw[List.map_map]
   exact wZ (kG _) λb _=>⟨[some (zH b),some (zH k)],rfl,by
    unfold BN;simp? [ne_int];rw[dec_is (show(b:Int)=k↔b=k by omega)],by
    unfold BO;simp? [tup2];rfl⟩
  obtain⟨N,u⟩: ∃N:List Pr,N=(t.filter λb=>!decide (b=k)).map λb=>(k,b):=⟨_,rfl⟩
  rw[<-u]at D;have E:N.length<=4:=by rw[u,lM];exact ì (Ĉ _ _) C
  have s: ∀p,p∈N↔p.1=k/\p.2≠p.1/\F6 ts hs as p.1 p.2:=λp=>by
   rw[u,mM];constructor
   .rintro⟨b,q,rfl⟩;rw[ñ,f]at q;refine⟨rfl,λe=>?_,q.1⟩;have j:=q.2;rw[dT0 (show b=k from e)]at j;cases j
   .rintro⟨B,j,G⟩;refine⟨p.2,?_,Prod.ext B.symm rfl⟩;rw[ñ,f, <-B,dF0 j];exact⟨G,rfl⟩
  have A:N.Nodup:=by rw[u];unfold List.Nodup;rw[pairwise_map];exact(List.Pairwise.filter _ n).imp λ{x y} h e=>h (congrArg Prod.snd e)
  have v:(t.map zH).length<1000000:=by rw[lM];omega
  have H:(T.map dA).length+(N.map dA).length<=1000000:=by rw[lM,lM];omega
  have q: ∀a b c d:Option MV,vN 1 [3] [a,b,c,d]=[none,d]:=λ_ _ _ _=>rfl;have F:DO (SW ts (qM hs as) #[↑0] (some (zH k))) (S++[.lst (T.map dA)])=.ok (.next (SW ts (qM hs as) #[↑0] (some (zH k)))) (S++[.lst ((T++N).map dA)]):=by unfold DO KG;simp? [xI (zM S (.lst (T.map dA))),K,CG,v,q,D,WC (zM S (.lst (T.map dA))) H,kL];rw[ó]
  obtain⟨i,z,e,g⟩:=Su Q S m (k+1) (T++N) (some (zH k)) (by omega) (by rw[lA];omega) (Ĥ.mpr ⟨hn,A,λx L y I=>by
   rintro rfl;have B:=(h x).mp L;have j:=(s x).mp I;omega⟩) (λp=>by
   rw[å,h,s];constructor
   .rintro(⟨a,b,c⟩|⟨a,b,c⟩)
    .exact⟨by omega,b,c⟩
    .exact⟨by omega,b,c⟩
   .rintro⟨a,b,c⟩;by_cases w:p.1=k
    .exact .inr ⟨w,b,c⟩
    .exact .inl ⟨by omega,b,c⟩)
  refine⟨i,z,?_,g⟩;rw[List.range'_succ,ã,zZ (ρ0:=(SW ts (qM hs as) #[↑0] (some (zH k)))) rfl F (kG _)];exact e
abbrev PQ(ts:Tk)(hs:Ch)(as:X0):List Pr:=PR (F6 ts hs as) as.length
theorem An(Q:QOk ts as)(S):zS 2 DP [#[ts.map tbl,6],.val (qM hs as)] S=.ok (.new ((PQ ts hs as).map dA)) S:=by
 obtain⟨c,i,e,s,o,r⟩:=Su (hs:=hs) Q S as.length 0 [] none (by omega) (à _) nodup_nil (λp=>⟨λh=>by simp at h,λh=>absurd h.1 (Nat.not_lt_zero _)⟩);refine cI (T:=[.lst (c.map dA)]) rfl ?_ (zEE _ _);show yP (VN (SW ts (qM hs as) none none) S)=_;have k:IX (SW ts (qM hs as) none none) S=.ok (.next (SW ts (qM hs as) none none)) S:=by unfold IX;simp? [Zu Q.len Q.pos Q.nd]
 have m:IY (SW ts (qM hs as) none none) S=.ok (.next (SW ts (qM hs as) #[↑0] none)) (S++[.lst []]):=by unfold IY;simp? [cH]
 have f:=Q.len;have j:IZ (SW ts (qM hs as) #[↑0] none) (S++[.lst []])=.ok (.next (SW ts (qM hs as) #[↑0] i)) (S++[.lst (c.map dA)]):=by unfold IZ;simp? [tL,VU,lM,Kj (n:=as.length) (by omega)];rw[List.range_eq_range'];exact e
 have q:(PQ ts hs as).Perm c:=(List.perm_ext_iff_of_nodup (zEF _ _) o).mpr λp=>by rw[zAK,r];exact⟨λh=>⟨h.1,h.2.2⟩,λh=>⟨h.1,F7 h.1 h.2.2,h.2⟩⟩
 have d:=Zt q ((F8 _ _).imp λ{a b} h=>OZ.mpr (by have:=Am.mp h;omega)) (by omega) (oA (zM S (.lst (c.map dA))));unfold VN;rw[zE k,zE m,zE j];unfold SZ;simp? [d];rfl
def zAM(L:List Pr):Option Pr:=L.find? λp=>decide ((p.2,p.1)∈L)
def rgE:Option Pr->Er
 |none=>.val .non
 |some p=>.new [zH p.1,zH p.2]
def rgR:Option Pr->Rho->Fl
 |none,ρ=>.next ρ
 |some p,_=>.ret (.new [zH p.1,zH p.2])
abbrev RG(ts:Tk)(q:MV)(l:Nat)(a b:V0):Rho:=[#[ts.map tbl,3],some q,#[l],a,b]
theorem Sv{L:List Pr}(i:S[l]? =#[L.map dA,2]): ∀(M:List Pr) a b , ∃h f,kZ (KB 2 (zV (yX 3) (zV (yX 4) gV))) HK [(l,L.map dA)] (M.map dA) (RG ts q l a b) S=.ok (rgR (M.find? λp=>decide ((p.2,p.1)∈L)) (RG ts q l h f)) S
 |[],a,b=>⟨a,b,rfl⟩
 |p::M,a,b=>by
  have c:=fI false i (Al [(p.2,p.1)] (dA (p.2,p.1)) mF0).1 (Al L);rw[iN xF0,dec_is (Sq (p:=(p.2,p.1)) (T:=L))]at c;have c:KC false #[[zH p.2,zH p.1],6] #[l,1] S=.ok (.val (.bl (decide ((p.2,p.1)∈L)))) S:=c;rw[ã];by_cases d:(p.2,p.1)∈L
  .rw[dT0 d]at c;refine⟨a,b,?_⟩;rw[List.find?_cons_of_pos (by exact dT0 d)];refine UT (ρ0:=RG ts q l (some (zH p.1)) (some (zH p.2))) (S0:=S) rfl ?_;unfold HK FL;simp? [tup2,c,Ol]
  .rw[dF0 d]at c;obtain⟨h,f,e⟩:=Sv (q:=q) i M (some (zH p.1)) (some (zH p.2));refine⟨h,f,?_⟩;rw[List.find?_cons_of_neg (by rw[dF0 d];exact xF0)];rw[zZ (ρ0:=RG ts q l (some (zH p.1)) (some (zH p.2))) (S0:=S) rfl (by unfold HK FL;simp? [tup2,c,fT,iF];rfl) (xP i)];exact e
def Zv(Q:QOk ts as)(S):zS 2 VO [#[ts.map tbl,6],.val (qM hs as)] S=.ok (rgE (zAM (PQ ts hs as))) S:=by
 obtain⟨L,i⟩: ∃L,L=PQ ts hs as:=⟨_,rfl⟩
 rw[<-i];have b:=An (hs:=hs) Q S;rw[<-i]at b;obtain⟨k,j,e⟩:=Sv (ts:=ts) (q:=qM hs as) (L:=L) (zM S (.lst (L.map dA))) L none none;have m:OB [#[ts.map tbl,3],some (qM hs as),none,none,none] S=.ok (.next (RG ts (qM hs as) ↑0 none none)) (S++[.lst (L.map dA)]):=by unfold OB;simp? [b]
 have f:OD (RG ts (qM hs as) ↑0 none none) (S++[.lst (L.map dA)])=.ok (rgR (zAM L) (RG ts (qM hs as) ↑0 k j)) (S++[.lst (L.map dA)]):=by unfold OD;simp? [kE (zM S (.lst (L.map dA)))];exact e
 have a: ∀_:Unit,yP (De [#[ts.map tbl,3],some (qM hs as),none,none,none] S)=.ok (rgE (zAM L)) (S++[.lst (L.map dA)]):=λ_=>by
  unfold De;rw[zE m]
  cases c:zAM L with
  |none=>
   rw[c]at f;rw[zE f];rfl
  |some p=>
   rw[c]at f;rw[cT f];rfl
 have a:=a ()
 cases c:zAM L with
 |none=>
  rw[c]at a;exact mZ (T:=[.lst (L.map dA)]) rfl a (UR _) (λl=>by simp)
 |some p=>
  rw[c]at a
  exact cI (T:=[.lst (L.map dA)]) rfl a (kO λd h=>by
   rcases mC.mp h with rfl|h
   .exact AH _ _
   .rw[mS.mp h];exact AH _ _)
end
def zT(h:F ρ S=.ok (.next ρ') S')(k:G ρ' S'=r):zL F G ρ S=r:=(zE h).trans k
theorem PB(h:X=.ok (.ret r) S):yP X=.ok r S:=by rw[h];rfl
def md{x:Int}(h:0<n:=by decide):0<=x % n/\x % n<n:=⟨eN0 _ (by omega),eL _ h⟩
section
variable{K F:Nat->List (List Nat)}{a b:Nat}{y:Db}
def Zw(f:a=0/\b=1\/a=1/\b=0)(m:y∈F a)(i:y∈F b)(c:y∉K a)(d:y∈K b):Rc K F 2 a b:=by
 have k: ∀x,Kn K F 2 a x->x∈K a:=by
  intro x h
  induction h with
  |key h=>exact h
  |step j hj hne _ _ ih=>
   have e:j=b:=by omega
   subst e;exact absurd (ih y d) c
 exact .step a b .self (by omega) m i λh=>c (k y h)
def zAN(f:a=0/\b=1\/a=1/\b=0)(c:y∈K b)(i: ∀x,x∈F a->x∈F b->x=y): ¬Rc K F 2 b a:=by
 have d: ∀k,Rc K F 2 b k->k=b:=by
  intro k h
  induction h with
  |self=>rfl
  |step j k hj hk hx1 hx2 hn ih=>
   subst ih;by_cases e:k=j
   .exact e
   .have e:k=a:=by omega
    subst e;exact absurd (.key (by rw[i _ hx2 hx1];exact c)) hn
 intro h;have:=d a h;omega
open Classical in
def zAO(c:a=0/\b=1\/a=1/\b=0)(i:y∈F a)(h:y∈F b)(e:y∉K a)(d:y∈K b)(k: ∀x,x∈F a->x∈F b->x=y):PR (Rc K F 2) 2=[(a,b)]:=by have j:=Zw c i h e d;have f:=zAN c d k;unfold PR;rw[show List.range 2=[0,1]from rfl];rcases c with⟨rfl,rfl⟩|⟨rfl,rfl⟩<;>simp[j,f]
end
def zAP(b:S[l]? =#[ds,2])(c:S[m]? =#[es,2])(a:ds.length+es.length<=1000000):VC #[l,1] [#[m,1]] S=.ok (.val .non) (S.set l (.lst (ds++es))):=by unfold VC;dsimp only;rw[DH c];dsimp only;unfold GO;dsimp only;rw[b];dsimp only;rw[iP (fits a)]
noncomputable abbrev IT(ts q p l o u:V0):Rho:=[ts,q,p,l,o,u]
def Bc(P:List Pr)(L:Db):List Nat:=L.filter λb=>!L.any λa=>decide ((a,b)∈P)
def zEG{P:List Pr}(c:S[p]? =#[P.map dA,2])(a b):KC false #[[zH a,zH b],6] #[p,1] S=.ok (.val (.bl (decide ((a,b)∈P)))) S:=by have h:=fI false c (Al [(a,b)] (dA (a,b)) mF0).1 (Al P);rw[iN xF0,dec_is (Sq (p:=(a,b)) (T:=P))]at h;exact h
def Zx(rs:Db): ∀y∈rs.map zH,pd y=true/\OL y<40:=λy a=>by obtain⟨k,_,rfl⟩:=mM.mp a;exact⟨uI _,by rw[uK];decide⟩
def Hq(C:S[p]? =#[P.map dA,2])(k:S[l]? =#[L.map zH,2])(z:S[o]? =#[O.map zH,2])(G:L.length<=10)(ho:O.length<=10)(w:l≠o):
  KH (IT ts q #[p] #[l] #[o] u) S=.ok (.next (IT ts q #[p] #[↑0+1] #[o] #[↑0])) (((S++[MO.lst ((Bc P L).map zH)]).set o (.lst ((O++Bc P L).map zH)))++[.lst ((L.filter λb=>!decide (b∈Bc P L)).map zH)]):=by
 have i:(L.map zH).length<1000000:=by rw[lM];omega
 have r: ∀a b c:Option MV,vN 1 [0,1] [a,b,c]=[none,a,b]:=λ_ _ _=>rfl;have s: ∀a b c d e f:Option MV,vN 1 [2,3] [a,b,c,d,e,f]=[none,c,d]:=λ_ _ _ _ _ _=>rfl;have y: ∀a b c d e f:Option MV,vN 1 [5] [a,b,c,d,e,f]=[none,f]:=λ_ _ _ _ _ _=>rfl
 have H: ∀b,xM (yX 0) EI rQ [none,some (zH b),#[p]] [(l,L.map zH)] (L.map zH) S=.ok (L.map λa=>.bl (decide ((a,b)∈P))) S:=λb=>
  gN (xP k) λa _=>⟨[some (zH a),some (zH b),#[p]],rfl,rfl,by unfold rQ;simp? [tup2,zEG C]⟩
 have E:xM (yX 0) rR EK [none,#[p],#[l]] [(l,L.map zH)] (L.map zH) S=.ok ((Bc P L).map zH) S:=
  wZ (xP k) λb _=>⟨[some (zH b),#[p],#[l]],rfl,by unfold rR;simp? [kE k,i,r,H,Gk],rfl⟩
 have I:(Bc P L).length<=10:=ì (Ĉ _ _) G;have t:=(gS.mp z).1;have v:=(gS.mp k).1;refine zT (ρ':=IT ts q #[p] #[l] #[o] #[↑0]) (S':=S++[.lst ((Bc P L).map zH)]) ?_ (zT (ρ':=IT ts q #[p] #[l] #[o] #[↑0]) (S':=(S++[MO.lst ((Bc P L).map zH)]).set o (.lst ((O++Bc P L).map zH))) ?_ ?_)
 .unfold EM;simp? [kE k,i,s,E]
 .have m:(S++[.lst ((Bc P L).map zH)])[o]? =#[O.map zH,2]:=by rw[á t];exact z
  unfold EO;simp? [xI m,zAP m (zM S _) (by rw[lM,lM];omega)];rw[<-ó]
 .obtain⟨Z,n⟩: ∃Z,Z=(S++[MO.lst ((Bc P L).map zH)]).set o (.lst ((O++Bc P L).map zH)):=⟨_,rfl⟩
  rw[<-n];have A:Z[l]? =#[L.map zH,2]:=by rw[n,zQ (Ne.symm w),á v];exact k
  have B:Z[↑0]? =#[(Bc P L).map zH,2]:=by rw[n,zQ (by omega)];exact zM _ _
  have D:Z.length=↑0+1:=by rw[n,ÿ,lA,lS]
  have F:xM (yX 0) rS EL [none,#[↑0]] [(l,L.map zH)] (L.map zH) Z=.ok ((L.filter λb=>!decide (b∈Bc P L)).map zH) Z:=
   wZ (xP A) λb _=>⟨[some (zH b),#[↑0]],rfl,by have h:=fI true B (uI b) (Zx _);rw[iP rfl,dec_is (Gp (j:=b) (rs:=Bc P L))]at h;unfold rS;simp? [h],rfl⟩
  unfold EQ;simp? [kE A,i,y,F,D]
def Zy(Q:QOk ts as)(j:a=0/\b=1\/a=1/\b=0)(m:as.length=2)(E:as[a]? =some A)(I:as[b]? =some B)(W:PQ ts hs as=[(a,b)])(S):
  zS 2 DQ [#[ts.map tbl,6],.val (qM hs as)] S=.ok (.new [aM A,aM B]) S:=by
 have r:=An (hs:=hs) Q S;rw[W]at r
 have H: ∀n,sK n [aM A,aM B]:=λn=>kO λd s=>KL (by
  have h: ∀C∈as,pd (aM C)=true:=λC t=>by unfold aM;rw[lI,xF,xF,mN,uI,lI,VY λd s=>(KM ((Q.at' C t).tm d s)).1];rfl
  rcases mC.mp s with rfl|s
  .exact h A (î E)
  .rw[mS.mp s];exact h B (î I))
 have J:Bc [(a,b)] [0,1]=[a]:=by rcases j with⟨rfl,rfl⟩|⟨rfl,rfl⟩<;>decide
 have G:([0,1].filter λc=>!decide (c∈[a]))=[b]:=by rcases j with⟨rfl,rfl⟩|⟨rfl,rfl⟩<;>decide
 have w:Bc [(a,b)] [b]=[b]:=by rcases j with⟨rfl,rfl⟩|⟨rfl,rfl⟩<;>decide
 have y:([b].filter λc=>!decide (c∈[b]))=[]:=by simp
 refine CD (T:=[.lst ([(a,b)].map dA),.lst ([0,1].map zH),.lst ([a,b].map zH),.lst ([a].map zH),.lst ([b].map zH),.lst ([b].map zH),.lst []]) rfl rfl ?_ (.inl rfl) (H _);have M:=Hq (S:=S++[.lst ([(a,b)].map dA),.lst ([0,1].map zH),.lst []]) (ts:=#[ts.map tbl,3]) (q:=some (qM hs as)) (u:=none) (p:=↑0) (l:=↑0+1) (o:=↑0+2) (P:=[(a,b)]) (L:=[0,1]) (O:=[]) (by simp) (by simp) (by simp) ↑3 ↑3 (by omega);rw[J,G]at M;have v:=Hq (S:=S++[.lst ([(a,b)].map dA),.lst ([0,1].map zH),.lst ([a].map zH),.lst ([a].map zH),.lst ([b].map zH)]) (ts:=#[ts.map tbl,3]) (q:=some (qM hs as)) (u:=#[↑0+3]) (p:=↑0) (l:=↑0+4) (o:=↑0+2) (P:=[(a,b)]) (L:=[b]) (O:=[a]) (by simp) (by simp) (by simp) (show 1<=10 by decide) (show 1<=10 by decide) (by omega);rw[w,y]at v;refine PB (zT (F:=qG) (ρ':=IT #[ts.map tbl,3] (some (qM hs as)) #[↑0] none none none) (S':=S++[.lst ([(a,b)].map dA)]) ?_ (zT (F:=BP) (ρ':=IT #[ts.map tbl,3] (some (qM hs as)) #[↑0] #[↑0+1] none none) (S':=S++[.lst ([(a,b)].map dA),.lst ([0,1].map zH)]) ?_ (zT (F:=BQ) (ρ':=IT #[ts.map tbl,3] (some (qM hs as)) #[↑0] #[↑0+1] #[↑0+2] none) (S':=S++[.lst ([(a,b)].map dA),.lst ([0,1].map zH),.lst []]) ?_ (zT (F:=BR) (ρ':=IT #[ts.map tbl,3] (some (qM hs as)) #[↑0] #[↑0+6] #[↑0+2] #[↑0+5]) (S':=S++[.lst ([(a,b)].map dA),.lst ([0,1].map zH),.lst ([a,b].map zH),.lst ([a].map zH),.lst ([b].map zH),.lst ([b].map zH),.lst []]) ?_ ?_))))
 .show qG (IT _ _ none none none none) S=_;unfold qG;simp? [r]
 .unfold BP;simp? [tL,VU,show∀Z:Sto,Fs [#[((as.map aM).length:Nat),5]] Z=.ok (.new ([0,1].map zH)) Z from λZ=>by rw[lM,m];rfl];simp
 .unfold BQ;simp? [cH];simp
 .unfold BR;rw[bE (n:=9999) (S1:=S++[.lst ([(a,b)].map dA),.lst ([0,1].map zH),.lst []]) (by unfold mI;simp? [qQ (show(S++[MO.lst ([(a,b)].map dA),.lst ([0,1].map zH),.lst []])[↑0+1]? =#[[0,1].map zH,2] by simp)];rfl) M];simp only[lA,lC,ç,İ,Nat.reduceAdd,aA,List.cons_append,Ě,List.set_append_right _ _ (ď _ _),Nat.add_sub_cancel_left,List.set_cons_succ,List.set_cons_zero,add_assoc,List.map_nil]at v ⊢;rw[bE (n:=9998) (S1:=S++[.lst ([(a,b)].map dA),.lst ([0,1].map zH),.lst ([a].map zH),.lst ([a].map zH),.lst ([b].map zH)]) (by unfold mI;simp? [qQ (show(S++[MO.lst ([(a,b)].map dA),.lst ([0,1].map zH),.lst ([a].map zH),.lst ([a].map zH),.lst ([b].map zH)])[↑0+4]? =#[[b].map zH,2] by simp)];rfl) v];exact sX (n:=9997) (by unfold mI;simp? [qQ (show(S++[MO.lst ([(a,b)].map dA),.lst ([0,1].map zH),.lst ([a,b].map zH),.lst ([a].map zH),.lst ([b].map zH),.lst ([b].map zH),.lst []])[↑0+6]? =#[[],2] by simp)];rfl)
 .obtain⟨Z,U⟩: ∃Z,Z=S++[MO.lst ([(a,b)].map dA),.lst ([0,1].map zH),.lst ([a,b].map zH),.lst ([a].map zH),.lst ([b].map zH),.lst ([b].map zH),.lst []]:=⟨_,rfl⟩
  rw[<-U];have N:Z[↑0+2]? =#[[a,b].map zH,2]:=by rw[U];simp
  have K:xM (yX 0) ER rV [none,some (qM hs as)] [(↑0+2,[a,b].map zH)] ([a,b].map zH) Z=.ok ([a,b].map λk=>((as[k]?).map aM).getD .non) Z:=
   gN (xP N) λk D=>⟨[some (zH k),some (qM hs as)],rfl,rfl,by
    obtain⟨C,t⟩: ∃C,as[k]? =some C:=by
     rcases mC.mp D with rfl|D
     .exact⟨A,E⟩
     .rw[mS.mp D];exact⟨B,I⟩
    unfold rV;simp? [tL,ix_tup (S:=Z) (i:=(k:Int)) (d:=aM C) (tN (by rw[ï,t];rfl))];rw[t];rfl⟩
  rw[show([a,b].map λk=>((as[k]?).map aM).getD .non)=[aM A,aM B] by rw[ã,ã,List.map_nil,E,I];rfl]at K;have z: ∀a b c d e f:Option MV,vN 1 [1] [a,b,c,d,e,f]=[none,b]:=λ_ _ _ _ _ _=>rfl;unfold KI;simp? [kE N,show(List.map zH [a,b]).length<1000000 from(show 2<1000000 by decide),z,K]
def zEH:QG 0=[48]:=by decide+kernel
def dec1:QG 1=[49]:=by decide+kernel
def CN(N:Ch)(t:MV):Bool:=match vn t with |some x=>!decide (x∈N)|none=>false
def WQ(N)(x):CN N (.tup [.str JF,.str x])= !decide (x∈N):=by unfold CN;rw[nZ]
def WR(N)(v):CN N (.tup [.str IS,v])=false:=by unfold CN;rw[HP]
theorem Sw(b:S[n]? =#[N.map MV.str,2])(h:jQ t):zS 2 tG [.val t,#[n,1]] S=.ok (.val (.bl (CN N t))) S:=by
 refine LT rfl ?_;show yP (OG [some t,#[n]] S)=_;unfold OG OE;rcases h with⟨x,rfl⟩|⟨v,_,rfl⟩
 .have a:=fI true b (dI x) LU;rw[iP rfl,dec_is (LV (x:=x) (fs:=N))]at a;rw[WQ];simp? [CF,tL,TF];show yP ((KC true (.val (.str x)) #[n,1] S).bind λr S=>R.ok (Fl.ret r) S)=_;rw[a];rfl
 .rw[WR];simp? [CF,tL,Gg,fT,iF];rfl
noncomputable abbrev SM:List Nat:=[115,111,109,101,32]
def uN(N:Ch)(t:MV):MV:=if CN N t=true then .tup [.str JF,.str (SM++(vn t).getD [])]else t
def Sh(t:MV):Prop:=jQ t/\ ∀x,vn t=some x->x.length<=100
def WS(h:Sh t):jQ (uN N t):=by
 unfold uN;split
 .exact .inl ⟨_,rfl⟩
 .exact h.1
theorem Sx(b:S[n]? =#[N.map MV.str,2])(h:Sh t):zS 2 uF [.val t,#[n,1]] S=.ok (.val (uN N t)) S:=by
 refine sW rfl ?_ (KL (KM (WS h)).1) (λl e=>by rcases WS (N:=N) h with⟨x,e'⟩|⟨v,_,e'⟩<;>rw[e']at e<;>cases e);have a:=Sw b h.1;show yP (FM [some t,#[n]] S)=_;unfold FM HL uN;by_cases hw:CN N t=true
 .rcases h.1 with⟨x,rfl⟩|⟨v,_,rfl⟩
  .have c:=h.2 x (nZ x);rw[iP hw,nZ];rw[hw]at a;simp? [a,tL,Qf (x:=SM) (y:=x) (by show 5+x.length<=1000;omega),tup2];rfl
  .rw[WR]at hw;cases hw
 .rw[iN hw];rw[Bool.not_eq_true]at hw;rw[hw]at a;simp? [a,fT,iF];rfl
def FQ:Pt->MV
 |.same a b=>.tup [.str OT,a,b]
 |.quan x t tms=>.tup [.str (Ts (.quan x t tms)),.int t,.tup tms]
def EW(t:Int):List Nat:=[99,101,108,108,32]++QG t++[32]++[48]
abbrev cV(t:Int):MV:=.tup [.str JF,.str (EW t)]
def pU(N:Ch)(t:Int)(k c:MV):List Pt:=.quan true t [k,uN (N++DY [k]) c]::if CN (N++DY [k]) c=true then [.quan false t [k,c]]else [.quan false t [k,cV t],.same (cV t) c]
noncomputable abbrev TB2:List (Int×Int):=[(2,1),(2,1)]
abbrev PF(at':MV)(n:Nat)(a b c d e f g h i:V0):Rho:=[#[TB2.map tbl,3],some at',#[n],a,b,c,d,e,f,g,h,i]
theorem Sy(d:t=0\/t=1)(b:vJ 3 ρ S=.ok #[t,5] S)(a:vJ 10 ρ S=.ok #[0,5] S):(X4 [99,101,108,108,32] (zBF (vJ 3) (X4 [32] (zBF (vJ 10) fzF)))) [] ρ S=.ok (.val (.str (EW t))) S:=by
 have g: ∀{o:Db}{r:Er}{y:Db}{k:List Nat->R Er},Po r=some y->(o++y).length<=1000->zBE o r k=k (o++y):=λh j=>by unfold zBE;rw[h];exact iP (fits (by omega))
 have f: ∀i:Int,i=0\/i=1->Po #[i,5]=some (QG i)/\(QG i).length=1:=λi hi=>by
  refine⟨iP (show i.natAbs.log2<1920 by rcases hi with rfl|rfl<;>decide),?_⟩;rcases hi with rfl|rfl
  .rw[zEH];rfl
  .rw[dec1];rfl
 obtain⟨e,m⟩:=f t d;obtain⟨c,n⟩:=f 0 (.inl rfl);unfold X4;rw[g rfl ↑3];unfold zBF;rw[b,cH,g e (by simp only[lA,lC,ç];omega)];dsimp only;rw[g rfl (by simp only[lA,lC,ç];omega),a,cH,g c (by simp only[lA,lC,ç];omega),zEH];rfl
def Zz(r:t=0\/t=1)(m:Sh c)(s:N.length<=100)(S):
  rW (PF at' n #[t,0] b' c' #[↑0] e #[↑0+1] #[↑0+2] #[0,0] (some c)) (S++[.lst (N.map MV.str),.lst [],.lst []])=
   .ok (.next (PF at' n #[t,0] b' c' #[↑0] e #[↑0+1] #[↑0+2] #[0,0] (some c)))
    (if CN N c=true then S++[.lst ((N++[(vn c).getD []]).map MV.str),.lst [c],.lst []]else S++[.lst (N.map MV.str),.lst [cV t],.lst [FQ (.same (cV t) c)]]):=by
 obtain⟨Z,b⟩: ∃Z,Z=S++[.lst (N.map MV.str),.lst [],.lst []]:=⟨_,rfl⟩
 have h:Z[↑0]? =#[N.map MV.str,2]:=by rw[b];simp
 have f:Z[↑0+1]? =#[[],2]:=by rw[b];simp
 have o:Z[↑0+2]? =#[[],2]:=by rw[b];simp
 have a:=Sw h m.1;rw[<-b];unfold rW vE;by_cases hw:CN N c=true
 .rw[iP hw];rw[hw]at a;rcases m.1 with⟨x,rfl⟩|⟨v,_,rfl⟩
  .have k:(Z.set (↑0+1) (.lst ([]++[.tup [.str JF,.str x]])))[↑0]? =#[N.map MV.str,2]:=by rw[zQ (by omega)];exact h
   simp? [a];refine zT (ρ':=PF at' n #[t,0] b' c' #[↑0] e #[↑0+1] #[↑0+2] #[0,0] #[[.str JF,.str x],3]) (S':=Z.set (↑0+1) (.lst ([]++[.tup [.str JF,.str x]]))) ?_ ?_
   .simp? [xI f,jE f ↑3]
   .simp? [xI k,tL,jE k (show(N.map MV.str).length<1000000 by rw[lM];omega)];rw[b,nZ];simp
  .rw[WR]at hw;cases hw
 .rw[iN hw];rw[Bool.not_eq_true]at hw;rw[hw]at a;have q:(Z.set (↑0+1) (.lst ([]++[cV t])))[↑0+1]? =#[[cV t],2]:=get_set f;have j:(Z.set (↑0+1) (.lst ([]++[cV t])))[↑0+2]? =#[[],2]:=by rw[zQ (by omega)];exact o
  have p:=Sy r (ρ:=PF at' n #[t,0] b' c' #[↑0] e #[↑0+1] #[↑0+2] #[0,0] (some c)) (S:=Z) rfl rfl;simp? [a,fT,iF];refine zT (ρ':=PF at' n #[t,0] b' c' #[↑0] e #[↑0+1] #[↑0+2] #[0,0] (some c)) (S':=Z.set (↑0+1) (.lst ([]++[cV t]))) ?_ ?_
  .simp? [xI f,p,tup2,jE f ↑3]
  .simp? [xI j,aP q (i:= -1) (d:=cV t) rfl,jE j ↑3];rw[b];simp[FQ]
def F9(t):jQ (cV t):=.inl ⟨_,rfl⟩
def Dm(i:Sh k)(h:Sh c): ∀p∈pU N t k c,CK p:=by
 have two: ∀{a b:MV},jQ a->jQ b->(∀d∈[a,b],jQ d)/\[a,b].length<=100:=λm j=>⟨λd f=>by
  rcases mC.mp f with rfl|f
  .exact m
  .rw[mS.mp f];exact j,show 2<=100 by decide⟩
 intro p e;unfold pU at e;rcases mC.mp e with rfl|e
 .exact two i.1 (WS h)
 .split at e
  .rw[mS.mp e];exact two i.1 h.1
  .rcases mC.mp e with rfl|e
   .exact two i.1 (F9 t)
   .rw[mS.mp e];exact two (F9 t) h.1
theorem zAQ{ps:List Pt}(h: ∀p∈ps,CK p)(n):sK n (ps.map FQ):=kO λd e=>by
 obtain⟨p,f,rfl⟩:=mM.mp e;have c:=(h p f).1;refine KL ?_
 cases p with
 |same a b=>
  show pd (.tup [.str OT,a,b])=true;rw[lI,xF,xF,xF,mN,dI,(KM (c a mF0)).1,(KM (c b (mO _ mF0))).1];rfl
 |quan x t tms=>
  show pd (.tup [.str _,.int t,.tup tms])=true;rw[lI,xF,xF,xF,mN,dI,uI,lI,VY (ds:=tms) λd e=>(KM (c d e)).1];rfl
def Hr(k):(DY [k]).length<=1:=by refine ì (bM _ _) ?_;have:=ċ vn [k];rw[lS]at this;rw[ç];omega
theorem zEI(I:t=0\/t=1)(G:Sh k)(r:Sh c)(P:S[n]? =#[N.map MV.str,2])(W:N.length<=50):
  zS 3 qH [#[TB2.map tbl,6],.val (aM (t,[k,c])),#[n,1]] S=.ok (.new ((pU N t k c).map FQ)) S:=by
 obtain⟨M,A⟩: ∃M,M=N++DY [k]:=⟨_,rfl⟩
 have C:M.length<=100:=by rw[A,lA];have:=Hr k;omega
 have o:pU N t k c=.quan true t [k,uN M c]::if CN M c=true then [.quan false t [k,c]]else [.quan false t [k,cV t],.same (cV t) c]:=by unfold pU;rw[A]
 obtain⟨Z,z⟩: ∃Z,Z=if CN M c=true then S++[.lst ((M++[(vn c).getD []]).map MV.str),.lst [c],.lst []]else S++[.lst (M.map MV.str),.lst [cV t],.lst [FQ (.same (cV t) c)]]:=⟨_,rfl⟩
 obtain⟨T,U⟩: ∃T,Z=S++T:=by rw[z];split<;>exact⟨_,rfl⟩
 have w:=zAQ (Dm (N:=N) (t:=t) G r) ↑0;refine CD (T:=T) rfl rfl ?_ (.inl rfl) w;rw[<-U];have q: ∀Y:Sto,xK #[TB2.map tbl,6] #[t,5] Y=.ok (.val (tbl (2,1))) Y:=λY=>by rcases I with rfl|rfl<;>rfl
 have B:=WM (tm0:=.int t) (tms:=[k]) (λd D=>by rw[mS.mp D];exact G.1) (show 1<=100 by decide) S;have v:(N.map MV.str).length+((DY [k]).map MV.str).length<=1000000:=by rw[lM,lM];have:=Hr k;omega
 have p: ∀a b c d e f g h i j k l:Option MV,vN 1 [6] [a,b,c,d,e,f,g,h,i,j,k,l]=[none,g]:=λ_ _ _ _ _ _ _ _ _ _ _ _=>rfl;have K:(S++[MO.lst (M.map MV.str)])[↑0]? =#[M.map MV.str,2]:=zM _ _
 have s:xM (yX 0) vD iV [none,#[↑0]] [] [c] (S++[.lst (M.map MV.str)])=.ok [uN M c] (S++[.lst (M.map MV.str)]):=
  gN (ds:=[c]) (f:=id) (g:=uN M) (kG _) λd D=>⟨[some d,#[↑0]],rfl,rfl,by rw[mS.mp D];unfold iV;simp? [Sx K r]⟩
 refine PB (zT (F:=ES) (ρ':=PF (aM (t,[k,c])) n #[t,0] none none none none none none none none) (S':=S) rfl (zT (F:=rX) (ρ':=PF (aM (t,[k,c])) n #[t,0] #[1,0] none none none none none none none) (S':=S) ?_ (zT (F:=ET) (ρ':=PF (aM (t,[k,c])) n #[t,0] #[1,0] #[[k],3] none none none none none none) (S':=S) rfl (zT (F:=rY) (ρ':=PF (aM (t,[k,c])) n #[t,0] #[1,0] #[[k],3] #[↑0] none none none none none) (S':=S++[.lst (M.map MV.str)]) ?_ (zT (F:=rZ) (ρ':=PF (aM (t,[k,c])) n #[t,0] #[1,0] #[[k],3] #[↑0] (some (FQ (.quan true t [k,uN M c]))) none none none none) (S':=S++[.lst (M.map MV.str)]) ?_ (zT (F:=sB) (ρ':=PF (aM (t,[k,c])) n #[t,0] #[1,0] #[[k],3] #[↑0] (some (FQ (.quan true t [k,uN M c]))) #[↑0+1] none none none) (S':=S++[.lst (M.map MV.str),.lst []]) ?_ (zT (F:=sC) (ρ':=PF (aM (t,[k,c])) n #[t,0] #[1,0] #[[k],3] #[↑0] (some (FQ (.quan true t [k,uN M c]))) #[↑0+1] #[↑0+2] none none) (S':=S++[.lst (M.map MV.str),.lst [],.lst []]) ?_ (zT (F:=sD) (ρ':=PF (aM (t,[k,c])) n #[t,0] #[1,0] #[[k],3] #[↑0] (some (FQ (.quan true t [k,uN M c]))) #[↑0+1] #[↑0+2] #[0,0] (some c)) (S':=Z) ?_ ?_))))))))
 .unfold rX;simp? [q];rfl
 .unfold rY;simp? [tup2,lst1,B,IQ (DH P) (show XN S (.new ((DY [k]).map MV.str))=some _ from rfl) (fits v)];rw[<-ó, <-A]
 .unfold rZ;simp? [show∀Y:Sto,xK (.val (aM (t,[k,c]))) #[1,5] Y=.ok #[[k,c],6] Y from λ_=>rfl,show∀Y:Sto,fQ #[[k,c],6] (some 1) none Y=.ok #[[c],6] Y from λ_=>rfl,ON,p,s,TJ,GR (x:=[k]) (y:=[uN M c]) (fits (show 2<=1000000 by decide))];rfl
 .unfold sB;simp? [cH];simp
 .unfold sC;simp? [cH];simp
 .unfold sD;simp? [show∀Y:Sto,xK (.val (aM (t,[k,c]))) #[1,5] Y=.ok #[[k,c],6] Y from λ_=>rfl,show∀Y:Sto,fQ #[[k,c],6] (some 1) none Y=.ok #[[c],6] Y from λ_=>rfl,Gq];have H:=Zz (at':=aM (t,[k,c])) (n:=n) (b':=#[1,0]) (c':=#[[k],3]) (e:=some (FQ (.quan true t [k,uN M c]))) I r C S;rw[<-z]at H;exact(zZ rfl H (kG _)).trans rfl
 .obtain⟨xs,m,L,O,u⟩: ∃x m,Z[S.length+1]? =#[[x],2]/\Z[↑0+2]? =#[m,2]/\pU N t k c=.quan true t [k,uN M c]::.quan false t [k,x]::(if CN M c=true then []else [.same (cV t) c])/\m=(if CN M c=true then []else [FQ (.same (cV t) c)]):=by
   rw[o,z];by_cases hw:CN M c=true
   .simp only[iP hw];exact⟨c,_,by simp,by simp,rfl,rfl⟩
   .simp only[iN hw];exact⟨cV t,_,by simp,by simp,rfl,rfl⟩
  obtain⟨Q,J⟩:=u;have E:2+m.length<=1000000:=by rw[J];split<;>simp
  unfold EU;simp? [TD L,GR (x:=[k]) (y:=[xs]) (fits (show 2<=1000000 by decide)),Ol,IQ (show XN Z (.new [FQ (.quan true t [k,uN M c]),.tup [.str Y1,.int t,.tup ([k]++[xs])]])=some _ from rfl) (DH O) (fits E)];rw[Q,J];split<;>rfl
abbrev Do(q:MV)(f n p a o r:V0):Rho:=[#[TB2.map tbl,3],some q,f,n,p,a,o,r]
def Hs(p:t=0\/t=1)(n:Sh k)(m:Sh c)(v:N.length<=50)(w:ps.length<=100)(S):
  qI (Do q f #[↑0] #[↑0+1] (some (aM (t,[k,c]))) o r) (S++[.lst (N.map MV.str),.lst (ps.map FQ)])=.ok (.next (Do q f #[↑0] #[↑0+1] (some (aM (t,[k,c]))) o r)) (S++[.lst ((N++DY [k,c]).map MV.str),.lst ((ps++pU N t k c).map FQ)]):=by
 obtain⟨Z,a⟩: ∃Z,Z=S++[.lst (N.map MV.str),.lst (ps.map FQ)]:=⟨_,rfl⟩
 have h:Z[↑0]? =#[N.map MV.str,2]:=by rw[a];simp
 have i:Z[↑0+1]? =#[ps.map FQ,2]:=by rw[a];simp
 have s:(pU N t k c).length<=3:=by unfold pU;rw[lC];split<;>simp
 have u:(DY [k,c]).length<=2:=ì (bM _ _) (by have:=ċ vn [k,c];simp only[lC,ç]at this ⊢; omega);rw[<-a];refine zT (ρ':=Do q f #[↑0] #[↑0+1] (some (aM (t,[k,c]))) o r) (S':=Z.set (↑0+1) (.lst (ps.map FQ++(pU N t k c).map FQ))) ?_ ?_
 .unfold lP;simp? [xI i,zEI p n m h v,WC i (es:=(pU N t k c).map FQ) (by rw[lM,lM];omega)]
 .have j:(Z.set (↑0+1) (.lst (ps.map FQ++(pU N t k c).map FQ)))[↑0]? =#[N.map MV.str,2]:=by rw[zQ (by omega)];exact h
  have e:=WM (tm0:=.int t) (tms:=[k,c]) (λd b=>by
   rcases mC.mp b with rfl|b
   .exact n.1
   .rw[mS.mp b];exact m.1) (show 2<=100 by decide)
  unfold lQ;simp? [xI j,lst1,show aM (t,[k,c])=.tup [.int t,.tup [k,c]]from rfl,e,WC j (es:=(DY [k,c]).map MV.str) (by rw[lM,lM];omega)];rw[a, <-ó, <-ó];simp
theorem Ht(hs:stay gs S): ∀(L b:List Pt) r , ∃d,kZ (yX 7) nL gs (L.map FQ) (Do q f n #[lp] a (some (fM b)) r) S=.ok (.next (Do q f n #[lp] a (some (fM (L.reverse++b))) d)) S
 |[],b,r=>⟨r,rfl⟩
 |p::L,b,r=>by
  obtain⟨d,e⟩:=Ht (q:=q) (f:=f) (n:=n) (a:=a) (lp:=lp) hs L (p::b) (some (FQ p));refine⟨d,?_⟩
  have c:jL (.val (FQ p)) #[[fM b],6] S=.ok (.val (fM (p::b))) S:=by
   cases p with
   |same x y=>exact GR (x:=[.str OT,x,y]) (y:=[fM b]) (fits (show 4<=1000000 by decide))
   |quan x t tms=>exact GR (x:=[.str _,.int t,.tup tms]) (y:=[fM b]) (fits (show 4<=1000000 by decide))
  rw[ã,zZ (ρ0:=Do q f n #[lp] a (some (fM b)) (some (FQ p))) (ρ':=Do q f n #[lp] a (some (fM (p::b))) (some (FQ p))) (S':=S) rfl (by unfold nL lR;simp? [show∀(x:MV)(Z:Sto),wR [.val x] Z=.ok #[[x],6] Z from λ_ _=>FD (by simp),c]) hs,e,reverse_cons,aA];rfl
abbrev A1(hs:Ch)(t:Int)(k c:MV)(t':Int)(k' c':MV):List Pt:=pU hs t k c++pU (hs++DY [k,c]) t' k' c'
def zAR(Q:QOk TB2 as)(J:t=0\/t=1)(s:t'=0\/t'=1)(z:Sh k)(A:Sh c)(i:Sh k')(m:Sh c')(u:a=0/\b=1\/a=1/\b=0)(h:as.length=2)(H:as[a]? =some (t,[k,c]))(K:as[b]? =some (t',[k',c']))(E:PQ TB2 hs as=[(a,b)])(P:hs.length<=10)(S):
  zS 2 cX [#[TB2.map tbl,6],.val (qM hs as)] S=.ok (.val (fM (A1 hs t k c t' k' c'))) S:=by
 have y:=Zv (hs:=hs) Q S;rw[E,show zAM [(a,b)]=none by unfold zAM;rw[List.find?_cons_of_neg (by simp;omega)];rfl]at y;have L:(DY [k,c]).length<=2:=ì (bM _ _) (by have:=ċ vn [k,c];simp only[lC,ç]at this ⊢; omega);obtain⟨ps,d⟩: ∃ps,ps=A1 hs t k c t' k' c':=⟨_,rfl⟩
 have v: ∀p∈ps,CK p:=λp D=>by rw[d]at D;exact(å.mp D).elim (Dm z A p) (Dm i m p)
 rw[<-d];obtain⟨M,G⟩: ∃M,M=hs++DY [k,c]++DY [k',c']:=⟨_,rfl⟩
 refine mZ (T:=[.lst (M.map MV.str),.lst (ps.map FQ)]) rfl ?_ (Rk v) (λl e=>by cases ps with |nil=>cases e|cons p ps=>cases p<;>cases e);obtain⟨Z,w⟩: ∃Z,Z=S++[.lst (M.map MV.str),.lst (ps.map FQ)]:=⟨_,rfl⟩
 have C:Z[↑0+1]? =#[ps.map FQ,2]:=by rw[w];simp
 obtain⟨I,j⟩:=Ht (q:=qM hs as) (f:=some .non) (n:=#[↑0]) (a:=some (aM (t',[k',c']))) (lp:=↑0+1) (xP C) ps.reverse [] none;rw[List.reverse_reverse,aN]at j;refine PB (zT (F:=gY) (ρ':=Do (qM hs as) (some .non) none none none none none) (S':=S) ?_ (zT (F:=qK) (ρ':=Do (qM hs as) (some .non) none none none none none) (S':=S) rfl (zT (F:=qL) (ρ':=Do (qM hs as) (some .non) #[↑0] none none none none) (S':=S++[.lst (hs.map MV.str)]) rfl (zT (F:=nN) (ρ':=Do (qM hs as) (some .non) #[↑0] #[↑0+1] none none none) (S':=S++[.lst (hs.map MV.str),.lst []]) ?_ (zT (F:=nO) (ρ':=Do (qM hs as) (some .non) #[↑0] #[↑0+1] (some (aM (t',[k',c']))) none none) (S':=Z) ?_ (zT (F:=qN) (ρ':=Do (qM hs as) (some .non) #[↑0] #[↑0+1] (some (aM (t',[k',c']))) (some (fM [])) none) (S':=Z) rfl (zT (F:=nP) (ρ':=Do (qM hs as) (some .non) #[↑0] #[↑0+1] (some (aM (t',[k',c']))) (some (fM ps)) I) (S':=Z) ?_ (by rw[<-w];rfl))))))))
 .show gY (Do (qM hs as) none none none none none none) S=_;unfold gY;simp? [y];rfl
 .unfold nN;simp? [cH];simp
 .have O:=Hs (q:=qM hs as) (f:=some .non) (o:=none) (r:=none) J z A (N:=hs) (by omega) (ps:=[]) ↑3 S;have B:=Hs (q:=qM hs as) (f:=some .non) (o:=none) (r:=none) s i m (N:=hs++DY [k,c]) (by rw[lA];omega) (ps:=pU hs t k c) (by unfold pU;rw[lC];split<;>simp) S;rw[<-G,show pU hs t k c++pU (hs++DY [k,c]) t' k' c'=ps from d.symm, <-w]at B;unfold nO;simp? [Zy Q u h H K E,CG];rw[zZ rfl O (kG _),zZ rfl B (kG _)];rfl
 .unfold nP;simp? [show zDJ [#[↑0+1,1]] Z=.ok ⟨(ps.map FQ).reverse,[(↑0+1,ps.map FQ)]⟩ Z by unfold zDJ srcOf;dsimp only;rw[C];rfl];rw[<-List.map_reverse];exact j
abbrev vT(x:Db):MV:=.tup [.str JF,.str x]
abbrev iT(v:MV):MV:=.tup [.str IS,v]
structure Two(hs:Ch)(x y z:Db)(B L:MV):Prop where
 b:B=vT x\/ ∃v,VS v/\B=iT v
 l:L=vT z\/ ∃v,VS v/\L=iT v
 h: ∀w∈hs,w=x
 xy:x≠y
 xz:x≠z
 yz:y≠z
section
def Two.vb(W:Two hs x y z B L)(h:w∈[B].filterMap vn):w=x:=by
 rcases W.b with e|⟨v,_,e⟩
 .rw[e,ą,nZ]at h;exact mS.mp h
 .rw[e,ą,HP]at h;simp at h
def Two.vl(W:Two hs x y z B L)(h:w∈[L].filterMap vn):w=z:=by
 rcases W.l with e|⟨v,_,e⟩
 .rw[e,ą,nZ]at h;exact mS.mp h
 .rw[e,ą,HP]at h;simp at h
def Two.ny(W:Two hs x y z B L):y∉hs:=λh=>W.xy (W.h y h).symm
def zEJ(a b):[a,b].filterMap vn=[a].filterMap vn++[b].filterMap vn:=List.filterMap_append (l:=[a]) (l':=[b])
theorem zAS(x):[vT x].filterMap vn=[x]:=by rw[ą,nZ];rfl
def Two.pq(W:Two hs x y z B L){b:Nat}(n:t=0\/t=1)(e:t'=0\/t'=1)(f:a=0/\b=1\/a=1/\b=0)(c:as.length=2)(j:as[a]? =some (t,[B,vT y]))(i:as[b]? =some (t',[vT y,L])):PQ TB2 hs as=[(a,b)]:=by
 have d: ∀{t:Int}(tms:U0),(t=0\/t=1)->QR TB2 hs (t,tms)=Dk hs (tms.take 1):=λtms h=>by unfold QR;rcases h with rfl|rfl<;>rfl
 show PR (Rc (Kq TB2 hs as) (Fq hs as) as.length) as.length=_;rw[c];refine zAO f (y:=y) ?_ ?_ ?_ ?_ λw m k=>?_
 .rw[HV j,pK];exact⟨by rw[zEJ,zAS];simp,W.ny⟩
 .rw[HV i,pK];exact⟨by rw[zEJ,zAS];simp,W.ny⟩
 .rw[TL j,d _ n,pK];exact λh=>W.xy (W.vb h.1).symm
 .rw[TL i,d _ e,pK];exact⟨by show y∈[vT y].filterMap vn;rw[zAS];exact mS.mpr rfl,W.ny⟩
 .rw[HV j,pK,zEJ,zAS,å]at m;rw[HV i,pK,zEJ,zAS,å]at k;rcases m.1 with h|h
  .rcases k.1 with h'|h'
   .exact mS.mp h'
   .exact absurd ((W.vb h).symm.trans (W.vl h')) W.xz
  .exact mS.mp h
def WT:w∈DY tms↔w∈tms.filterMap vn:=by unfold DY;rw[cP];simp
def G7(g:Int)(y z:Db):Option MV->List Pt
 |none=>[.quan true g [vT y,vT (SM++z)],.quan false g [vT y,vT z]]
 |some v=>[.quan true g [vT y,iT v],.quan false g [vT y,cV g],.same (cV g) (iT v)]
def uO(f g:Int)(y z:Db)(B:MV)(w:V0):List Pt:=.quan true f [B,vT (SM++y)]::.quan false f [B,vT y]::G7 g y z w
theorem Two.parts(W:Two hs x y z B L)(f g)(hw:L=(w.map iT).getD (vT z)):A1 hs f B (vT y) g (vT y) L=uO f g y z B w:=by
 have d:y∉hs++DY [B]:=λh=>by
  rcases å.mp h with h|h
  .exact W.ny h
  .exact W.xy (W.vb (WT.mp h)).symm
 have b:CN (hs++DY [B]) (vT y)=true:=by rw[WQ,dF0 d];rfl
 have p1:pU hs f B (vT y)=[.quan true f [B,vT (SM++y)],.quan false f [B,vT y]]:=by unfold pU uN;rw[iP b,iP b,nZ];rfl
 unfold A1;rw[p1];unfold uO
 cases w with
 |none=>
  have e:L=vT z:=hw;subst e
  have c:z∉hs++DY [B,vT y]++DY [vT y]:=λh=>by
   rcases å.mp h with h|h
   .rcases å.mp h with h|h
    .exact W.xz (W.h z h).symm
    .rw[WT,zEJ,zAS]at h;rcases å.mp h with h|h
     .exact W.xz (W.vb h).symm
     .exact W.yz (mS.mp h).symm
   .rw[WT,zAS]at h;exact W.yz (mS.mp h).symm
  have a:CN (hs++DY [B,vT y]++DY [vT y]) (vT z)=true:=by rw[WQ,dF0 c];rfl
  unfold pU uN;rw[iP a,iP a,nZ];rfl
 |some v=>
  have e:L=iT v:=hw;subst e;unfold pU uN;rw[WR,iN xF0,iN xF0];rfl
end
abbrev R3:=Int×MV×MV
noncomputable def Hu(r:R3):Rw:=(r.1,[r.2.1,r.2.2])
def Dp(E:Ev)(u:MV):Option MV:=match vn u with |some x=>look E (.str x)|none=>some (isv u)
def JL(E)(x):Dp E (vT x)=look E (.str x):=by unfold Dp;rw[nZ]
theorem Hv(E)(v):Dp E (iT v)=some v:=by unfold Dp;rw[HP];rfl
def Ao(E)(k d)(n):look (E++[(k,d)]) (.str n)=(look E (.str n)).or (if k=.str n then some d else none):=JI E k d _
theorem CO(h:look E (.str n)=none)(d):look (E++[(.str n,d)]) (.str n)=some d:=by rw[Ao,h,iP rfl];rfl
theorem gO(h:m≠n)(d):look (E++[(.str m,d)]) (.str n)=look E (.str n):=by rw[Ao,iN λe=>h (MV.str.inj e)];cases look E (.str n)<;>rfl
section
def G8(a:jQ u)(h:Dp E u=some d)(ts cs):wN (u::ts) (c0::cs) E=if d=c0 then wN ts cs E else none:=by
 rcases a with⟨x,rfl⟩|⟨v,_,rfl⟩
 .rw[JL]at h;rw[qS,h]
 .rw[Hv]at h;cases h;rw[FP]
theorem G9(h:look E (.str n)=none):wN [vT n] [c1] E=some (E++[(.str n,c1)]):=by rw[qS,h];rfl
def CP(a:jQ u)(h:Dp E u=some d)(b:look E (.str n)=none):wN [u,vT n] [c0,c1] E=some E'↔d=c0/\E'=E++[(.str n,c1)]:=by
 rw[G8 a h,G9 b];by_cases e:d=c0
 .rw[iP e];exact⟨λz=>⟨e,(â z).symm⟩,λz=>by rw[z.2]⟩
 .rw[iN e];exact⟨nofun,λz=>absurd z.1 e⟩
def Sz(b:jQ u)(h:Dp E u=some d):wN [u,iT v] [c0,c1] E=some E'↔d=c0/\v=c1/\E'=E:=by
 rw[G8 b h,FP];by_cases e:d=c0
 .rw[iP e];by_cases a:v=c1
  .rw[iP a];exact⟨λz=>⟨e,a,(â z).symm⟩,λz=>by rw[z.2.2];rfl⟩
  .rw[iN a];exact⟨nofun,λz=>absurd z.2.1 a⟩
 .rw[iN e];exact⟨nofun,λz=>absurd z.1 e⟩
end
section
variable{R:List R3}
def WU:hold (R.map Hu) (.quan true t tms::ps) E=true↔ ∃r∈R,r.1=t/\ ∃a,wN tms [r.2.1,r.2.2] E=some a/\hold (R.map Hu) ps a=true:=by
 rw[CL,Kr,iP (show Pt.ex (.quan true t tms)=true from rfl),pI,ġ];constructor
 .rintro⟨a,h,b⟩;obtain⟨q,i,e⟩:=Đ.mp h;obtain⟨c,d⟩:=ñ.mp i;obtain⟨r,f,rfl⟩:=mM.mp c;exact⟨r,f,ö d,a,e,b⟩
 .rintro⟨r,f,e,a,h,b⟩;exact⟨a,Đ.mpr ⟨Hu r,ñ.mpr ⟨List.mem_map_of_mem f,dT0 e⟩,h⟩,b⟩
def WX:hold (R.map Hu) (.quan false t tms::ps) E=true↔ ∀r∈R,r.1=t-> ∀a,wN tms [r.2.1,r.2.2] E=some a->hold (R.map Hu) ps a=true:=by
 rw[CL,Kr,iN (show¬Pt.ex (.quan false t tms)=true from xF0),pI,õ];constructor
 .intro h r d e a f;exact h a (Đ.mpr ⟨Hu r,ñ.mpr ⟨List.mem_map_of_mem d,dT0 e⟩,f⟩)
 .intro h a f;obtain⟨q,i,e⟩:=Đ.mp f;obtain⟨b,c⟩:=ñ.mp i;obtain⟨r,d,rfl⟩:=mM.mp b;exact h r d (ö c) a e
end
def zAT(R:List R3)(g:Int)(k:MV)(w:V0):Prop:=(∃r∈R,r.1=g/\r.2.1=k)/\ ∀v,w=some v-> ∀r∈R,r.1=g->r.2.1=k->r.2.2=v
def Sre(R:List R3)(f g:Int)(s w:V0):Prop:= ∃r∈R,r.1=f/\(∀d,s=some d->r.2.1=d)/\ ∀q∈R,q.1=f->q.2.1=r.2.1->zAT R g q.2.2 w
def TN(h:32∉x):SM++y≠x:=λe=>h (by rw[<-e];simp)
def A2{R:List R3}(i:look E (.str y)=some k)(s:32∉y)(t:z≠y)(B:look E (.str z)=none)(hs:look E (.str (SM++z))=none)(j:look E (.str (EW g))=none)(p:32∉z):hold (R.map Hu) (G7 g y z w) E=true↔zAT R g k w:=by
 have c: ∀{E:Ev},look E (.str y)=some k->Dp E (vT y)=some k:=λh=>by rw[JL];exact h
 have ok:jQ (vT y):=.inl ⟨y,rfl⟩
 cases w with
 |none=>
  unfold G7;rw[WU];constructor
  .rintro⟨r,a,e,n,f,_⟩;rw[CP ok (c i) hs]at f;exact⟨⟨r,a,e,f.1.symm⟩,λv c=>by cases c⟩
  .rintro⟨⟨r,a,e,b⟩,_⟩;refine⟨r,a,e,_,(CP ok (c i) hs).mpr ⟨b.symm,rfl⟩,?_⟩;rw[WX];exact λq _ _ n _=>rfl
 |some v=>
  unfold G7;rw[WU]
  have d:hold (R.map Hu) [.quan false g [vT y,cV g],.same (cV g) (iT v)] E=true↔ ∀r∈R,r.1=g->r.2.1=k->r.2.2=v:=by
   rw[WX];constructor
   .intro h r a e b;have:=h r a e _ ((CP ok (c i) j).mpr ⟨b.symm,rfl⟩);rw[CL,Kr,iP (show Pt.ex (.same (cV g) (iT v))=true from rfl),pH,OQ,CO j,ZW]at this;by_cases m:r.2.2=v
    .exact m
    .rw[iN λz=>m (by injection z with z;injection z with _ z;injection z)]at this;cases this
   .intro h r a e n f;rw[CP ok (c i) j]at f;obtain⟨b,rfl⟩:=f;rw[CL,Kr,iP (show Pt.ex (.same (cV g) (iT v))=true from rfl),pH,OQ,CO j,ZW,h r a e b.symm,iP rfl];rfl
  constructor
  .rintro⟨r,a,e,n,f,m⟩;rw[Sz ok (c i)]at f;obtain⟨u,b,rfl⟩:=f;exact⟨⟨r,a,e,u.symm⟩,λA o=>by cases o;exact d.mp m⟩
  .rintro⟨⟨r,a,e,b⟩,h⟩;exact⟨r,a,e,E,(Sz ok (c i)).mpr ⟨b.symm,(h v rfl r a e b).symm,rfl⟩,d.mpr (h v rfl)⟩
def Hw(h:32∉x)(g):EW g≠x:=λe=>h (by rw[<-e];simp[EW])
def zEK(y)(g):SM++y≠EW g:=λe=>by have:=congrArg List.head? e;revert this;unfold EW;simp
structure Frs(E:Ev)(g:Int)(z:Db):Prop where
 fz:look E (.str z)=none
 fs:look E (.str (SM++z))=none
 fc:look E (.str (EW g))=none
structure Nms(x y z:Db):Prop where
 nx:32∉x
 ny:32∉y
 nz:32∉z
 xy:x≠y
 xz:x≠z
 yz:y≠z
section
def Frs.put(h:Frs E g z)(c:n≠z)(b:n≠SM++z)(a:n≠EW g)(d):Frs (E++[(.str n,d)]) g z:=⟨by rw[gO c];exact h.fz,by rw[gO b];exact h.fs,by rw[gO a];exact h.fc⟩
def Frs.wd(h:Frs E g z)(b:n≠z)(a:32∉n)(d):Frs (E++[(.str n,d)]) g z:=h.put b (λe=>TN a e.symm) (λe=>Hw a g e.symm) d
def H9{R:List R3}(N:Nms x y z)(i:jQ B)(m:Dp E B=some c0)(a:look E (.str y)=none)(F:Frs E g z):hold (R.map Hu) (.quan false f [B,vT y]::G7 g y z w) E=true↔ ∀q∈R,q.1=f->q.2.1=c0->zAT R g q.2.2 w:=by
 rw[WX];have j: ∀k,hold (R.map Hu) (G7 g y z w) (E++[(.str y,k)])=true↔zAT R g k w:=λk=>by have d:=F.wd N.yz N.ny k;exact A2 (CO a k) N.ny N.yz.symm d.fz d.fs d.fc N.nz
 constructor
 .intro h q c e b;exact(j _).mp (h q c e _ ((CP i m a).mpr ⟨b.symm,rfl⟩))
 .intro h q c e o n;obtain⟨b,rfl⟩:=(CP i m a).mp n;exact(j _).mpr (h q c e b.symm)
def zAU{R:List R3}(N:Nms x y z)(u:B=vT x\/ ∃v,VS v/\B=iT v)(D:look E (.str y)=none)(hs:look E (.str (SM++y))=none)(F:Frs E g z):hold (R.map Hu) (uO f g y z B w) E=true↔Sre R f g (Dp E B) w:=by
 have ok:jQ B:=u.elim (λh=>.inl ⟨x,h⟩) λ⟨v,a,e⟩=>.inr ⟨v,a,e⟩
 have j: ∀(b k:MV),(∀d,Dp E B=some d->b=d)-> ∃c,wN [B,vT (SM++y)] [b,k] E=some c/\Dp c B=some b/\look c (.str y)=none/\Frs c g z:=λb k i=>by
  have I:SM++y≠z:=TN N.nz;have H:SM++y≠SM++z:=λe=>N.yz (List.append_cancel_left e);have G:SM++y≠EW g:=zEK y g;have J:SM++y≠y:=TN N.ny;have t:SM++y≠x:=TN N.nx
  cases a:Dp E B with
  |some d=>
   have e:=i d a;subst e;refine⟨_,(CP ok a hs).mpr ⟨rfl,rfl⟩,?_,by rw[gO J];exact D,F.put I H G k⟩;rcases u with rfl|⟨v,_,rfl⟩
   .rw[JL]at a ⊢;rw[gO t];exact a
   .rw[Hv]at a ⊢; exact a
  |none=>
   rcases u with rfl|⟨v,_,rfl⟩
   .rw[JL]at a;have M:=F.wd N.xz N.nx b;have q:look (E++[(.str x,b)]) (.str (SM++y))=none:=by rw[gO t.symm];exact hs
    have n:look (E++[(.str x,b)]) (.str y)=none:=by rw[gO N.xy];exact D
    refine⟨E++[(.str x,b)]++[(.str (SM++y),k)],?_,?_,by rw[gO J];exact n,M.put I H G k⟩
    .rw[qS,a];exact G9 q
    .rw[JL,gO t,CO a]
   .rw[Hv]at a;cases a
 unfold uO;rw[WU];constructor
 .rintro⟨r,m,e,O,C,K⟩;have i: ∀d,Dp E B=some d->r.2.1=d:=λd L=>((CP ok L hs).mp C).1.symm;obtain⟨c,o,A,s,p⟩:=j r.2.1 r.2.2 i;rw[o]at C;cases C;exact⟨r,m,e,i,(H9 N ok A s p).mp K⟩
 .rintro⟨r,m,e,i,h⟩;obtain⟨c,o,A,s,p⟩:=j r.2.1 r.2.2 i;exact⟨r,m,e,c,o,(H9 N ok A s p).mpr h⟩
end
def set_same{S:Sto}(h:S[l]? =some o):S.set l o=S:=by obtain⟨a,e⟩:=gS.mp h;rw[<-e];exact List.set_getElem_self a
def qT(r:R3):MV:=Zd (Hu r)
def ROk3(R:List R3):Prop:=(∀r∈R,(r.1=0\/r.1=1)/\VS r.2.1/\VS r.2.2)/\R.length<=14
def J2(c:VS r.2.1)(a:VS r.2.2):pd (qT r)=true/\OL (qT r)<40:=by
 have b: ∀{v:MV},VS v->OL v=0:=λh=>by rcases h with⟨i,rfl⟩|⟨i,rfl⟩;exact uK _;exact qP _
 show pd (.tup [.int r.1,.tup [r.2.1,r.2.2]])=true/\OL (.tup [.int r.1,.tup [r.2.1,r.2.2]])<40;simp only[lI,xF,uI,(lU c).1,(lU a).1,mN,DR,gM,uK,b c,b a,CA];exact⟨rfl,by decide⟩
def ROk3.pd{R:List R3}(h: ∀r∈R,(r.1=0\/r.1=1)/\VS r.2.1/\VS r.2.2): ∀y∈R.map qT,pd y=true/\OL y<40:=λy b=>by obtain⟨r,a,rfl⟩:=mM.mp b;exact J2 (h r a).2.1 (h r a).2.2
noncomputable abbrev RX(x:V0)(ex:Int)(lv l s:Nat)(c n r:V0):Rho:=[x,#[ex,0],#[lv],#[l],#[s],c,n,r]
def A3(w:S[lv]? =#[vs,2])(j:vs≠[])(m: ∀v∈vs,VS v){R:List R3}(o:ROk3 R)(k:S[l]? =#[R.map qT,2])(c)(n r):
  ∃(i:List R3)(J K:V0),ROk3 i/\fG (RX x ex lv l s #[c,0] n r) S=.ok (.next (RX x ex lv l s #[c,0] J K)) (S.set l (.lst (i.map qT))):=by
 have L:0<vs.length:=List.length_pos_iff.mpr j;obtain⟨e,t⟩: ∃e,e=c / 2 * 48271 % 2147483647:=⟨_,rfl⟩
 obtain⟨B,F,O⟩:=LZ w j (e % 4);obtain⟨A,G,H⟩:=LZ w j (e / 4 % 4);obtain⟨q,C⟩: ∃q:R3,q=(c % 2,B,A):=⟨_,rfl⟩
 have h:(q.1=0\/q.1=1)/\VS q.2.1/\VS q.2.2:=by rw[C];have:=md (x:=c) (n:=2);exact⟨by show c % 2=0\/c % 2=1;omega,m B F,m A G⟩
 have a:=fI (d:=qT q) true k (J2 h.2.1 h.2.2).1 (ROk3.pd o.1);have E:lD (RX x ex lv l s #[c,0] n r) S=.ok (.next (RX x ex lv l s #[c,0] #[e,0] r)) S:=by unfold lD;simp? [yL (b:=2) ↑3 ↑3,LP (show -(2 ^ 64)<(48271:Int)/\(48271:Int)<2 ^ 64 by decide),mod_lit (show(0:Int)<2147483647 by decide)];rw[t]
 have M:lE (RX x ex lv l s #[c,0] #[e,0] r) S=.ok (.next (RX x ex lv l s #[c,0] #[e,0] (some (qT q)))) S:=by unfold lE;simp? [mod_lit (show(0:Int)<2 by decide),mod_lit (show(0:Int)<4 by decide),yL (b:=4) ↑3 ↑3,dX w,mod_lit (b:=(vs.length:Int)) (by omega),O,H,tup2];rw[C];rfl
 have f:S=S.set l (.lst (R.map qT)):=(set_same k).symm
 have u: ∃i,ROk3 i/\lF (RX x ex lv l s #[c,0] #[e,0] (some (qT q))) S=.ok (.next (RX x ex lv l s #[c,0] #[e,0] (some (qT q)))) (S.set l (.lst (i.map qT))):=by
  unfold lF;by_cases y:qT q∈R.map qT
  .refine⟨R,o,?_⟩;rw[<-f];simp? [a,dT0 y,Ķ,fT,iF]
  .by_cases P:R.length<14
   .refine⟨R++[q],⟨λp N=>(å.mp N).elim (o.1 p) λz=>by rw[mS.mp z];exact h,by simp;omega⟩,?_⟩;simp? [a,dF0 y,ğ,dX k,lM,lt_int,show decide ((R.length:Int)<14)=true from dT0 (by omega),xI k,jE (d:=qT q) k (show(R.map qT).length<1000000 by rw[lM];omega)];rw[ó];rfl
   .refine⟨R,o,?_⟩;rw[<-f];simp? [a,dF0 y,ğ,dX k,lM,lt_int,show decide ((R.length:Int)<14)=false from dF0 (by omega),fT,iF]
 obtain⟨i,I,D⟩:=u;exact⟨i,#[e,0],some (qT q),I,zT E (zT M D)⟩
theorem Ta(j:vs≠[])(i: ∀v∈vs,VS v)(d:lv≠l)(f:s≠l): ∀(cs:Za) S  R  a b e ,S[lv]? =#[vs,2]->S[l]? =#[R.map qT,2]->S[s]? =#[all,2]->ROk3 R->
  ∃(k:List R3)(m b' o:V0),ROk3 k/\kZ (yX 5) fG [(s,all)] (cs.map MV.int) (RX x ex lv l s a b e) S=.ok (.next (RX x ex lv l s m b' o)) (S.set l (.lst (k.map qT)))
 |[],S,R,a,b,e,hv,hl,hs,h=>⟨R,a,b,e,h,by rw[set_same hl];rfl⟩
 |c::cs,S,R,a,b,e,hv,hl,hs,h=>by
  obtain⟨n,t,u,w,r⟩:=A3 (x:=x) (ex:=ex) (s:=s) hv j i h hl c b e;have p:(S.set l (.lst (n.map qT)))[s]? =#[all,2]:=by rw[zQ (Ne.symm f)];exact hs
  obtain⟨k,m,b',o,q,y⟩:=Ta (x:=x) (ex:=ex) j i d f cs (S.set l (.lst (n.map qT))) n #[c,0] t u (by rw[zQ (Ne.symm d)];exact hv) (get_set hl) p w;refine⟨k,m,b',o,q,?_⟩;rw[ã,zZ (show yX 5 (.int c) (RX x ex lv l s a b e) S=.ok (RX x ex lv l s #[c,0] b e) S from rfl) r (xP p),y,List.set_set]
def zAV(i:cO (RX #[↑0] ex lv (↑0+1) (↑0+2) none none none) (S++[.lst ds,.lst [],.lst ds])=.ok (.next (RX #[↑0] ex lv (↑0+1) s none none none)) (S++.lst ds::.lst []::U))(hs:(S++.lst ds::.lst []::U)[s]? =#[cl,2])(f:kZ (yX 5) fG [(s,cl)] cl (RX #[↑0] ex lv (↑0+1) s none none none) (S++.lst ds::.lst []::U)=.ok (.next (RX #[↑0] ex lv (↑0+1) s a b e)) (S++.lst ds::.lst es::U)):
  BU [#[↑0],#[ex,0],#[lv],none,none,none,none,none] (S++[.lst ds])=.ok (.ret #[↑0+1,1]) (S++.lst ds::.lst es::U):=by
 have c:(S++[.lst ds,.lst []])[↑0]? =#[ds,2]:=by simp
 have j:sF [#[↑0],#[ex,0],#[lv],none,none,none,none,none] (S++[.lst ds])=.ok (.next [#[↑0],#[ex,0],#[lv],#[↑0+1],none,none,none,none]) (S++[.lst ds,.lst []]):=by unfold sF;simp? [cH];simp
 have h:sG [#[↑0],#[ex,0],#[lv],#[↑0+1],none,none,none,none] (S++[.lst ds,.lst []])=.ok (.next (RX #[↑0] ex lv (↑0+1) (↑0+2) none none none)) (S++[.lst ds,.lst [],.lst ds]):=by unfold sG;simp? [show RU [#[↑0,1]] (S++[.lst ds,.lst []])=.ok (.new ds) _ by unfold RU itemsOf;dsimp only;rw[oA c]];simp
 have d:sH (RX #[↑0] ex lv (↑0+1) s none none none) (S++.lst ds::.lst []::U)=.ok (.next (RX #[↑0] ex lv (↑0+1) s a b e)) (S++.lst ds::.lst es::U):=by unfold sH;simp? [kE hs];exact f
 unfold BU;rw[zE j,zE h,zE i,zE d];unfold EV;simp? [cH]
def A4(t:S[lv]? =#[vs,2])(n:vs≠[])(k: ∀v∈vs,VS v){cs:Za}(D:cs.length<=63):
  ∃R:List R3,ROk3 R/\zS 3 iC [.new (cs.map MV.int),#[ex,5],#[lv,1]] S=.ok (.new (R.map qT)) S:=by
 obtain⟨c,U,s,C,f,A⟩: ∃(c:Za)(U:Sto)(s:Nat),S.length+1<s/\(∀o,(S++.lst (cs.map MV.int)::o::U)[s]? =#[c.map MV.int,2])/\cO (RX #[↑0] ex lv (↑0+1) (↑0+2) none none none) (S++[.lst (cs.map MV.int),.lst [],.lst (cs.map MV.int)])=.ok (.next (RX #[↑0] ex lv (↑0+1) s none none none)) (S++.lst (cs.map MV.int)::.lst []::U):=by
  have B:(S++[.lst (cs.map MV.int),.lst [],.lst (cs.map MV.int)])[↑0+2]? =#[cs.map MV.int,2]:=by simp
  by_cases u:ex % 2=1
  .obtain⟨h,E,p⟩:=Qm (ex / 2) (m:=14) ↑3 (S++[.lst (cs.map MV.int),.lst [],.lst (cs.map MV.int)]);have j:zS 2 nU [#[ex / 2,5],#[14,5]] (S++[.lst (cs.map MV.int),.lst [],.lst (cs.map MV.int)])=.ok (.new (h.map MV.int)) (S++[.lst (cs.map MV.int),.lst [],.lst (cs.map MV.int)]):=p;refine⟨cs++h,[.lst (cs.map MV.int),.lst ((cs++h).map MV.int)],↑0+3,by omega,λo=>by simp,?_⟩;unfold cO;simp? [mod_lit (show(0:Int)<2 by decide),u,č,yL (b:=2) ↑3 ↑3,j,IQ (DH B) (show XN _ (.new (h.map MV.int))=some _ from rfl) (fits (show(cs.map MV.int).length+(h.map MV.int).length<=1000000 by rw[lM,lM];omega))];rw[<-ó];simp
  .refine⟨cs,[.lst (cs.map MV.int)],↑0+2,by omega,λo=>by simp,?_⟩;unfold cO;simp? [mod_lit (show(0:Int)<2 by decide),u,ĕ,fT,iF]
 have i:=(gS.mp t).1;obtain⟨R,a,b,e,q,w⟩:=Ta (x:=#[↑0]) (ex:=ex) (lv:=lv) (l:=↑0+1) (s:=s) n k (by omega) (by omega) c (S++.lst (cs.map MV.int)::.lst []::U) [] none none none (by rw[á i];exact t) (by simp) (f _) ⟨λr z=>by simp at z,by decide⟩;refine⟨R,q,?_⟩;have y:=zAV (es:=R.map qT) (a:=a) (b:=b) (e:=e) A (f _) (by rw[w];simp);refine CD (T:=.lst (cs.map MV.int)::.lst (R.map qT)::U) (r:=#[↑0+1,1]) rfl (show zP [.new (cs.map MV.int),#[ex,5],#[lv,1]] S=([.loc ↑0,.int ex,.loc lv],S++[.lst (cs.map MV.int)])from rfl) ?_ (.inr ⟨_,rfl,by omega,by simp⟩) (kO λd p=>KL (ROk3.pd q.1 d p).1);unfold iC;exact PB y
def Tb(c:VS a)(d:VS b)(S):rE (.val a) (.val b) S=.ok (.val (.bl (decide (a=b)))) S:=Gf (lU c).1 (lU d).1 (lU c).2
def zEL(c:VS a)(d:VS b)(S):II (.val a) (.val b) S=.ok (.val (.bl (!decide (a=b)))) S:=NC (CC (zR+1) (lU c).1 (lU d).1 (by have:=(lU c).2;unfold zR;omega))
noncomputable def oV:Option MV->MV
 |none=>.non
 |some v=>v
def cE(R:List R3)(g:Int)(k:MV):List MV:=(R.filter λr=>decide (r.1=g)&&decide (r.2.1=k)).map λr=>r.2.2
def Tc{R:List R3}(b:ROk3 R)(h:v∈cE R g k):VS v:=by obtain⟨r,a,rfl⟩:=mM.mp h;exact(b.1 r (ñ.mp a).1).2.2
def Hx{R:List R3}(a:ROk3 R)(g)(k):(cE R g k).length<=14:=by unfold cE;rw[lM];exact ì (Ĉ _ _) a.2
def Hy(R:List R3)(g:Int)(k:MV)(w:V0):Bool:=!(cE R g k).isEmpty&&match w with |none=>true|some v=>(cE R g k).all λu=>decide (u=v)
def Td{R:List R3}:Hy R g k w=true↔zAT R g k w:=by
 have m: ∀u,u∈cE R g k↔ ∃r∈R,(r.1=g/\r.2.1=k)/\r.2.2=u:=λu=>by
  unfold cE;rw[mM];constructor
  .rintro⟨r,a,e⟩;obtain⟨d,b⟩:=ñ.mp a;rw[aE]at b;exact⟨r,d,⟨ö b.1,ö b.2⟩,e⟩
  .rintro⟨r,a,h,e⟩;exact⟨r,ñ.mpr ⟨a,by rw[aE];exact⟨dT0 h.1,dT0 h.2⟩⟩,e⟩
 have ne:(!(cE R g k).isEmpty)=true↔ ∃r∈R,r.1=g/\r.2.1=k:=by
  rw[Bool.not_eq_true',List.isEmpty_eq_false_iff];constructor
  .intro h;obtain⟨u,c⟩:=List.exists_mem_of_ne_nil _ h;obtain⟨r,a,h,_⟩:=(m u).mp c;exact⟨r,a,h⟩
  .rintro⟨r,a,h⟩ z;have:=(m r.2.2).mpr ⟨r,a,h,rfl⟩;rw[z]at this;simp at this
 unfold Hy zAT;rw[aE,ne];refine and_congr_right λ_=>?_
 cases w with
 |none=>exact⟨λ_ v h=>(nomatch h),λ_=>rfl⟩
 |some v=>
  rw[õ];constructor
  .intro h i e r a d b;cases e;exact ö (h r.2.2 ((m _).mpr ⟨r,a,⟨d,b⟩,rfl⟩))
  .intro h u c;obtain⟨r,a,f,rfl⟩:=(m u).mp c;exact dT0 (h v rfl r a f.1 f.2)
theorem J3(ds)(S):rE (.new ds) (.new []) S=.ok (.val (.bl ds.isEmpty)) S:=by unfold rE KS;cases ds<;>rfl
def OV(w:V0):Prop:= ∀v,w=some v->VS v
theorem PC(w)(hw:OV w)(S):UM (.val (oV w)) (.val .non) S=.ok (.val (.bl w.isNone)) S:=by
 cases w with
 |none=>rfl
 |some v=>rcases hw v rfl with⟨i,rfl⟩|⟨x,rfl⟩<;>rfl
theorem zEM(k)(S):Vk (.val (.bl true)) S k=k S:=rfl
theorem zEN(k)(S):Vk (.val (.bl false)) S k=.ok (.val (.bl false)) S:=rfl
abbrev LD(lr:Nat)(g:Int)(k:MV)(w:V0)(b:V0):Rho:=[#[lr],#[g,0],some k,some (oV w),b]
theorem Te{R:List R3}(a:ROk3 R)(o:S[lr]? =#[R.map qT,2])(g)(t:VS k)(hw:OV w):zS 4 mL [#[lr,1],#[g,5],.val k,.val (oV w)] S=.ok (.val (.bl (Hy R g k w))) S:=by
 have j:(R.map qT).length<1000000:=by rw[lM];have:=a.2;omega
 have A:vN 2 [1,2] (LD lr g k w none)=[none,none,#[g,0],some k]:=rfl
 have s:xM (KB 2 (zV (yX 0) (zV (yX 1) gV))) eO tK [none,none,#[g,0],some k] [(lr,R.map qT)] (R.map qT) S=.ok (cE R g k) S:=
  wZ (f:=qT) (g:=λr=>r.2.2) (xP o) λr h=>⟨[#[r.1,0],#[[r.2.1,r.2.2],3],#[g,0],some k],rfl,by unfold eO;simp? [CF,Tb (a.1 r h).2.1 t];cases decide (r.1=g)<;>rfl,rfl⟩
 have z:(S++[MO.lst (cE R g k)])[↑0]? =#[cE R g k,2]:=zM _ _;have d:(cE R g k).length<1000000:=by have:=Hx a g k;omega
 refine mZ (T:=[.lst (cE R g k)]) rfl ?_ (RW _ _) (λl=>by simp);show yP (uG (LD lr g k w none) S)=_;unfold uG;have y:pF (LD lr g k w none) S=.ok (.next (LD lr g k w #[↑0])) (S++[.lst (cE R g k)]):=by unfold pF;simp? [kE o,j,A,s]
 rw[zE y]
 cases w with
 |none=>
  have i:bL (LD lr g k none #[↑0]) (S++[.lst (cE R g k)])=.ok (.ret (.val (.bl (!(cE R g k).isEmpty)))) (S++[.lst (cE R g k)]):=by unfold bL;simp? [PC none hw,show(none:V0).isNone=true from rfl,Oj,Dj z]
  rw[cT i];unfold Hy;rw[Bool.and_true];rfl
 |some v=>
  have i:bL (LD lr g k (some v) #[↑0]) (S++[.lst (cE R g k)])=.ok (.next (LD lr g k (some v) #[↑0])) (S++[.lst (cE R g k)]):=by unfold bL;simp? [PC (some v) hw,show(some v).isNone=false from rfl,fT,iF]
  have b:vN 1 [3] (LD lr g k (some v) #[↑0])=[none,some v]:=rfl
  have m:xM (yX 0) bT eP [none,some v] [(↑0,cE R g k)] (cE R g k) (S++[.lst (cE R g k)])=.ok ((cE R g k).filter λu=>!decide (u=v)) (S++[.lst (cE R g k)]):=by
   have:=wZ (f:=id) (g:=id) (p:=λu=>!decide (u=v)) (S:=S++[.lst (cE R g k)]) (gf:=yX 0) (cf:=bT) (ef:=eP) (ρb:=[none,some v]) (xP z) (ds:=cE R g k) λu q=>⟨[some u,some v],rfl,by unfold bT;simp? [zEL (Tc a q) (hw v rfl)],rfl⟩
   rwa [List.map_id,List.map_id]at this
  have c:((cE R g k).filter λu=>!decide (u=v)).isEmpty=(cE R g k).all λu=>decide (u=v):=by
   generalize cE R g k=l
   induction l with
   |nil=>rfl
   |cons u l ih=>
    rw[List.filter_cons,Ĝ];by_cases e:u=v
    .rw[dT0 e];exact ih
    .rw[dF0 e];rfl
  rw[zE i];unfold BV Hy
  cases n:(cE R g k).isEmpty with
  |true=>
   simp? [Oj,Dj z,n,Ķ,zEN];rfl
  |false=>
   simp? [Oj,Dj z,n,ğ,zEM,kE z,d,b,m,J3,c];rfl
noncomputable def zBH(f:Int)(s:V0)(r:R3):Bool:=decide (r.1=f)&&match s with |none=>true|some d=>decide (r.2.1=d)
def XO(R:List R3)(f:Int)(s w:V0)(r:R3):Bool:=zBH f s r&&(cE R f r.2.1).all λu=>Hy R (1 - f) u w
abbrev SU(lr:Nat)(f:Int)(s w:V0)(t c b:V0):Rho:=[#[lr],#[f,0],some (oV s),some (oV w),t,c,b]
def A5{R:List R3}(a:ROk3 R)(G:S[lr]? =#[R.map qT,2])(f)(hs:OV s)(hw:OV w)(y:r∈R)(T)(b):
  ∃E K,fH (SU lr f s w #[r.1,0] #[[r.2.1,r.2.2],3] b) (S++T)=if XO R f s w r=true then .ok (.ret (.val (.bl true))) (S++E)else .ok (.next (SU lr f s w #[r.1,0] #[[r.2.1,r.2.2],3] K)) (S++E):=by
 have C:(R.map qT).length<1000000:=by rw[lM];have:=a.2;omega
 obtain⟨Z,k⟩: ∃Z,Z=S++T:=⟨_,rfl⟩
 have j:Z[lr]? =#[R.map qT,2]:=by rw[k,á (gS.mp G).1];exact G
 have c:=a.1 r y
 have i:rJ (bJ (dJ rE (vJ 4) (vJ 1)) jW) (sJ (bJ (dJ UM (vJ 2) (kJ .non)) jW) (bJ (dJ rE (dJ xK (vJ 5) (kJ (.int 0))) (vJ 2)) jW)) (SU lr f s w #[r.1,0] #[[r.2.1,r.2.2],3] b) Z=.ok (zBH f s r) Z:=by
  unfold zBH
  cases z:decide (r.1=f)with
  |false=>simp? [z,fT,iF];rfl
  |true=>
   cases s with
   |none=>simp? [z,PC none hs,show(none:V0).isNone=true from rfl];rfl
   |some d=>simp? [z,show UM (.val d) (.val .non) Z=.ok (.val (.bl false)) Z from PC (some d) hs Z,fT,iF,CF,show oV (some d)=d from rfl,Tb c.2.1 (hs d rfl)];rfl
 rw[<-k];unfold fH vF
 cases e:zBH f s r with
 |false=>
  rw[e]at i;refine⟨T,b,?_⟩;rw[iN (by unfold XO;rw[e];exact xF0), <-k];unfold iJ;rw[i,cH];rfl
 |true=>
  rw[e]at i;have L:vN 2 [1,5] (SU lr f s w #[r.1,0] #[[r.2.1,r.2.2],3] b)=[none,none,#[f,0],#[[r.2.1,r.2.2],3]]:=rfl;obtain⟨B,m⟩: ∃B,B=cE R f r.2.1:=⟨_,rfl⟩
  have t:xM (KB 2 (zV (yX 0) (zV (yX 1) gV))) cY lG [none,none,#[f,0],#[[r.2.1,r.2.2],3]] [(lr,R.map qT)] (R.map qT) Z=.ok B Z:=by rw[m];exact wZ (f:=qT) (g:=λr=>r.2.2) (xP j) λq h=>⟨[#[q.1,0],#[[q.2.1,q.2.2],3],#[f,0],#[[r.2.1,r.2.2],3]],rfl,by unfold cY;simp? [CF,Tb (a.1 q h).2.1 c.2.1];cases decide (q.1=f)<;>rfl,rfl⟩
  have A:B.length<1000000:=by rw[m];have:=Hx a f r.2.1;omega
  have F:(Z++[MO.lst B])[Z.length]? =#[B,2]:=zM _ _;have v:(Z++[MO.lst B])[lr]? =#[R.map qT,2]:=by rw[á (gS.mp j).1];exact j
  have n:vN 1 [0,1,3] (SU lr f s w #[r.1,0] #[[r.2.1,r.2.2],3] #[Z.length])=[none,#[lr],#[f,0],some (oV w)]:=rfl
  have D:xM (yX 0) cZ lH [none,#[lr],#[f,0],some (oV w)] [(Z.length,B)] B (Z++[.lst B])=.ok (B.filter λu=>!Hy R (1 - f) u w) (Z++[.lst B]):=by
   have:=wZ (f:=id) (g:=id) (p:=λu=>!Hy R (1 - f) u w) (S:=Z++[.lst B]) (gf:=yX 0) (cf:=cZ) (ef:=lH) (ρb:=[none,#[lr],#[f,0],some (oV w)]) (xP F) (ds:=B) λu I=>⟨[some u,#[lr],#[f,0],some (oV w)],rfl,by unfold cZ;simp? [Te a v (1 - f) (Tc a (by rw[<-m];exact I)) hw],rfl⟩
   rwa [List.map_id,List.map_id]at this
  have o:(B.filter λu=>!Hy R (1 - f) u w).isEmpty=B.all λu=>Hy R (1 - f) u w:=by
   generalize B=l
   induction l with
   |nil=>rfl
   |cons u l ih=>
    rw[List.filter_cons,Ĝ]
    cases Hy R (1 - f) u w with
    |true=>exact ih
    |false=>rfl
  have J:(CJ (pJ (bJ (vJ 0) vM) (KB 2 (zV (yX 0) (zV (yX 1) gV))) cY lG 2 [1,5]) 6) (SU lr f s w #[r.1,0] #[[r.2.1,r.2.2],3] b) Z=.ok (.next (SU lr f s w #[r.1,0] #[[r.2.1,r.2.2],3] #[Z.length])) (Z++[.lst B]):=by simp? [kE j,C,L,t]
  refine⟨T++[.lst B],#[Z.length],?_⟩;rw[show XO R f s w r=B.all λu=>Hy R (1 - f) u w by unfold XO;rw[e,m];rfl, <-aA, <-k];unfold iJ;rw[i,cH,iP rfl,zE J];rw[<-o];cases H:(B.filter λu=>!Hy R (1 - f) u w).isEmpty<;>simp? [kE F,A,n,D,Oj,J3,H,fT,iF]
theorem Tf{R:List R3}(j:ROk3 R)(a:S[lr]? =#[R.map qT,2])(f)(hs:OV s)(hw:OV w): ∀(rs:List R3),(∀r∈rs,r∈R)-> ∀ T  t c b , ∃k m n v,kZ (KB 2 (zV (yX 4) (zV (yX 5) gV))) fH [(lr,R.map qT)] (rs.map qT) (SU lr f s w t c b) (S++T)=if rs.any (XO R f s w)=true then .ok (.ret (.val (.bl true))) (S++k)else .ok (.next (SU lr f s w m n v)) (S++k)
 |[],_,T,t,c,b=>⟨T,t,c,b,rfl⟩
 |r::rs,h,T,t,c,b=>by
  obtain⟨i,y,d⟩:=A5 j a f hs hw (h r mF0) T b;rw[List.any_cons,ã]
  cases e:XO R f s w r with
  |true=>
   rw[e,iP rfl]at d;exact⟨i,t,c,b,by rw[Bool.true_or,iP rfl];exact UT (ρ0:=SU lr f s w #[r.1,0] #[[r.2.1,r.2.2],3] b) rfl d⟩
  |false=>
   rw[e,iN xF0]at d;obtain⟨p,o,u,B,z⟩:=Tf j a f hs hw rs (λq A=>h q (mO _ A)) i #[r.1,0] #[[r.2.1,r.2.2],3] y;refine⟨p,o,u,B,?_⟩;rw[Bool.false_or,zZ (ρ0:=SU lr f s w #[r.1,0] #[[r.2.1,r.2.2],3] b) rfl d (xP (by rw[á (gS.mp a).1];exact a)),z]
theorem A6{R:List R3}(j:ROk3 R)(i:S[lr]? =#[R.map qT,2])(f)(hs:OV s)(hw:OV w):zS 4 qO [#[lr,1],#[f,5],.val (oV s),.val (oV w)] S=.ok (.val (.bl (R.any (XO R f s w)))) S:=by
 obtain⟨T,t,c,b,e⟩:=Tf j i f hs hw R (λ_ h=>h) [] none none none;rw[aN]at e;refine mZ (T:=T) rfl ?_ (RW _ _) (λl=>by simp);show yP (BW (SU lr f s w none none none) S)=_;have a:sI (SU lr f s w none none none) S=if R.any (XO R f s w)=true then .ok (.ret (.val (.bl true))) (S++T)else .ok (.next (SU lr f s w t c b)) (S++T):=by unfold sI;simp? [kE i];exact e
 unfold BW
 cases d:R.any (XO R f s w)with
 |true=>
  rw[d,iP rfl]at a;rw[cT a];rfl
 |false=>
  rw[d,iN xF0]at a;rw[zE a];rfl
def Tg{R:List R3}:R.any (XO R f s w)=true↔Sre R f (1 - f) s w:=by
 have j: ∀r:R3,zBH f s r=true↔r.1=f/\ ∀d,s=some d->r.2.1=d:=λr=>by
  unfold zBH;rw[aE,decide_eq_true_iff];refine and_congr_right λ_=>?_
  cases s with
  |none=>exact⟨λ_ d h=>(nomatch h),λ_=>rfl⟩
  |some d=>exact⟨λh v e=>by cases e;exact ö h,λh=>dT0 (h d rfl)⟩
 have m: ∀k,((cE R f k).all λu=>Hy R (1 - f) u w)=true↔ ∀q∈R,q.1=f->q.2.1=k->zAT R (1 - f) q.2.2 w:=λk=>by
  rw[õ];constructor
  .intro h q c o t;exact Td.mp (h q.2.2 (mM.mpr ⟨q,ñ.mpr ⟨c,by rw[aE];exact⟨dT0 o,dT0 t⟩⟩,rfl⟩))
  .intro h u n;obtain⟨q,c,rfl⟩:=mM.mp n;obtain⟨i,a⟩:=ñ.mp c;rw[aE]at a;exact Td.mpr (h q i (ö a.1) (ö a.2))
 rw[ġ];constructor
 .rintro⟨r,b,h⟩;unfold XO at h;rw[aE,j,m]at h;exact⟨r,b,h.1.1,h.1.2,h.2⟩
 .rintro⟨r,b,i,a,p⟩;exact⟨r,b,by unfold XO;rw[aE,j,m];exact⟨⟨i,a⟩,p⟩⟩
noncomputable def sE(s:V0)(one:MV):List (List Nat)->Option MV
 |[]=>s
 |_=>some one
noncomputable def gE(one:MV):List (List Nat)->Ev
 |[]=>[]
 |x::_=>[(.str x,one)]
structure Cs(hs:Ch)(x y z:Db)(B:MV)(s w:V0):Prop where
 n:Nms x y z
 b:s=none/\B=vT x\/ ∃v,VS v/\s=some v/\B=iT v/\hs=[]
 h:hs=[]\/hs=[x]
 ow:OV w
def Cs.os(C:Cs hs x y z B s w):OV s:=λv e=>by
 rcases C.b with⟨h,_⟩|⟨u,hu,h,_⟩
 .rw[h]at e;cases e
 .rw[h]at e;cases e;exact hu
abbrev LX(a b c d:V0)(f:Int)(w l p s q:V0)(hs:Ch)(lr:Nat)(i:MV)(st one h e to:V0):Rho:=[a,b,c,d,#[f,0],some (oV w),l,p,some (oV s),q,#[hs.map MV.str,3],#[lr],some i,st,one,h,e,to]
def A7(C:Cs hs x y z B s w){R:List R3}:hold (R.map Hu) (uO f (1 - f) y z B w) (gE one hs)=R.any (XO R f (sE s one hs) w):=by
 have i:B=vT x\/ ∃v,VS v/\B=iT v:=by
  rcases C.b with⟨_,h⟩|⟨v,c,_,h,_⟩
  .exact .inl h
  .exact .inr ⟨v,c,h⟩
 have c:Dp (gE one hs) B=sE s one hs:=by
  rcases C.b with⟨e,rfl⟩|⟨v,_,e,rfl,rfl⟩
  .rw[JL];rcases C.h with rfl|rfl
   .rw[e];rfl
   .show look ([]++[(.str x,one)]) (.str x)=_;exact CO rfl one
  .rw[Hv,e];rfl
 have a: ∀n,n≠x->look (gE one hs) (.str n)=none:=λn d=>by
  rcases C.h with rfl|rfl
  .rfl
  .show look ([]++[(.str x,one)]) (.str n)=_;rw[gO d.symm];rfl
 rw[Bool.eq_iff_iff,Tg, <-c];exact zAU C.n i (a y C.n.xy.symm) (a _ (TN C.n.nx)) ⟨a z C.n.xz.symm,a _ (TN C.n.nx),a _ (Hw C.n.nx _)⟩
def zAW(C:Cs hs x y z B s w)(f g):(∀p∈uO f g y z B w,CK p)/\(uO f g y z B w).length<=9/\ ∀n,n<=14->Ab n (uO f g y z B w)<1000000:=by
 have k:jQ B:=by
  rcases C.b with⟨_,h⟩|⟨v,j,_,h,_⟩
  .exact .inl ⟨x,h⟩
  .exact .inr ⟨v,j,h⟩
 have two: ∀{a b:MV},jQ a->jQ b->(∀d∈[a,b],jQ d)/\[a,b].length<=100:=λt u=>⟨λd o=>by
  rcases mC.mp o with rfl|o
  .exact t
  .rw[mS.mp o];exact u,show 2<=100 by decide⟩
 have c: ∀n,jQ (vT n):=λn=>.inl ⟨n,rfl⟩;have q: ∀n m:Nat,n<=14->m<=60000->1+n * (1+m)<=1+14 * (1+m):=λn m h _=>Nat.add_le_add_left (Nat.mul_le_mul_right _ h) _;have r: ∀n m:Nat,n<=14->m<=2->1+n * (1+(1+n * (1+(1+n * (1+(1+n * (1+m)))))))<1000000:=λn m e F=>by have G:=q n m e (by omega);have A:=q n (1+n * (1+m)) e (by omega);have E:=q n (1+n * (1+(1+n * (1+m)))) e (by omega);have D:=q n (1+n * (1+(1+n * (1+(1+n * (1+m)))))) e (by omega);omega
 unfold uO
 cases w with
 |none=>
  refine⟨λp i=>?_,show 4<=9 by decide,λn e=>r n 0 e ↑3⟩;unfold G7 at i;simp only[mC,nM,or_false]at i;rcases i with rfl|rfl|rfl|rfl
  .exact two k (c _)
  .exact two k (c _)
  .exact two (c _) (c _)
  .exact two (c _) (c _)
 |some v=>
  have j:jQ (iT v):=.inr ⟨v,C.ow v rfl,rfl⟩;refine⟨λp i=>?_,show 5<=9 by decide,λn e=>r n 2 e ↑3⟩;unfold G7 at i;simp only[mC,nM,or_false]at i;rcases i with rfl|rfl|rfl|rfl|rfl
  .exact two k (c _)
  .exact two k (c _)
  .exact two (c _) j
  .exact two (c _) (c _)
  .exact two (c _) j
def A8(C:Cs hs x y z B s w){R:List R3}(n:ROk3 R)(m:Z[lr]? =#[R.map qT,2])(f)(L:VS one)(a b c d l p q st gv du to):
  ∃G A J E,VR (LX a b c d f w l p s q hs lr (fM (uO f (1 - f) y z B w)) st (some one) gv du to) Z=.ok (.next (LX a b c d f w l p s q hs lr (fM (uO f (1 - f) y z B w)) st (some one) G A J)) (Z++[.dic E]):=by
 have K: ∀o,(Z++[o])[lr]? =#[R.map qT,2]:=λo=>by rw[á (gS.mp m).1];exact m
 obtain⟨E,k⟩: ∃E,E=gE one hs:=⟨_,rfl⟩
 have D:zEY [#[hs.map MV.str,6],.new [one]] Z=.ok #[Z.length,1] (Z++[.dic E]):=by rw[k];rcases C.h with rfl|rfl<;>rfl
 have i:mV E/\E.length<=100:=by
  rw[k];rcases C.h with rfl|rfl
  .exact⟨WG,show 0<=100 by decide⟩
  .exact⟨λp O=>by rw[mS.mp O];exact⟨⟨x,rfl⟩,L⟩,show 1<=100 by decide⟩
 have H:OV (sE s one hs):=by
  rcases C.h with rfl|rfl
  .exact C.os
  .intro v e;cases e;exact L
 have t:xK (.new [oV s,one]) #[((hs.map MV.str).length:Nat),5] (Z++[.dic E])=.ok (.val (oV (sE s one hs))) (Z++[.dic E]):=by rcases C.h with rfl|rfl<;>rfl
 have u:=A6 n (K (.dic E)) f H C.ow;obtain⟨M,N,Q⟩:=zAW C f (1 - f)
 have j:=Rx (rows:=R.map Hu) M N ⟨λr m c I=>by
  obtain⟨r,P,rfl⟩:=mM.mp m;have:=(n.1 r P).2;rcases mC.mp I with rfl|I
  .exact this.1
  .rw[mS.mp I];exact this.2,by rw[lM];have:=n.2;omega⟩ (Q _ (by rw[lM];exact n.2)) (S:=Z++[.dic E]) (lr:=lr) (le:=Z.length) (by rw[List.map_map];exact K _) (zM Z (.dic E)) i.1 i.2
 rw[k,A7 C, <-k]at j;refine⟨#[Z.length],some (.bl (R.any (XO R f (sE s one hs) w))),some (.bl (R.any (XO R f (sE s one hs) w))),E,?_⟩;refine zT (F:=JC) (ρ':=LX a b c d f w l p s q hs lr (fM (uO f (1 - f) y z B w)) st (some one) #[Z.length] du to) (S':=Z++[.dic E]) ?_ (zT (F:=JD) (ρ':=LX a b c d f w l p s q hs lr (fM (uO f (1 - f) y z B w)) st (some one) #[Z.length] (some (.bl (R.any (XO R f (sE s one hs) w)))) to) (S':=Z++[.dic E]) ?_ (zT (F:=JE) (ρ':=LX a b c d f w l p s q hs lr (fM (uO f (1 - f) y z B w)) st (some one) #[Z.length] (some (.bl (R.any (XO R f (sE s one hs) w)))) (some (.bl (R.any (XO R f (sE s one hs) w))))) (S':=Z++[.dic E]) ?_ ?_))
 .unfold JC;simp? [lst1,D]
 .unfold JD;simp? [Ol,VU,t,u]
 .unfold JE;simp? [j]
 .unfold TC;simp? [Om,Og,beq_self_eq_true,Ķ,fT,iF]
theorem Th(C:Cs hs x y z B s w){R:List R3}(D:ROk3 R)(f){st:V0}: ∀ k ,(∀v∈k,VS v)-> ∀ Z  o j e i ,Z[lr]? =#[R.map qT,2]-> ∃r n m t A,kZ (yX 14) VR [] k (LX a b c d f w l p s q hs lr (fM (uO f (1 - f) y z B w)) st o j e i) Z=.ok (.next (LX a b c d f w l p s q hs lr (fM (uO f (1 - f) y z B w)) st r n m t)) A
 |[],_,Z,o,j,e,i,_=>⟨o,j,e,i,Z,rfl⟩
 |v::k,h,Z,o,j,e,i,hr=>by obtain⟨K,G,I,E,J⟩:=A8 C D hr f (h v mF0) a b c d l p q st j e i;obtain⟨r,N,M,H,A,L⟩:=Th C D f k (λu F=>h u (mO _ F)) (Z++[.dic E]) (some v) K G I (by rw[á (gS.mp hr).1];exact hr);exact⟨r,N,M,H,A,by rw[zZ rfl J (kG _),L]⟩
noncomputable abbrev LY(f:U0)(a b c d e g h i j k l m n:V0):Rho:=[some (.scr f),a,b,c,d,e,g,h,i,j,k,l,m,n,none,none,none,none]
def A9{vs:U0}(h:vs.length<=4): ∃x xs,(List.filter (λx=>!decide (MV.str x∈vs)) [[122,101,98,114,97],[121,97,107],[119,111,108,102],[118,111,108,101],[116,97,112,105,114]])=x::xs:=by
 cases a:List.filter (λx=>!decide (MV.str x∈vs)) [[122,101,98,114,97],[121,97,107],[119,111,108,102],[118,111,108,101],[116,97,112,105,114]]with
 |cons x xs=>exact⟨x,xs,rfl⟩
 |nil=>
  rw[List.filter_eq_nil_iff]at a;have d: ∀y∈[[122,101,98,114,97],[121,97,107],[119,111,108,102],[118,111,108,101],[116,97,112,105,114]].map MV.str,y∈vs:=λy b=>by obtain⟨x,c,rfl⟩:=mM.mp b;have:=a x c;simpa using this
  have:=List.Nodup.length_le_of_subset (l₁:=[[122,101,98,114,97],[121,97,107],[119,111,108,102],[118,111,108,101],[116,97,112,105,114]].map MV.str) (by simp) d;rw[lM]at this;have:5<=vs.length:=this;omega
def aok(b:t=0\/t=1)(f:Sh k)(e:Sh c):AOk TB2 (t,[k,c]):=⟨⟨(2,1),by rcases b with rfl|rfl<;>rfl,by decide⟩,λd a=>by
 rcases mC.mp a with rfl|a
 .exact f.1
 .rw[mS.mp a];exact e.1,show 2<=4 by decide⟩
def qok(i:f=0\/f=1)(q:Sh k)(p:Sh c)(d:Sh k')(e:Sh c')(h:as=[(f,[k,c]),(1 - f,[k',c'])]\/as=[(1 - f,[k',c']),(f,[k,c])]):QOk TB2 as:=by
 have o:1 - f=0\/1 - f=1:=by omega
 have m:=aok i q p;have n:=aok o d e
 have j: ∀a∈as,a=(f,[k,c])\/a=(1 - f,[k',c']):=λa b=>by
  rcases h with rfl|rfl<;>simp only[mC,nM,or_false]at b
  .exact b
  .exact b.symm
 refine⟨λa b=>?_,?_,λa b=>?_,?_,?_⟩
 .rcases j a b with rfl|rfl
  .exact m
  .exact n
 .rcases h with rfl|rfl<;>exact show 2<=4 by decide
 .rcases j a b with rfl|rfl
  .show 0<=f;omega
  .show 0<=1 - f;omega
 .rcases h with rfl|rfl<;>rcases i with rfl|rfl<;>simp
 .rcases h with rfl|rfl<;>exact show 1<=2 by decide
def Kv(h:Wk x):Sh (vT x):=⟨.inl ⟨x,rfl⟩,λy a=>by rw[nZ]at a;cases a;have:=h.1;omega⟩
def zEO(h:VS v):Sh (iT v):=⟨.inr ⟨v,h,rfl⟩,λy a=>by rw[HP]at a;cases a⟩
def Ti(X:Za)(bf:X.length<=63): ∃S,ZQ [.scr (X.map MV.int)] []=.ok (.val (.bl true)) S:=by
 obtain⟨t,ah⟩: ∃t,t=X.map MV.int:=⟨_,rfl⟩
 have cell: ∀(k:Int),0<=k-> ∀S, ∃c,zS 2 yK [.val (.scr t),#[k,5]] S=.ok #[c,5] S:=λk hk S=>by rw[ah];exact Ym X k hk S
 rw[<-ah];obtain⟨c0,aF⟩:=cell 0 ↑3 [];obtain⟨ws,aq,Q,aj,aw⟩:=Ql c0 []
 obtain⟨x,y,z,F,rfl⟩: ∃x y z F,ws=x::y::z::F:=by
  match ws,aq with
  |[a,b,c,d,e],_=>exact⟨a,b,c,[d,e],rfl⟩
 have bb:F.length=2:=by simpa using aq
 have hx:=aj x mF0;have hy:=aj y (mO _ mF0);have hz:=aj z (mO _ (mO _ mF0));have N:Nms x y z:=by simp only[ę,mC,not_or]at Q;exact⟨hx.2,hy.2,hz.2,Q.1.1,Q.1.2.1,Q.2.1.1⟩
 obtain⟨W,hW⟩: ∃W,W=(x::y::z::F).map MV.str:=⟨_,rfl⟩
 rw[<-hW]at aw;obtain⟨c1,a0⟩:=cell 1 ↑3 [.lst W];obtain⟨vs,P,aD,G,az⟩:=Kl c1 (ws:=F) bb [.lst W];obtain⟨A,K⟩: ∃A:Sto,A=[.lst W,.lst vs]:=⟨_,rfl⟩
 have w2:A[0]? =#[W,2]:=by rw[K];rfl
 have v2:A[1]? =#[vs,2]:=by rw[K];rfl
 have l2:A.length=2:=by rw[K];rfl
 have ix: ∀Z:Sto,Z[0]? =#[W,2]->xK #[0,1] #[0,5] Z=.ok (.val (.str x)) Z/\xK #[0,1] #[1,5] Z=.ok (.val (.str y)) Z/\xK #[0,1] #[2,5] Z=.ok (.val (.str z)) Z:=λZ h=>by rw[hW]at h;exact⟨aP h (tN (k:=0) rfl),aP h (tN (k:=1) rfl),aP h (tN (k:=2) rfl)⟩
 obtain⟨i0,i1,i2⟩:=ix A w2;obtain⟨c,a'⟩:=cell 2 ↑3 A;obtain⟨f,hf⟩: ∃f,f=c % 2:=⟨_,rfl⟩
 have I:f=0\/f=1:=by have:=md (x:=c) (n:=2);omega
 have bc:0<vs.length:=List.length_pos_iff.mpr P
 obtain⟨w,L,aa,ax,hL,f7⟩: ∃(w:V0)(L:MV),L=(w.map iT).getD (vT z)/\OV w/\Sh L/\VT (LY t #[0] #[1] #[c,0] #[f,0] (some .non) (some (vT z)) none none none none none none none) A=.ok (.next (LY t #[0] #[1] #[c,0] #[f,0] (some (oV w)) (some L) none none none none none none none)) A:=by
  unfold VT;by_cases h:c / 2 % 3=1
  .obtain⟨v,E,hi⟩:=LZ v2 P (c / 6);refine⟨some v,iT v,rfl,λu e=>by cases e;exact G v E,zEO (G v E),?_⟩;simp? [yL (b:=2) ↑3 ↑3,mod_lit (show(0:Int)<3 by decide),h,č];refine zT (ρ':=LY t #[0] #[1] #[c,0] #[f,0] (some v) (some (vT z)) none none none none none none none) (S':=A) ?_ ?_
   .simp? [yL (b:=6) ↑3 ↑3,dX v2,mod_lit (b:=(vs.length:Int)) (by omega),hi]
   .simp? [tup2];rfl
  .refine⟨none,vT z,rfl,λu e=>(nomatch e),Kv hz,?_⟩;simp? [yL (b:=2) (by decide) (by decide),mod_lit (show(0:Int)<3 by decide),h,ĕ,fT,iF];rfl
 obtain⟨s,B,J,a4⟩: ∃(s:V0)(B:MV),(s=none/\B=vT x\/ ∃v,VS v/\s=some v/\B=iT v)/\OI (LY t #[0] #[1] #[c,0] #[f,0] (some (oV w)) (some L) (some (vT x)) (some .non) none none none none none) A=.ok (.next (LY t #[0] #[1] #[c,0] #[f,0] (some (oV w)) (some L) (some B) (some (oV s)) none none none none none)) A:=by
  unfold OI;by_cases h:c / 32 % 4=1
  .obtain⟨v,E,hi⟩:=LZ v2 P (c / 128);refine⟨some v,iT v,.inr ⟨v,G v E,rfl,rfl⟩,?_⟩;simp? [yL (b:=32) ↑3 ↑3,mod_lit (show(0:Int)<4 by decide),h,č];refine zT (ρ':=LY t #[0] #[1] #[c,0] #[f,0] (some (oV w)) (some L) (some (vT x)) (some v) none none none none none) (S':=A) ?_ ?_
   .simp? [yL (b:=128) ↑3 ↑3,dX v2,mod_lit (b:=(vs.length:Int)) (by omega),hi]
   .simp? [tup2];rfl
  .refine⟨none,vT x,.inl ⟨rfl,rfl⟩,?_⟩;simp? [yL (b:=32) ↑3 ↑3,mod_lit (show(0:Int)<4 by decide),h,ĕ,fT,iF];rfl
 have ae:OV s:=λv e=>by
  rcases J with⟨h,_⟩|⟨u,hu,h,_⟩
  .rw[h]at e;cases e
  .rw[h]at e;cases e;exact hu
 have hB:Sh B:=by
  rcases J with⟨_,rfl⟩|⟨u,hu,_,rfl⟩
  .exact Kv hx
  .exact zEO hu
 obtain⟨as,a,b,ao,ar,ha,hb,ay⟩: ∃(as:X0)(a b:Nat),(a=0/\b=1\/a=1/\b=0)/\(as=[(f,[B,vT y]),(1 - f,[vT y,L])]\/as=[(1 - f,[vT y,L]),(f,[B,vT y])])/\as[a]? =some (f,[B,vT y])/\as[b]? =some (1 - f,[vT y,L])/\OJ (LY t #[0] #[1] #[c,0] #[f,0] (some (oV w)) (some L) (some B) (some (oV s)) #[2] none none none none) (A++[.lst [aM (f,[B,vT y]),aM (1 - f,[vT y,L])]])=.ok (.next (LY t #[0] #[1] #[c,0] #[f,0] (some (oV w)) (some L) (some B) (some (oV s)) #[2] none none none none)) (A++[.lst (as.map aM)]):=by
  have a2:(A++[MO.lst [aM (f,[B,vT y]),aM (1 - f,[vT y,L])]])[2]? =#[[aM (f,[B,vT y]),aM (1 - f,[vT y,L])],2]:=by rw[<-l2];exact zM _ _
  unfold OJ;by_cases h:c / 512 % 2=1
  .refine⟨_,1,0,.inr ⟨rfl,rfl⟩,.inr rfl,rfl,rfl,?_⟩;simp? [yL (b:=512) ↑3 ↑3,mod_lit (show(0:Int)<2 by decide),h,č,xI a2,Yl a2];rw[<-l2,kL];rfl
  .refine⟨_,0,1,.inl ⟨rfl,rfl⟩,.inl rfl,rfl,rfl,?_⟩;simp? [yL (b:=512) ↑3 ↑3,mod_lit (show(0:Int)<2 by decide),h,ĕ,fT,iF];rfl
 obtain⟨D,O⟩: ∃D,D=A++[.lst (as.map aM)]:=⟨_,rfl⟩
 have l3:D.length=3:=by rw[O];simp[l2]
 have ag: ∀{l:Nat}{o:MO},A[l]? =some o->D[l]? =some o:=λh=>by rw[O,á (gS.mp h).1];exact h
 have a3:D[2]? =#[as.map aM,2]:=by rw[O, <-l2];exact zM _ _
 obtain⟨hs,af,a9,ba⟩: ∃hs:List (List Nat),(hs=[]\/hs=[x])/\(hs≠[]->s=none)/\OK (LY t #[0] #[1] #[c,0] #[f,0] (some (oV w)) (some L) (some B) (some (oV s)) #[2] #[[],3] none none none) D=.ok (.next (LY t #[0] #[1] #[c,0] #[f,0] (some (oV w)) (some L) (some B) (some (oV s)) #[2] #[hs.map MV.str,3] none none none)) D:=by
  unfold OK
  cases hn:s.isNone with
  |false=>
   refine⟨[],.inl rfl,λh=>absurd rfl h,?_⟩;simp? [PC s ae,hn,fT,iF];rfl
  |true=>
   by_cases h:c / 1024 % 2=1
   .refine⟨[x],.inr rfl,λ_=>Option.isNone_iff_eq_none.mp hn,?_⟩;simp? [PC s ae,hn,yL (b:=1024) ↑3 ↑3,mod_lit (show(0:Int)<2 by decide),h,č,(ix D (ag w2)).1,show∀(u:MV)(Z:Sto),wR [.val u] Z=.ok #[[u],6] Z from λ_ _=>FD (by simp)];rfl
   .refine⟨[],.inl rfl,λh=>absurd rfl h,?_⟩;simp? [PC s ae,hn,yL (b:=1024) ↑3 ↑3,mod_lit (show(0:Int)<2 by decide),h,ĕ,fT,iF];rfl
 have C:Cs hs x y z B s w:=⟨N,by
  rcases J with h|⟨v,E,e,eb⟩
  .exact .inl h
  .refine .inr ⟨v,E,e,eb,?_⟩;by_cases hh:hs=[]
   .exact hh
   .have:=a9 hh;rw[e]at this;exact(nomatch this),af,ax⟩
 obtain⟨c3,a6⟩:=cell 3 ↑3 D;obtain⟨R,hR,ab⟩:=A4 (S:=D) (ex:=c3) (ag v2) P G (cs:=X.drop 5) (by rw[Ć];omega);have au:fQ (.val (.scr t)) (some 5) none D=.ok (.new ((X.drop 5).map MV.int)) D:=by show M.R.ok (Er.new (aG t (some 5) none)) D=_;rw[ah,show aG (X.map MV.int) (some 5) none=(X.map MV.int).drop 5 from tM _ 5,map_drop]
 obtain⟨H,ai⟩: ∃H,H=D++[.lst (R.map qT)]:=⟨_,rfl⟩
 have r4:H[3]? =#[R.map qT,2]:=by rw[ai, <-l3];exact zM _ _
 have ak: ∀{l:Nat}{o:MO},D[l]? =some o->H[l]? =some o:=λh=>by rw[ai,á (gS.mp h).1];exact h
 have T:Two hs x y z B L:=⟨by
  rcases J with⟨_,h⟩|⟨v,E,_,h⟩
  .exact .inl h
  .exact .inr ⟨v,E,h⟩,by
  cases w with
  |none=>exact .inl aa
  |some v=>exact .inr ⟨v,ax v rfl,aa⟩,λu hu=>by
  rcases af with rfl|rfl
  .simp at hu
  .exact mS.mp hu,N.xy,N.xz,N.yz⟩
 have U:1 - f=0\/1 - f=1:=by omega
 have Y:as.length=2:=by rcases ar with rfl|rfl<;>rfl
 have av:=zAR (hs:=hs) (qok I hB (Kv hy) (Kv hy) hL ar) I U hB (Kv hy) (Kv hy) hL ao Y ha hb (T.pq I U ao Y ha hb) (by rcases af with rfl|rfl<;>simp) H;rw[T.parts f (1 - f) aa]at av;obtain⟨q,qs,hq⟩:=A9 aD;have v4:=ak (ag v2)
 obtain⟨o',g',d',t',Z',a5⟩:=Th C hR f (lr:=3) (a:=some (.scr t)) (b:=#[0]) (c:=#[1]) (d:=#[c,0]) (l:=some L) (p:=some B) (q:=#[2]) (st:=#[q,4]) (vs++[.str q]) (λv E=>by
  rcases å.mp E with E|E
  .exact G v E
  .rw[mS.mp E];exact .inr ⟨q,rfl⟩) H none none none none r4
 refine⟨Z',?_⟩;show yP (Px (LY t none none none none none none none none none none none none none) [])=_;unfold Px;refine PB (zT (ρ':=LY t #[0] none none none none none none none none none none none none) (S':=[.lst W]) ?_ (zT (ρ':=LY t #[0] #[1] none none none none none none none none none none none) (S':=A) ?_ (zT (ρ':=LY t #[0] #[1] #[c,0] none none none none none none none none none none) (S':=A) ?_ (zT (ρ':=LY t #[0] #[1] #[c,0] #[f,0] none none none none none none none none none) (S':=A) ?_ (zT (ρ':=LY t #[0] #[1] #[c,0] #[f,0] (some .non) none none none none none none none none) (S':=A) rfl (zT (ρ':=LY t #[0] #[1] #[c,0] #[f,0] (some .non) (some (vT z)) none none none none none none none) (S':=A) ?_ (zT f7 (zT (ρ':=LY t #[0] #[1] #[c,0] #[f,0] (some (oV w)) (some L) (some (vT x)) none none none none none none) (S':=A) ?_ (zT (ρ':=LY t #[0] #[1] #[c,0] #[f,0] (some (oV w)) (some L) (some (vT x)) (some .non) none none none none none) (S':=A) rfl (zT a4 (zT (ρ':=LY t #[0] #[1] #[c,0] #[f,0] (some (oV w)) (some L) (some B) (some (oV s)) #[2] none none none none) (S':=A++[.lst [aM (f,[B,vT y]),aM (1 - f,[vT y,L])]]) ?_ (zT ay ?_))))))))))))
 .unfold Fz;simp? [aF,aw];rfl
 .unfold Ga;simp? [a0,WF (show([.lst W]:Sto)[0]? =#[W,2]from rfl),show aG W (some 3) none=F.map MV.str by rw[hW];exact tM _ 3,az];rw[K];rfl
 .unfold Gb;simp? [a']
 .unfold Gc;simp? [mod_lit (show(0:Int)<2 by decide)];rw[hf]
 .unfold Gd;simp? [i2,tup2]
 .unfold Ge;simp? [i0,tup2]
 .unfold ZK;simp? [i1,tup2,Ol,l2];rfl
 rw[<-O];refine zT (ρ':=LY t #[0] #[1] #[c,0] #[f,0] (some (oV w)) (some L) (some B) (some (oV s)) #[2] #[[],3] none none none) (S':=D) ?_ (zT ba (zT (ρ':=LY t #[0] #[1] #[c,0] #[f,0] (some (oV w)) (some L) (some B) (some (oV s)) #[2] #[hs.map MV.str,3] #[3] none none) (S':=H) ?_ (zT (ρ':=LY t #[0] #[1] #[c,0] #[f,0] (some (oV w)) (some L) (some B) (some (oV s)) #[2] #[hs.map MV.str,3] #[3] (some (fM (uO f (1 - f) y z B w))) none) (S':=H) ?_ (zT (ρ':=LY t #[0] #[1] #[c,0] #[f,0] (some (oV w)) (some L) (some B) (some (oV s)) #[2] #[hs.map MV.str,3] #[3] (some (fM (uO f (1 - f) y z B w))) #[q,4]) (S':=H) ?_ (zT (ρ':=LX (some (.scr t)) #[0] #[1] #[c,0] f w (some L) (some B) s #[2] hs 3 (fM (uO f (1 - f) y z B w)) #[q,4] o' g' d' t') (S':=Z') ?_ rfl)))))
 .unfold ZL;simp? [show∀Z:Sto,wR [] Z=.ok #[[],6] Z from λ_=>FD (by simp)]
 .unfold ZM;simp? [au,a6,ab,l3];rw[ai]
 .have a7: ∀Z:Sto,wR [#[[.int 2,.int 1],6],#[[.int 2,.int 1],6]] Z=.ok #[TB2.map tbl,6] Z:=λZ=>tup2 _ _ Z;unfold ZN;simp? [tup2,a7,TD (ak a3),av]
 .have a8:xM (yX 0) JB TB [none,#[1]] [] ([[122,101,98,114,97],[121,97,107],[119,111,108,102],[118,111,108,101],[116,97,112,105,114]].map MV.str) H=.ok ((q::qs).map MV.str) H:=by rw[<-hq];exact wZ (f:=MV.str) (g:=MV.str) (kG _) λu _=>⟨[#[u,4],#[1]],rfl,by unfold JB;simp? [fI true v4 (dI u) λy hy=>lU (G y hy)],rfl⟩
  have hb: ∀a b c d e f g h i j k l m n o p q r:Option MV,vN 1 [2] [a,b,c,d,e,f,g,h,i,j,k,l,m,n,o,p,q,r]=[none,c]:=λ_ _ _ _ _ _ _ _ _ _ _ _ _ _ _ _ _ _=>rfl;have h5: ∀(a b c d e:MV)(Z:Sto),kI [.val a,.val b,.val c,.val d,.val e] Z=.ok (.new [a,b,c,d,e]) Z:=λa b c d e Z=>AK (by simp);unfold ZO;simp? [h5,CG,hb];rw[show [MV.str [122,101,98,114,97],.str [121,97,107],.str [119,111,108,102],.str [118,111,108,101],.str [116,97,112,105,114]]=[[122,101,98,114,97],[121,97,107],[119,111,108,102],[118,111,108,101],[116,97,112,105,114]].map MV.str from rfl,a8,iP (show List.length (List.map MV.str [[122,101,98,114,97],[121,97,107],[119,111,108,102],[118,111,108,101],[116,97,112,105,114]])<1000000 from(show 5<1000000 by decide)),ã];simp? [T4 (at0 _ _)]
 .unfold ZP;simp? [lst1,IQ (DH v4) (show XN H (.new [.str q])=some [.str q]from rfl) (fits (show vs.length+1<=1000000 by omega)),CG];exact a5
section
variable{K:R0}
noncomputable def top(i:Nat):Stmt:=PySem.Challenge.pw_mendsure_k76_two_atoms_in_a_row.main.body.getD i (.Pass ⟨0,0,0,0⟩)
abbrev FR:Stmt:=top 5
def qU:FnScope NZ ["atoms"] (zG FR):=fsK (by decide+kernel)
def Ap(D:DefM K mg "names_in" FR)(c:mg "list"=none):Xf P w K mg base "names_in" 1 1 ["atoms"] xT:=
 by have h:=FW (P:=P) (w:=w) (base:=base) D (λ_ _ _ _ _ _ i d=>match i,d with |[_],_=>rfl) λf j F=>DE (k:=0) _ F qU λb A a s H E e=>(zC (zI 1 qU.nd AM) (zC (wH ë rfl (yU (zA 0)) (zY 2 qU.nd) (zK (wH ë rfl (MX (zO (zA 2) zF)) (zY 3 qU.nd) (zK (wA (gF e.units (zO (zA 3) zF) (yZ [118,97,114])) (zK (FC vV (VE (zA 1) (zO (zA 3) zF)))) xA))))) (zK (zW (jH NU (YZ rfl) rfl c GN (zB (zA 1) zD))))))
    exact h
abbrev CQ:Stmt:=top 6
def WZ:FnScope ["term","values"] ["term","values"] (zG CQ):=fsK (by decide+kernel)
def XA(D:DefM K mg "term_with" CQ):Xf P w K mg base "term_with" 1 2 ["term","values"] dO:=
 by have h:=FW (P:=P) (w:=w) (base:=base) D (λ_ _ _ _ _ _ e c=>match e,c with |[_,_],_=>rfl) λf i F=>DE (k:=0) _ F WZ λb A a s H E d=>(zC (wA (ED (vW (gF d.units (zO (zA 0) zF) (yZ [118,97,114])) (pX (Pb (zO (zA 0) zF) (zA 1))))) (zK (zW (yN (zB (yZ [105,115]) (zB (W9 (zA 1) (zO (zA 0) zF)) zD))))) xA) (zK (zW (zA 0))))
    exact h
abbrev JM:Stmt:=top 7
def pL:FnScope SX ["terms","cells"] (zG JM):=fsK (by decide+kernel)
def Dq(D:DefM K mg "fitting" JM)(d:mg "zip"=none):Xf P w K mg base "fitting" 1 2 ["terms","cells"] mU:=
 by have h:=FW (P:=P) (w:=w) (base:=base) D (λ_ _ _ _ _ _ i e=>match i,e with |[_,_],_=>rfl) λf j F=>DE (k:=0) _ F pL λc A a s H E b=>(zC (zI 2 pL.nd AM) (zC (wH ë rfl (R5 rfl d (zB (zA 0) (zB (zA 1) zD))) (vY (n:=2) rfl (jC (zY 3 pL.nd) (jC (zY 4 pL.nd) vX))) (zC (zI 5 pL.nd (Ej (gF b.units (zO (zA 3) zF) (yZ [118,97,114])) (Ph (zA 2) (zB (zO (zA 3) zF) (zB (zA 4) zD))) (zO (zA 3) zF))) (zK (wA (NA b.units (zA 5) (zA 4)) (zK (zW rB)) xA)))) (zK (zW (zA 2)))))
    exact h
abbrev FS:Stmt:=top 9
def qV:FnScope OA ["formula"] (zG FS):=fsK (by decide+kernel)
def Aq(D:DefM K mg "parts_of" FS):Xf P w K mg base "parts_of" 1 1 ["formula"] dD:=
 by have h:=FW (P:=P) (w:=w) (base:=base) D (λ_ _ _ _ _ _ e c=>match e,c with |[_],_=>rfl) λf i F=>DE (k:=0) _ F qV λb A a s H E d=>(zC (zI 1 qV.nd (yY zD)) (zC (zI 2 qV.nd (zA 0)) (zC (vZ 10000 ë (NA d.units (zO (zA 2) zF) (yZ [121,101,115])) (zC (xH (xR (zA 1) (zB (zA 2) zD))) (zK (zI 2 qV.nd (zO (zA 2) MT))))) (zK (zW (zA 1))))))
    exact h
abbrev fK:Stmt:=top 10
def PD:FnScope ["parts"] ["parts"] (zG fK):=fsK (by decide+kernel)
def PH(D:DefM K mg "names_among" fK)(e:Xf P w K mg base "names_in" 1 1 ["atoms"] xT):Xf P w K mg base "names_among" 2 1 ["parts"] fB:=
 by have h:=FW (P:=P) (w:=w) (base:=base) D (λ_ _ _ _ _ _ i d=>match i,d with |[_],_=>rfl) λf m F=>DE (k:=1) _ F PD λc A a s H E b=>(zK (zW (zN e (b.mono (by decide)) rfl (zB (wI (zG fK) ["parts"] ["part"] [] (yU (zA 0)) rfl (λ_ _ _ _ j=>(xB 0 j)) (λ_ _ _ _=>cS) (λ_ _ _ _=>(yN (zB (zO (zA 0) zF) (zB (Ej (gF b.units (zO (zA 0) zF) (yZ [115,97,109,101])) (dB (zA 0) (jB zF) (jB zF)) (zO (zA 0) zF)) zD))))) zD))))
    exact h
abbrev eQ:Stmt:=top 11
def bB:FnScope sZ ["rows"] (zG eQ):=fsK (by decide+kernel)
def HX(D:DefM K mg "cells_by_table" eQ):Xf P w K mg base "cells_by_table" 1 1 ["rows"] xU:=
 by have h:=FW (P:=P) (w:=w) (base:=base) D (λ_ _ _ _ _ _ d c=>match d,c with |[_],_=>rfl) λf i F=>DE (k:=0) _ F bB λb A a s H E e=>(zC (zI 1 bB.nd AM) (zC (wH ë rfl (yU (zA 0)) (vY (n:=2) rfl (jC (zY 2 bB.nd) (jC (zY 3 bB.nd) vX))) (zK (xH (xR (Ph (zA 1) (zB (zA 2) (zB (yY zD) zD))) (zB (zA 3) zD))))) (zK (zW (zA 1)))))
    exact h
abbrev DS:Stmt:=top 12
def eR:FnScope IW ["part","cells","values"] (zG DS):=fsK (by decide+kernel)
def Dr(D:DefM K mg "ways_of" DS)(c:Xf P w K mg base "term_with" 1 2 ["term","values"] dO)(m:Xf P w K mg base "fitting" 1 2 ["terms","cells"] mU)(e:mg "dict"=none):Xf P w K mg base "ways_of" 2 3 ["part","cells","values"] aR:=
 by have h:=FW (P:=P) (w:=w) (base:=base) D (λ_ _ _ _ _ _ i n=>match i,n with |[_,_,_],_=>rfl) λf o F=>DE (k:=1) _ F eR λd A b s H E a=>(zC (wA (gF a.units (zO (zA 0) zF) (yZ [115,97,109,101])) (zK (zW (Ej (gF a.units (zN c (a.mono (by decide)) rfl (zB (zO (zA 0) zF) (zB (zA 2) zD))) (zN c (a.mono (by decide)) rfl (zB (zO (zA 0) zF) (zB (zA 2) zD)))) (yY (zB (zA 2) zD)) (yY zD)))) xA) (zC (LL 3 eR.nd (zG DS) IW ["term"] [2] (MX (zO (zA 0) zF)) rfl (λ_ _ _ _ j=>(xB 0 j)) (λ_ _ _ _=>cS) (λ_ _ _ _=>(zN c (a.mono (by decide)) rfl (zB (zA 0) (zB (zA 1) zD))))) (zC (zI 4 eR.nd (yY zD)) (zC (wH ë rfl (yU (Fy (zA 1) (zB (zO (zA 0) zF) (zB (yY zD) zD)))) (zY 5 eR.nd) (zC (zI 6 eR.nd (zN m (a.mono (by decide)) rfl (zB (zA 3) (zB (zA 5) zD)))) (zK (wA (YN (zA 6) rB) (zC (zI 7 eR.nd (jH Pg W6 rfl e LQ (zB (zA 2) zD))) (zC (xH (Fw (zA 7) (zB (zA 6) zD))) (zK (xH (xR (zA 4) (zB (zA 7) zD)))))) xA)))) (zK (zW (zA 4)))))))
    exact h
abbrev dL:Stmt:=inClass (top 13) 0
def DZ:FnScope xS xS (zG dL):=fsK (by decide+kernel)
def EA(F:Fun K "__init__" "Reading.__init__" dL f fd)(o:Xf P w K mg base "parts_of" 1 1 ["formula"] dD)(a: ∃C,OC K "Reading" C/\NoAttr K C "steps")(m:mg "range"=none)(r:mg "len"=none)(q:Xf P w K mg base "names_among" 2 1 ["parts"] fB)(b: ∃C,OC K "Reading" C/\NoAttr K C "asked")(n:Xf P w K mg base "cells_by_table" 1 1 ["rows"] xU)(d: ∃C,OC K "Reading" C/\NoAttr K C "cells")(c: ∃C,OC K "Reading" C/\NoAttr K C "found"):FnOk P w K mg base PZ 3 f fd xS (Ba ⟨K,mg,P,w⟩ 3 xC):=
 by have h:=DE (P:=P) (w:=w) (mg:=mg) (base:=base) (k:=2) _ F DZ λj A e s H E i=>(zC (LR a (zN o (i.mono ↑3) rfl (zB (zA 1) zD)) (zA 0)) (zC (LR b (wI (zG dL) xS ["place"] [0] (gI rfl m (zB (yW wC dW rfl r cA (zB (fA a (zA 0)) zD)) zD)) rfl (λ_ _ _ _ p=>(xB 0 p)) (λ_ _ _ _=>cS) (λ_ _ _ _=>(zN q (i.mono ↑3) rfl (zB (dB (fA a (zA 1)) (jB (zA 0)) gU) zD)))) (zA 0)) (zC (LR d (zN n (i.mono ↑3) rfl (zB (zA 2) zD)) (zA 0)) (zK (LR c AM (zA 0))))))
    exact h
abbrev lK:Stmt:=inClass (top 13) 1
def eS:FnScope iO ["self","trail","values"] (zG lK):=fsK (by decide+kernel)
def JN(F:Fun K "enter" "Reading.enter" lK f fd)(j:mg "len"=none)(a: ∃C,OC K "Reading" C/\NoAttr K C "steps")(c: ∃C,OC K "Reading" C/\NoAttr K C "asked")(n:mg "tuple"=none)(b: ∃C,OC K "Reading" C/\NoAttr K C "found")(o:Xf P w K mg base "ways_of" 2 3 ["part","cells","values"] aR)(d: ∃C,OC K "Reading" C/\NoAttr K C "cells"):FnOk P w K mg base PZ 3 f fd ["self","trail","values"] (Ba ⟨K,mg,P,w⟩ 3 zX):=
 by have h:=DE (P:=P) (w:=w) (mg:=mg) (base:=base) (k:=2) _ F eS λm A i s H E e=>(zC (zI 3 eS.nd (yW wC dW rfl j cA (zB (zA 1) zD))) (zC (wA (gF e.units (zA 3) (yW wC dW rfl j cA (zB (fA a (zA 0)) zD))) (zK (zW vV)) xA) (zC (zI 4 eS.nd (yN (zB (zA 3) (zB (jH eW GL rfl n GM (zB (wI (zG lK) iO ["name"] [2] (yU (zO (fA c (zA 0)) (zA 3))) rfl (λ_ _ _ _ p=>(xB 0 p)) (λ_ _ _ _=>cS) (λ_ _ _ _=>(Fy (zA 1) (zB (zA 0) zD)))) zD)) zD)))) (zC (wA (U4 e.units (zA 4) (fA b (zA 0))) (zK (zW (X1 e.units (fA b (zA 0)) (zA 4)))) xA) (zC (xH (xR (zA 1) (zB (yN (zB (zA 4) (zB (zN o (e.mono ↑3) rfl (zB (zO (fA a (zA 0)) (zA 3)) (zB (fA d (zA 0)) (zB (zA 2) zD)))) zD))) zD))) (zK (zW rB)))))))
    exact h
abbrev iD:Stmt:=inClass (top 13) 2
def yA:FnScope fV ["self","values"] (zG iD):=fsK (by decide+kernel)
def vL(F:Fun K "holds_with" "Reading.holds_with" iD f fd)(a:zBD P w K mg base "enter" 3 3 "Reading" zX)(b: ∃C,OC K "Reading" C/\NoAttr K C "steps")(c: ∃C,OC K "Reading" C/\NoAttr K C "found"):FnOk P w K mg base PZ 4 f fd ["self","values"] (Ba ⟨K,mg,P,w⟩ 2 yR):=
 by have h:=DE (P:=P) (w:=w) (mg:=mg) (base:=base) (k:=3) _ F yA λi A e s H E d=>(zC (zI 2 yA.nd (yY zD)) (zC (zI 3 yA.nd (NY a (d.mono ↑3) (zA 0) (zB (zA 2) (zB (zA 1) zD)))) (zC (vZ 100000000 ë (bC (zA 2)) (zC (zI 4 yA.nd (zO (zO (zA 2) MT) zF)) (zC (zI 5 yA.nd (zO (zO (zA 2) MT) zF)) (zC (zI 6 yA.nd (Nj d.units (zO (zO (fA b (zA 0)) (zO (zA 4) zF)) zF) (yZ [101,97,99,104]))) (zK (wA (ED (vW (NA d.units (zA 3) (zA 6)) (pX (bC (zA 5))))) (zK (zI 3 yA.nd (NY a (d.mono ↑3) (zA 0) (zB (zA 2) (zB (VI (zA 5)) zD))))) (zC (wA (NA d.units (zA 3) (zA 6)) (zK (zI 3 yA.nd (P7 (zA 6)))) xA) (zC (FC (zA 3) (Wy d.units (fA c (zA 0)) (zA 4))) (zK (xH (VI (zA 2)))))))))))) (zK (zW (zA 3))))))
    exact h
abbrev XB:Stmt:=top 14
def Tj:FnScope HB HB (zG XB):=fsK (by decide+kernel)
def Tl(D:DefM K mg "holds" XB)(b:InB P w K mg base 3 3 "Reading" xC)(a:zBD P w K mg base "holds_with" 4 2 "Reading" yR):Xf P w K mg base "holds" 5 3 HB LS:=
 by have h:=FW (P:=P) (w:=w) (base:=base) D (λ_ _ _ _ _ _ j i=>match j,i with |[_,_,_],_=>rfl) λf m F=>DE (k:=4) _ F Tj λe A c s H E d=>(zK (zW (NY a (d.mono (by decide)) (Pj b (d.mono (by decide)) rfl (zB (zA 0) (zB (zA 1) zD))) (zB (zA 2) zD))))
    exact h
abbrev cF:Stmt:=top 16
def kM:FnScope lN ["question"] (zG cF):=fsK (by decide+kernel)
def CS(D:DefM K mg "check_tables_once" cF)(c:mg "enumerate"=none):Xf P w K mg base "check_tables_once" 1 1 ["question"] jD:=
 by have h:=FW (P:=P) (w:=w) (base:=base) D (λ_ _ _ _ _ _ e d=>match e,d with |[_],_=>rfl) λf j F=>DE (k:=0) _ F kM λb A a s H E i=>(zC (zI 1 kM.nd AM) (zK (wH ë rfl (Fa rfl c (zB (zO (zA 0) zF) zD)) (vY (n:=2) rfl (jC (zY 2 kM.nd) (jC (zY 3 kM.nd) vX))) (zC (wA (Pb (zO (zA 3) zF) (zA 1)) (zK YK) xA) (zK (FC vV (VE (zA 1) (zO (zA 3) zF))))))))
    exact h
abbrev mP:Stmt:=top 17
def QS:FnScope ["question","atom"] ["question","atom"] (zG mP):=fsK (by decide+kernel)
def QT(D:DefM K mg "free_names" mP)(e:Xf P w K mg base "names_in" 1 1 ["atoms"] xT):Xf P w K mg base "free_names" 2 2 ["question","atom"] wL:=
 by have h:=FW (P:=P) (w:=w) (base:=base) D (λ_ _ _ _ _ _ i d=>match i,d with |[_,_],_=>rfl) λf m F=>DE (k:=1) _ F QS λc A a s H E b=>(zK (zW (wI (zG mP) ["question","atom"] ["name"] [0] (yU (zN e (b.mono (by decide)) rfl (zB (yY (zB (zA 1) zD)) zD))) rfl (λ_ _ _ _ j=>(xB 0 j)) (λ_ _ _ _=>(dU (sS b.units (zA 0) (zO (zA 1) zF)))) (λ_ _ _ _=>(zA 0)))))
    exact h
abbrev CU:Stmt:=top 18
def HY:FnScope KE ["tables","question","atom"] (zG CU):=fsK (by decide+kernel)
def XC(D:DefM K mg "key_names" CU)(c:Xf P w K mg base "free_names" 2 2 ["question","atom"] wL):Xf P w K mg base "key_names" 3 3 ["tables","question","atom"] dP:=
 by have h:=FW (P:=P) (w:=w) (base:=base) D (λ_ _ _ _ _ _ i d=>match i,d with |[_,_,_],_=>rfl) λf j F=>DE (k:=2) _ F HY λb A a s H E e=>(zC (zI 3 HY.nd (zO (zO (zA 0) (zO (zA 2) zF)) zF)) (zK (zW (zN c (e.mono (by decide)) rfl (zB (zA 1) (zB (yN (zB (zO (zA 2) zF) (zB (dB (zO (zA 2) zF) gU (jB (zA 3))) zD))) zD))))))
    exact h
abbrev eT:Stmt:=top 19
def bO:FnScope oE ["tables","question","place"] (zG eT):=fsK (by decide+kernel)
def Ar(D:DefM K mg "known_at" eT)(e:Xf P w K mg base "key_names" 3 3 ["tables","question","atom"] dP)(d:mg "dict"=none)(i:mg "len"=none)(m:mg "all"=none)(o:Xf P w K mg base "free_names" 2 2 ["question","atom"] wL):Xf P w K mg base "known_at" 4 3 ["tables","question","place"] uE:=
 by have h:=FW (P:=P) (w:=w) (base:=base) D (λ_ _ _ _ _ _ n p=>match n,p with |[_,_,_],_=>rfl) λf q F=>DE (k:=3) _ F bO λj A c s H E b=>(zC (zI 3 bO.nd (zO (zA 1) zF)) (zC (zI 4 bO.nd (xN (dB (zA 3) gU (jB (zA 2))) (dB (zA 3) (jB (xN (zA 2) zF)) gU))) (zC (zI 5 bO.nd (jH SO (Ft rfl) rfl d LQ (zB (wI (zG eT) oE ["name"] [] (yU (zN e (b.mono (by decide)) rfl (zB (zA 0) (zB (zA 1) (zB (zO (zA 3) (zA 2)) zD))))) rfl (λ_ _ _ _ a=>(xB 0 a)) (λ_ _ _ _=>cS) (λ_ _ _ _=>(yN (zB (zA 0) (zB vV zD))))) zD))) (zC (zI 6 bO.nd MT) (zC (vZ 10000 ë (Nk b.units (zA 6) (yW SR Fx rfl i cA (zB (zA 5) zD))) (zC (zI 6 bO.nd (yW SR Fx rfl i cA (zB (zA 5) zD))) (zK (wH ë rfl (MX (zA 4)) (zY 7 bO.nd) (zK (wA (bC (yW UE (Q5 rfl) rfl m Q7 (zB (wI (zG eT) oE ["name"] [5] (yU (zN e (b.mono (by decide)) rfl (zB (zA 0) (zB (zA 1) (zB (zA 7) zD))))) rfl (λ_ _ _ _ a=>(xB 0 a)) (λ_ _ _ _=>cS) (λ_ _ _ _=>(W5 (zA 0) (zA 1)))) zD))) (zK (xH (Fw (zA 5) (zB (jH SO (Ft rfl) rfl d LQ (zB (wI (zG eT) oE ["name"] [] (yU (zN o (b.mono (by decide)) rfl (zB (zA 1) (zB (zA 7) zD)))) rfl (λ_ _ _ _ a=>(xB 0 a)) (λ_ _ _ _=>cS) (λ_ _ _ _=>(yN (zB (zA 0) (zB vV zD))))) zD)) zD)))) xA)))))) (zK (zW (zA 5))))))))
    exact h
abbrev bV:Stmt:=top 20
def HZ:FnScope ["some","others"] ["some","others"] (zG bV):=fsK (by decide+kernel)
def IA(D:DefM K mg "have_in_common" bV)(c:mg "any"=none):Xf P w K mg base "have_in_common" 1 2 ["some","others"] bS:=
 by have h:=FW (P:=P) (w:=w) (base:=base) D (λ_ _ _ _ _ _ i d=>match i,d with |[_,_],_=>rfl) λf m F=>DE (k:=0) _ F HZ λb A a s H E e=>(zK (zW (yW GY (Pc rfl) rfl c Nv (zB (wI (zG bV) ["some","others"] ["name"] [1] (yU (zA 0)) rfl (λ_ _ _ _ j=>(xB 0 j)) (λ_ _ _ _=>cS) (λ_ _ _ _=>(C7 e.units (zA 0) (zA 1)))) zD))))
    exact h
abbrev cQ:Stmt:=top 21
def kC:FnScope rG ["tables","question","place"] (zG cQ):=fsK (by decide+kernel)
def PK(D:DefM K mg "swayed_from" cQ)(j:Xf P w K mg base "known_at" 4 3 ["tables","question","place"] uE)(n:Xf P w K mg base "free_names" 2 2 ["question","atom"] wL)(e:mg "range"=none)(q:mg "len"=none)(o:Xf P w K mg base "have_in_common" 1 2 ["some","others"] bS)(i:mg "list"=none):Xf P w K mg base "swayed_from" 5 3 ["tables","question","place"] fE:=
 by have h:=FW (P:=P) (w:=w) (base:=base) D (λ_ _ _ _ _ _ m p=>match m,p with |[_,_,_],_=>rfl) λf r F=>DE (k:=4) _ F kC λd A a s H E b=>(zC (zI 3 kC.nd (zN j (b.mono (by decide)) rfl (zB (zA 0) (zB (zA 1) (zB (zA 2) zD))))) (zC (LL 4 kC.nd (zG cQ) rG ["atom"] [1,3] (MX (zO (zA 1) zF)) rfl (λ_ _ _ _ c=>(xB 0 c)) (λ_ _ _ _=>cS) (λ_ _ _ _=>(wI (rlS ({kind:=PySem.ScopeKind.function,names:=[(PySem.Str.ofString ".0",PySem.NameKind.local),(PySem.Str.ofString "atom",PySem.NameKind.local),(PySem.Str.ofString "free_names",PySem.NameKind.globalImplicit),(PySem.Str.ofString "learnt",PySem.NameKind.free),(PySem.Str.ofString "question",PySem.NameKind.free)],isGenerator:=false,isCoroutine:=false,more:=[]:PySem.Scope}) (zG cQ)) ["atom","question","learnt"] ["name"] [2] (yU (zN n (b.mono (by decide)) rfl (zB (zA 1) (zB (zA 0) zD)))) rfl (λ_ _ _ _ c=>(xB 0 c)) (λ_ _ _ _=>(dU (SK (zA 0) (zA 1)))) (λ_ _ _ _=>(zA 0))))) (zC (zI 5 kC.nd (Kb (zA 2) vV)) (zC (zI 6 kC.nd (yY (zB (zA 2) zD))) (zC (vZ 10000 ë (bC (zA 6)) (zC (zI 7 kC.nd (zO (zA 4) (VI (zA 6)))) (zK (wH ë rfl (gI rfl e (zB (yW wC dW rfl q cA (zB (zA 4) zD)) zD)) (zY 8 kC.nd) (zK (wA (ED (vW (SK (zA 8) (zA 5)) (pX (bC (zN o (b.mono (by decide)) rfl (zB (zA 7) (zB (zO (zA 4) (zA 8)) zD))))))) (zC (FC vV (VE (zA 5) (zA 8))) (zK (xH (xR (zA 6) (zB (zA 8) zD))))) xA)))))) (zK (zW (jH NU (YZ rfl) rfl i GN (zB (zA 5) zD)))))))))
    exact h
abbrev MD:Stmt:=top 22
def PL:FnScope VJ ["tables","question"] (zG MD):=fsK (by decide+kernel)
def To(D:DefM K mg "sways" MD)(m:Xf P w K mg base "check_tables_once" 1 1 ["question"] jD)(e:mg "range"=none)(p:mg "len"=none)(n:Xf P w K mg base "swayed_from" 5 3 ["tables","question","place"] fE)(c:mg "sorted"=none):Xf P w K mg base "sways" 6 2 ["tables","question"] DP:=
 by have h:=FW (P:=P) (w:=w) (base:=base) D (λ_ _ _ _ _ _ i o=>match i,o with |[_,_],_=>rfl) λf q F=>DE (k:=5) _ F PL λd A b s H E a=>(zC (xH (zN m (a.mono (by decide)) rfl (zB (zA 1) zD))) (zC (zI 2 PL.nd (yY zD)) (zC (wH ë rfl (gI rfl e (zB (yW wC dW rfl p cA (zB (zO (zA 1) zF) zD)) zD)) (zY 3 PL.nd) (zK (xH (DL (zA 2) (zB (wI (zG MD) VJ ["b"] [3] (yU (zN n (a.mono (by decide)) rfl (zB (zA 0) (zB (zA 1) (zB (zA 3) zD))))) rfl (λ_ _ _ _ j=>(xB 0 j)) (λ_ _ _ _=>(dU (NA a.units (zA 0) (zA 1)))) (λ_ _ _ _=>(yN (zB (zA 1) (zB (zA 0) zD))))) zD))))) (zK (zW (yW (Jw a.u128) Xk rfl c Cu (zB (zA 2) zD)))))))
    exact h
abbrev Ds:Stmt:=top 23
def ME:FnScope Ps ["tables","question"] (zG Ds):=fsK (by decide+kernel)
def B1(D:DefM K mg "ring" Ds)(d:Xf P w K mg base "sways" 6 2 ["tables","question"] DP):Xf P w K mg base "ring" 7 2 ["tables","question"] VO:=
 by have h:=FW (P:=P) (w:=w) (base:=base) D (λ_ _ _ _ _ _ i e=>match i,e with |[_,_],_=>rfl) λf j F=>DE (k:=6) _ F ME λc A a s H E b=>(zC (zI 2 ME.nd (zN d (b.mono (by decide)) rfl (zB (zA 0) (zB (zA 1) zD)))) (zC (wH ë rfl (yU (zA 2)) (vY (n:=2) rfl (jC (zY 3 ME.nd) (jC (zY 4 ME.nd) vX))) (zK (wA (C8 b.units (yN (zB (zA 4) (zB (zA 3) zD))) (zA 2)) (zK (zW (yY (zB (zA 3) (zB (zA 4) zD))))) xA))) (zK (zW rB))))
    exact h
abbrev eU:Stmt:=top 25
def eV:FnScope tB ["tables","question"] (zG eU):=fsK (by decide+kernel)
def Dt(D:DefM K mg "in_turn" eU)(n:Xf P w K mg base "sways" 6 2 ["tables","question"] DP)(p:mg "len"=none)(j:mg "list"=none)(i:mg "range"=none)(e:mg "any"=none):Xf P w K mg base "in_turn" 7 2 ["tables","question"] DQ:=
 by have h:=FW (P:=P) (w:=w) (base:=base) D (λ_ _ _ _ _ _ m o=>match m,o with |[_,_],_=>rfl) λf q F=>DE (k:=6) _ F eV λd A b s H E c=>(zC (zI 2 eV.nd (zN n (c.mono (by decide)) rfl (zB (zA 0) (zB (zA 1) zD)))) (zC (zI 3 eV.nd (Xh rfl rfl j rfl i (zB (yW wC dW rfl p cA (zB (zO (zA 1) zF) zD)) zD))) (zC (zI 4 eV.nd (yY zD)) (zC (vZ 10000 ë (bC (zA 3)) (zC (zI 5 eV.nd (wI (zG eU) tB ["b"] [2,3] (yU (zA 3)) rfl (λ_ _ _ _ a=>(xB 0 a)) (λ_ _ _ _=>(dU (Bv (bC (yW GY (Pc rfl) rfl e Nv (zB (wI (rlS ({kind:=PySem.ScopeKind.function,names:=[(PySem.Str.ofString ".0",PySem.NameKind.local),(PySem.Str.ofString "b",PySem.NameKind.cell),(PySem.Str.ofString "any",PySem.NameKind.globalImplicit),(PySem.Str.ofString "left",PySem.NameKind.free),(PySem.Str.ofString "pairs",PySem.NameKind.free)],isGenerator:=false,isCoroutine:=false,more:=[]:PySem.Scope}) (zG eU)) ["b","pairs","left"] ["a"] [0,1] (yU (zA 2)) rfl (λ_ _ _ _ a=>(xB 0 a)) (λ_ _ _ _=>cS) (λ_ _ _ _=>(C7 c.units (yN (zB (zA 0) (zB (zA 1) zD))) (zA 2)))) zD)))))) (λ_ _ _ _=>(zA 0)))) (zC (xH (DL (zA 4) (zB (zA 5) zD))) (zK (zI 3 eV.nd (wI (zG eU) tB ["b"] [5] (yU (zA 3)) rfl (λ_ _ _ _ a=>(xB 0 a)) (λ_ _ _ _=>(dU (sS c.units (zA 0) (zA 1)))) (λ_ _ _ _=>(zA 0)))))))) (zK (zW (wI (zG eU) tB ["place"] [1] (yU (zA 4)) rfl (λ_ _ _ _ a=>(xB 0 a)) (λ_ _ _ _=>cS) (λ_ _ _ _=>(zO (zO (zA 1) zF) (zA 0))))))))))
    exact h
abbrev PM:Stmt:=top 26
def Kw:FnScope ["term","named"] ["term","named"] (zG PM):=fsK (by decide+kernel)
def Ky(D:DefM K mg "is_new" PM):Xf P w K mg base "is_new" 1 2 ["term","named"] tG:=
 by have h:=FW (P:=P) (w:=w) (base:=base) D (λ_ _ _ _ _ _ e d=>match e,d with |[_,_],_=>rfl) λf i F=>DE (k:=0) _ F Kw λc A a s H E b=>(zK (zW (Mu (C5 b.units (zO (zA 0) zF) (yZ [118,97,114])) (Mt (Nr b.units (zO (zA 0) zF) (zA 1))))))
    exact h
abbrev FU:Stmt:=top 27
def As:FnScope ["term","named"] ["term","named"] (zG FU):=fsK (by decide+kernel)
def Au(D:DefM K mg "stand_in" FU)(c:Xf P w K mg base "is_new" 1 2 ["term","named"] tG):Xf P w K mg base "stand_in" 2 2 ["term","named"] uF:=
 by have h:=FW (P:=P) (w:=w) (base:=base) D (λ_ _ _ _ _ _ i d=>match i,d with |[_,_],_=>rfl) λf j F=>DE (k:=1) _ F As λb A a s H E e=>(zK (zW (Ej (bC (zN c (e.mono (by decide)) rfl (zB (zA 0) (zB (zA 1) zD)))) (yN (zB (yZ [118,97,114]) (zB (xN (yZ [115,111,109,101,32]) (zO (zA 0) zF)) zD))) (zA 0))))
    exact h
abbrev qW:Stmt:=top 28
def xX:FnScope AT ["tables","atom","named"] (zG qW):=fsK (by decide+kernel)
def XD(D:DefM K mg "parts_for" qW)(e:Xf P w K mg base "names_in" 1 1 ["atoms"] xT)(o:Xf P w K mg base "stand_in" 2 2 ["term","named"] uF)(c:mg "tuple"=none)(m:mg "enumerate"=none)(p:Xf P w K mg base "is_new" 1 2 ["term","named"] tG):Xf P w K mg base "parts_for" 3 3 ["tables","atom","named"] qH:=
 by have h:=FW (P:=P) (w:=w) (base:=base) D (λ_ _ _ _ _ _ i q=>match i,q with |[_,_,_],_=>rfl) λf r F=>DE (k:=2) _ F xX λd A a s H E b=>(zC (zI 3 xX.nd (zO (zA 1) zF)) (zC (zI 4 xX.nd (zO (zO (zA 0) (zA 3)) zF)) (zC (zI 5 xX.nd (dB (zO (zA 1) zF) gU (jB (zA 4)))) (zC (zI 6 xX.nd (xN (zA 2) (zN e (b.mono (by decide)) rfl (zB (yY (zB (yN (zB (zA 3) (zB (zA 5) zD))) zD)) zD)))) (zC (zI 7 xX.nd (yN (zB (yZ [115,111,109,101]) (zB (zA 3) (zB (xN (zA 5) (jH eW GL rfl c GM (zB (wI (zG qW) AT ["term"] [6] (MX (dB (zO (zA 1) zF) (jB (zA 4)) gU)) rfl (λ_ _ _ _ j=>(xB 0 j)) (λ_ _ _ _=>cS) (λ_ _ _ _=>(zN o (b.mono (by decide)) rfl (zB (zA 0) (zB (zA 1) zD))))) zD))) zD))))) (zC (zI 8 xX.nd (yY zD)) (zC (zI 9 xX.nd (yY zD)) (zC (wH ë rfl (Fa rfl m (zB (dB (zO (zA 1) zF) (jB (zA 4)) gU) zD)) (vY (n:=2) rfl (jC (zY 10 xX.nd) (jC (zY 11 xX.nd) vX))) (zK (wA (bC (zN p (b.mono (by decide)) rfl (zB (zA 11) (zB (zA 6) zD)))) (zC (xH (xR (zA 8) (zB (zA 11) zD))) (zK (xH (xR (zA 6) (zB (zO (zA 11) zF) zD))))) (zC (xH (xR (zA 8) (zB (yN (zB (yZ [118,97,114]) (zB (Xx (Pq [99,101,108,108,32] (Pp (zA 3) (Pq [32] (Pp (zA 10) X5))))) zD))) zD))) (zK (xH (xR (zA 9) (zB (yN (zB (yZ [115,97,109,101]) (zB (zO (zA 8) MT) (zB (zA 11) zD)))) zD)))))))) (zK (zW (xN (yY (zB (zA 7) (zB (yN (zB (yZ [101,97,99,104]) (zB (zA 3) (zB (xN (zA 5) (jH eW GL rfl c GM (zB (zA 8) zD))) zD)))) zD))) (zA 9))))))))))))
    exact h
abbrev lL:Stmt:=top 29
def xG:FnScope uZ ["tables","question"] (zG lL):=fsK (by decide+kernel)
def JO(D:DefM K mg "put_otherwise" lL)(b:Xf P w K mg base "ring" 7 2 ["tables","question"] VO)(e:mg "list"=none)(j:Xf P w K mg base "in_turn" 7 2 ["tables","question"] DQ)(i:Xf P w K mg base "parts_for" 3 3 ["tables","atom","named"] qH)(m:Xf P w K mg base "names_in" 1 1 ["atoms"] xT)(n:mg "reversed"=none):Xf P w K mg base "put_otherwise" 8 2 ["tables","question"] cX:=
 by have h:=FW (P:=P) (w:=w) (base:=base) D (λ_ _ _ _ _ _ o p=>match o,p with |[_,_],_=>rfl) λf q F=>DE (k:=7) _ F xG λd A c s H E a=>(zC (zI 2 xG.nd (zN b (a.mono (by decide)) rfl (zB (zA 0) (zB (zA 1) zD)))) (zC (wA (YN (zA 2) rB) (zK YK) xA) (zC (zI 3 xG.nd (jH FY Eu rfl e GN (zB (zO (zA 1) zF) zD))) (zC (zI 4 xG.nd (yY zD)) (zC (wH ë rfl (yU (zN j (a.mono (by decide)) rfl (zB (zA 0) (zB (zA 1) zD)))) (zY 5 xG.nd) (zC (xH (DL (zA 4) (zB (zN i (a.mono (by decide)) rfl (zB (zA 0) (zB (zA 5) (zB (zA 3) zD)))) zD))) (zK (xH (DL (zA 3) (zB (zN m (a.mono (by decide)) rfl (zB (yY (zB (zA 5) zD)) zD)) zD)))))) (zC (zI 6 xG.nd (yN (zB (yZ [121,101,115]) zD))) (zC (wH ë rfl (V9 rfl n (zB (zA 4) zD)) (zY 7 xG.nd) (zK (zI 6 xG.nd (xN (zA 7) (yN (zB (zA 6) zD)))))) (zK (zW (zA 6))))))))))
    exact h
abbrev pN:Stmt:=top 31
def LA:FnScope [Ň,ŏ] [Ň,ŏ] (zG pN):=fsK (by decide+kernel)
def LB(D:DefM K mg ŕ pN)(e:mg "len"=none):Xf P w K mg base ŕ 1 2 [Ň,ŏ] yK:=
 by have h:=FW (P:=P) (w:=w) (base:=base) D (λ_ _ _ _ _ _ i c=>match i,c with |[_,_],_=>rfl) λf j F=>DE (k:=0) _ F LA λb A a s H E d=>(zC (wA (Nk d.units (zA 1) (yW wC dW rfl e cA (zB (zA 0) zD))) (zK (zW (zO (zA 0) (zA 1)))) xA) (zK (zW zF)))
    exact h
abbrev pO:Stmt:=top 32
def xO:FnScope AU [ŋ] (zG pO):=fsK (by decide+kernel)
def LC(D:DefM K mg Œ pO)(c:mg "range"=none):Xf P w K mg base Œ 1 1 [ŋ] jP:=
 by have h:=FW (P:=P) (w:=w) (base:=base) D (λ_ _ _ _ _ _ e d=>match e,d with |[_],_=>rfl) λf j F=>DE (k:=0) _ F xO λb A a s H E i=>(zC (zI 1 xO.nd (yZ [97,98,99,100,101,102,103,104,105,106,107,108,109,110,111,112,113,114,115,116,117,118,119,120,121,122])) (zC (zI 2 xO.nd (xN zF (yO (zA 0) zF))) (zC (zI 0 xO.nd (xZ (zA 0) zF)) (zC (zI 3 xO.nd (yZ [])) (zC (wH ë rfl (gI rfl c (zB (zA 2) zD)) (zY 4 xO.nd) (zC (zI 3 xO.nd (xN (zA 3) (zO (zA 1) (yO (zA 0) zF)))) (zK (zI 0 xO.nd (xZ (zA 0) zF))))) (zK (zW (yN (zB (zA 3) (zB (zA 0) zD))))))))))
    exact h
abbrev gB:Stmt:=top 33
def yC:FnScope dY [ŋ,ŉ] (zG gB):=fsK (by decide+kernel)
def tP(D:DefM K mg Ő gB)(e:mg "range"=none)(d:Xf P w K mg base Œ 1 1 [ŋ] jP):Xf P w K mg base Ő 2 2 [ŋ,ŉ] wM:=
 by have h:=FW (P:=P) (w:=w) (base:=base) D (λ_ _ _ _ _ _ j i=>match j,i with |[_,_],_=>rfl) λf m F=>DE (k:=1) _ F yC λc A a s H E b=>(zC (zI 2 yC.nd (yY zD)) (zC (wH ë rfl (gI rfl e (zB (zA 1) zD)) (zY 3 yC.nd) (zC (FC (zN d (b.mono (by decide)) rfl (zB (zA 0) zD)) (vY (n:=2) rfl (jC (zY 4 yC.nd) (jC (zY 0 yC.nd) vX)))) (zC (wH ë rfl (P8 (yZ [97,98,99,100,101,102,103,104,105,106])) (zY 5 yC.nd) (zK (wA (C8 b.units (zA 4) (zA 2)) (zK (zI 4 yC.nd (xN (dB (zA 4) gU (jB zF)) (zA 5)))) xA))) (zK (xH (xR (zA 2) (zB (zA 4) zD))))))) (zK (zW (zA 2)))))
    exact h
abbrev uP:Stmt:=top 34
def yS:FnScope HC [Ŋ,ŉ] (zG uP):=fsK (by decide+kernel)
def QU(D:DefM K mg Ř uP)(e:Xf P w K mg base Ő 2 2 [ŋ,ŉ] wM)(c:mg "range"=none):Xf P w K mg base Ř 3 2 [Ŋ,ŉ] mK:=
 by have h:=FW (P:=P) (w:=w) (base:=base) D (λ_ _ _ _ _ _ j i=>match j,i with |[_,_],_=>rfl) λf m F=>DE (k:=2) _ F yS λd A b s H E a=>(zC (wA (gF a.units (yO (zA 0) zF) zF) (zK (zW (zN e (a.mono (by decide)) rfl (zB (xZ (zA 0) zF) (zB (zA 1) zD))))) xA) (zC (zI 2 yS.nd (yZ [97,98,99,100,101,102,103,104,105,106,107,108,109,110,111,112,113,114,115,116,117,118,119,120,121,122])) (zC (zI 0 yS.nd (yO (iM (yO (iM (zA 0) zF) zF) zF) zF)) (zC (zI 3 yS.nd (xN zF (yO (zA 0) zF))) (zC (zI 4 yS.nd (yO (xZ (zA 0) zF) (zA 3))) (zC (zI 5 yS.nd (yY zD)) (zC (wH ë rfl (gI rfl c (zB (zA 1) zD)) (zY 6 yS.nd) (zC (zI 7 yS.nd (yZ [])) (zC (wH ë rfl (gI rfl c (zB (zA 3) zD)) (zY 8 yS.nd) (zC (zI 9 yS.nd (xN (xZ (zA 0) (xN zF (iM zF (zA 8)))) (iM (zA 8) (yO (xZ (zA 0) zF) zF)))) (zC (wA (gF a.units (zA 8) (zA 4)) (zK (zI 9 yS.nd (xN (zA 9) (iM zF (zA 6))))) xA) (zK (zI 7 yS.nd (xN (zA 7) (zO (zA 2) (yO (zA 9) zF)))))))) (zK (xH (xR (zA 5) (zB (zA 7) zD))))))) (zC (wA (gF a.units (yO (xZ (zA 0) zF) zF) zF) (zK (FC (xN (zO (zA 5) zF) (zO (zA 2) (yO (xZ (zA 0) zF) zF))) (Q9 (zA 5) zF))) xA) (zK (zW (zA 5)))))))))))
    exact h
abbrev uQ:Stmt:=top 35
def wO:FnScope HD [Ŋ,ŉ] (zG uQ):=fsK (by decide+kernel)
def QV(D:DefM K mg ř uQ)(b:mg "range"=none):Xf P w K mg base ř 1 2 [Ŋ,ŉ] nU:=
 by have h:=FW (P:=P) (w:=w) (base:=base) D (λ_ _ _ _ _ _ i d=>match i,d with |[_,_],_=>rfl) λf j F=>DE (k:=0) _ F wO λc A a s H E e=>(zC (zI 2 wO.nd (yY zD)) (zC (wA (gF e.units (yO (zA 0) zF) zF) (zC (zI 3 wO.nd (xZ (zA 0) zF)) (zC (wH ë rfl (gI rfl b (zB (zA 1) zD)) (zY 4 wO.nd) (zC (xH (xR (zA 2) (zB (yO (zA 3) zF) zD))) (zK (zI 3 wO.nd (xZ (zA 3) zF))))) (zK (zW (zA 2))))) xA) (zC (zI 5 wO.nd (xN (yO (zA 0) zF) zF)) (zC (wH ë rfl (gI rfl b (zB (zA 1) zD)) (zY 4 wO.nd) (zC (zI 5 wO.nd (yO (xN (xN (iM (zA 5) (zA 5)) (iM zF (zA 5))) (zA 4)) zF)) (zK (xH (xR (zA 2) (zB (xZ (yO (iM (zA 5) zF) zF) zF) zD)))))) (zK (zW (zA 2)))))))
    exact h
abbrev fN:Stmt:=top 36
def yD:FnScope rH [Ŋ,Ō] (zG fN):=fsK (by decide+kernel)
def PN(D:DefM K mg Ŗ fN)(e:mg "range"=none)(d:Xf P w K mg base Œ 1 1 [ŋ] jP)(p:mg "len"=none)(o:mg "min"=none):Xf P w K mg base Ŗ 2 2 [Ŋ,Ō] fF:=
 by have h:=FW (P:=P) (w:=w) (base:=base) D (λ_ _ _ _ _ _ i m=>match i,m with |[_,_],_=>rfl) λf q F=>DE (k:=1) _ F yD λc A b s H E a=>(zC (wA (gF a.units (yO (zA 0) zF) zF) (zC (zI 2 yD.nd (xZ (zA 0) zF)) (zC (zI 3 yD.nd (xN zF (yO (zA 2) zF))) (zC (zI 2 yD.nd (xZ (zA 2) zF)) (zC (zI 4 yD.nd (yY zD)) (zC (wH ë rfl (gI rfl e (zB (zA 3) zD)) (zY 5 yD.nd) (zC (FC (zN d (a.mono (by decide)) rfl (zB (xZ (zA 2) zF) zD)) (vY (n:=2) rfl (jC (zY 6 yD.nd) (jC (zY 2 yD.nd) vX)))) (zC (wA (gF a.units (yO (zA 2) zF) zF) (zC (zI 6 yD.nd (xN (AB (yO (xZ (zA 2) zF) (AB (iM zF (MZ zF zF)) zF)) (MZ zF zF)) zF)) (zK (zI 2 yD.nd (xZ (zA 2) (AB (iM zF (MZ zF zF)) zF))))) xA) (zK (wA (sS a.units (zA 6) (zA 4)) (zK (xH (xR (zA 4) (zB (zA 6) zD)))) xA))))) (zK (zW (xN (zA 4) (dB (wI (zG fN) rH [š] [4] (yU (zA 1)) rfl (λ_ _ _ _ j=>(xB 0 j)) (λ_ _ _ _=>(dU (sS a.units (zA 0) (zA 1)))) (λ_ _ _ _=>(zA 0))) gU (jB (AB zF (yW (Ik rfl) V6 rfl o V7 (zB zF (zB (yW wC dW rfl p cA (zB (zA 4) zD)) zD)))))))))))))) xA) (zC (zI 7 yD.nd (xN (AB (yO (zA 0) (AB (iM zF (MZ zF zF)) zF)) (MZ zF zF)) zF)) (zC (zI 8 yD.nd (yY (zB (zA 7) (zB (xN (zA 7) zF) (zB (zO (zA 1) zF) (zB (zO (zA 1) zF) zD)))))) (zC (zI 9 yD.nd (yO (xZ (zA 0) zF) zF)) (zK (zW (dB (xN (dB (zA 8) (jB (zA 9)) gU) (dB (zA 8) gU (jB (zA 9)))) gU (jB (xN zF (yO (zA 0) zF))))))))))
    exact h
abbrev CV:Stmt:=top 37
def gC:FnScope KF [ő,ŗ,Ŏ] (zG CV):=fsK (by decide+kernel)
def XE(D:DefM K mg ś CV)(e:mg "list"=none)(j:Xf P w K mg base ř 1 2 [Ŋ,ŉ] nU)(c:mg "len"=none):Xf P w K mg base ś 2 3 [ő,ŗ,Ŏ] iC:=
 by have h:=FW (P:=P) (w:=w) (base:=base) D (λ_ _ _ _ _ _ m i=>match m,i with |[_,_,_],_=>rfl) λf n F=>DE (k:=1) _ F gC λd A b s H E a=>(zC (zI 3 gC.nd (yY zD)) (zC (zI 4 gC.nd (jH FY Eu rfl e GN (zB (zA 0) zD))) (zC (wA (gF a.units (yO (zA 1) zF) zF) (zK (zI 4 gC.nd (xN (zA 4) (zN j (a.mono (by decide)) rfl (zB (xZ (zA 1) zF) (zB zF zD)))))) xA) (zC (wH ë rfl (yU (zA 4)) (zY 5 gC.nd) (zC (zI 6 gC.nd (yO (iM (xZ (zA 5) zF) zF) zF)) (zC (zI 7 gC.nd (yN (zB (yO (zA 5) zF) (zB (yN (zB (zO (zA 2) (yO (yO (zA 6) zF) (yW wC dW rfl c cA (zB (zA 2) zD)))) (zB (zO (zA 2) (yO (yO (xZ (zA 6) zF) zF) (yW wC dW rfl c cA (zB (zA 2) zD)))) zD))) zD)))) (zK (wA (ED (vW (sS a.units (zA 7) (zA 3)) (pX (Nk a.units (yW wC dW rfl c cA (zB (zA 3) zD)) zF)))) (zK (xH (xR (zA 3) (zB (zA 7) zD)))) xA))))) (zK (zW (zA 3)))))))
    exact h
abbrev aC:Stmt:=top 38
def EX:FnScope lX [ň,ŝ,Ş,ō] (zG aC):=fsK (by decide+kernel)
def QW(D:DefM K mg Ś aC):Xf P w K mg base Ś 1 4 [ň,ŝ,Ş,ō] mL:=
 by have h:=FW (P:=P) (w:=w) (base:=base) D (λ_ _ _ _ _ _ i e=>match i,e with |[_,_,_,_],_=>rfl) λf j F=>DE (k:=0) _ F EX λd A c s H E a=>(zC (LL 4 EX.nd (zG aC) lX ["_law_u",ő] [1,2] (yU (zA 0)) rfl (λ_ _ _ _ b=>(Mz (n:=2) rfl (LK (xB 0 b) (LK (xB 1 b) Mx)))) (λ_ _ _ _=>(dU (ED (vW (gF a.units (zA 0) (zA 2)) (pX (gF a.units (zO (zA 1) zF) (zA 3))))))) (λ_ _ _ _=>(zO (zA 1) zF))) (zC (wA (Nn (zA 3) rB) (zK (zW (Nj a.units (zA 4) (yY zD)))) xA) (zK (zW (Mu (Nj a.units (zA 4) (yY zD)) (Mt (C5 a.units (wI (zG aC) lX [Š] [3] (yU (zA 4)) rfl (λ_ _ _ _ b=>(xB 0 b)) (λ_ _ _ _=>(dU (NA a.units (zA 0) (zA 1)))) (λ_ _ _ _=>(zA 0))) (yY zD))))))))
    exact h
abbrev iE:Stmt:=top 39
def mQ:FnScope qA [ň,œ,Ŕ,ō] (zG iE):=fsK (by decide+kernel)
def XF(D:DefM K mg Ŝ iE)(e:Xf P w K mg base Ś 1 4 [ň,ŝ,Ş,ō] mL):Xf P w K mg base Ŝ 2 4 [ň,œ,Ŕ,ō] qO:=
 by have h:=FW (P:=P) (w:=w) (base:=base) D (λ_ _ _ _ _ _ j i=>match j,i with |[_,_,_,_],_=>rfl) λf m F=>DE (k:=1) _ F mQ λd A c s H E a=>(zC (wH ë rfl (yU (zA 0)) (vY (n:=2) rfl (jC (zY 4 mQ.nd) (jC (zY 5 mQ.nd) vX))) (zK (wA (ED (vW (gF a.units (zA 4) (zA 1)) (pX (ED (B3 (Nn (zA 2) rB) (Mv (gF a.units (zO (zA 5) zF) (zA 2)))))))) (zC (LL 6 mQ.nd (zG iE) qA ["_law_u","_law_other"] [1,5] (yU (zA 0)) rfl (λ_ _ _ _ b=>(Mz (n:=2) rfl (LK (xB 0 b) (LK (xB 1 b) Mx)))) (λ_ _ _ _=>(dU (ED (vW (gF a.units (zA 0) (zA 2)) (pX (gF a.units (zO (zA 1) zF) (zO (zA 3) zF))))))) (λ_ _ _ _=>(zO (zA 1) zF))) (zK (wA (gF a.units (wI (zG iE) qA [Š] [0,1,3] (yU (zA 6)) rfl (λ_ _ _ _ b=>(xB 0 b)) (λ_ _ _ _=>(dU (Bv (bC (zN e (a.mono (by decide)) rfl (zB (zA 1) (zB (AB zF (zA 2)) (zB (zA 0) (zB (zA 3) zD))))))))) (λ_ _ _ _=>(zA 0))) (yY zD)) (zK (zW vV)) xA))) xA))) (zK (zW vV)))
    exact h
abbrev Hz:Stmt:=top 40
def kD:FnScope Pu [Ň] (zG Hz):=fsK (by decide+kernel)
def zAX(F:Fun K "law" "law" Hz f fd)(p:Xf P w K mg base Ř 3 2 [Ŋ,ŉ] mK)(b:Xf P w K mg base ŕ 1 2 [Ň,ŏ] yK)(u:Xf P w K mg base Ŗ 2 2 [Ŋ,Ō] fF)(d:mg "len"=none)(t:Xf P w K mg base ś 2 3 [ő,ŗ,Ŏ] iC)(i:Xf P w K mg base "put_otherwise" 8 2 ["tables","question"] cX)(n:mg "tuple"=none)(j:mg "dict"=none)(m:mg "zip"=none)(o:Xf P w K mg base Ŝ 2 4 [ň,œ,Ŕ,ō] qO)(v:Xf P w K mg base "holds" 5 3 HB LS)(y:mg "bool"=none)(r:mg "isinstance"=none):FnOk P w K mg base PZ 9 f fd [Ň] (Ba ⟨K,mg,P,w⟩ 1 ZQ):=
 by have h:=DE (P:=P) (w:=w) (mg:=mg) (base:=base) (k:=8) _ F kD λe A c s H E a=>(zC (zI 1 kD.nd (zN p (a.mono ↑3) rfl (zB (zN b (a.mono ↑3) rfl (zB (zA 0) (zB zF zD))) (zB zF zD)))) (zC (zI 2 kD.nd (zN u (a.mono ↑3) rfl (zB (zN b (a.mono ↑3) rfl (zB (zA 0) (zB zF zD))) (zB (dB (zA 1) (jB zF) gU) zD)))) (zC (zI 3 kD.nd (zN b (a.mono ↑3) rfl (zB (zA 0) (zB zF zD)))) (zC (zI 4 kD.nd (yO (zA 3) zF)) (zC (zI 5 kD.nd rB) (zC (zI 6 kD.nd (yN (zB (yZ [118,97,114]) (zB (zO (zA 1) zF) zD)))) (zC (wA (gF a.units (yO (xZ (zA 3) zF) zF) zF) (zC (zI 5 kD.nd (zO (zA 2) (yO (xZ (zA 3) zF) (yW wC dW rfl d cA (zB (zA 2) zD))))) (zK (zI 6 kD.nd (yN (zB (yZ [105,115]) (zB (zA 5) zD)))))) xA) (zC (zI 7 kD.nd (yN (zB (yZ [118,97,114]) (zB (zO (zA 1) zF) zD)))) (zC (zI 8 kD.nd rB) (zC (wA (gF a.units (yO (xZ (zA 3) zF) zF) zF) (zC (zI 8 kD.nd (zO (zA 2) (yO (xZ (zA 3) zF) (yW wC dW rfl d cA (zB (zA 2) zD))))) (zK (zI 7 kD.nd (yN (zB (yZ [105,115]) (zB (zA 8) zD)))))) xA) (zC (zI 9 kD.nd (yY (zB (yN (zB (zA 4) (zB (yN (zB (zA 7) (zB (yN (zB (yZ [118,97,114]) (zB (zO (zA 1) zF) zD))) zD))) zD))) (zB (yN (zB (AB zF (zA 4)) (zB (yN (zB (yN (zB (yZ [118,97,114]) (zB (zO (zA 1) zF) zD))) (zB (zA 6) zD))) zD))) zD)))) (zC (wA (gF a.units (yO (xZ (zA 3) zF) zF) zF) (zK (xH (Cf (zA 9)))) xA) (zC (zI 10 kD.nd (yN zD)) (zC (wA (ED (vW (Nn (zA 8) rB) (pX (gF a.units (yO (xZ (zA 3) zF) zF) zF)))) (zK (zI 10 kD.nd (yN (zB (zO (zA 1) zF) zD)))) xA) (zC (zI 11 kD.nd (zN t (a.mono ↑3) rfl (zB (dB (zA 0) (jB zF) gU) (zB (zN b (a.mono ↑3) rfl (zB (zA 0) (zB zF zD))) (zB (zA 2) zD))))) (zC (zI 12 kD.nd (zN i (a.mono ↑3) rfl (zB (yN (zB (yN (zB zF (zB zF zD))) (zB (yN (zB zF (zB zF zD))) zD))) (zB (yN (zB (zA 10) (zB (jH eW GL rfl n GM (zB (zA 9) zD)) zD))) zD)))) (zC (zI 13 kD.nd (zO (wI (zG Hz) Pu ["_law_one"] [2] (yU (yY (zB (yZ [122,101,98,114,97]) (zB (yZ [121,97,107]) (zB (yZ [119,111,108,102]) (zB (yZ [118,111,108,101]) (zB (yZ [116,97,112,105,114]) zD))))))) rfl (λ_ _ _ _ q=>(xB 0 q)) (λ_ _ _ _=>(dU (sS a.units (zA 0) (zA 1)))) (λ_ _ _ _=>(zA 0))) zF)) (zC (wH ë rfl (yU (xN (zA 2) (yY (zB (zA 13) zD)))) (zY 14 kD.nd) (zC (zI 15 kD.nd (Xw rfl rfl j rfl m (zB (zA 10) (zB (yY (zB (zA 14) zD)) zD)))) (zC (zI 16 kD.nd (zN o (a.mono ↑3) rfl (zB (zA 11) (zB (zA 4) (zB (zO (yY (zB (zA 8) (zB (zA 14) zD))) (yW wC dW rfl d cA (zB (zA 10) zD))) (zB (zA 5) zD)))))) (zC (zI 17 kD.nd (zN v (a.mono ↑3) rfl (zB (zA 12) (zB (zA 11) (zB (zA 15) zD))))) (zK (wA (ED (B3 (Bv (bC (yW Nu Q6 rfl r QF (zB (zA 17) (zB (zCR rfl y Wh) zD))))) (Mv (NA a.units (zA 17) (zA 16))))) (zK (zW vV)) xA)))))) (zK (zW vV))))))))))))))))))))
    exact h
end
def all_mk{l:PySem.W.OpenLaw}{K:R0}(X:K.In h)(J:h.Ns mainGlobals mg)(a0:mg "law"=some (.ref fa))
  (D0:DefM K mg "names_in" FR)
  (D1:DefM K mg "term_with" CQ)
  (D2:DefM K mg "fitting" JM)
  (D3:DefM K mg "parts_of" FS)
  (D4:DefM K mg "names_among" fK)
  (D5:DefM K mg "cells_by_table" eQ)
  (D6:DefM K mg "ways_of" DS)
  (D10:DefM K mg "holds" XB)
  (D11:DefM K mg "check_tables_once" cF)
  (D12:DefM K mg "free_names" mP)
  (D13:DefM K mg "key_names" CU)
  (D14:DefM K mg "known_at" eT)
  (D15:DefM K mg "have_in_common" bV)
  (D16:DefM K mg "swayed_from" cQ)
  (D17:DefM K mg "sways" MD)
  (D18:DefM K mg "ring" Ds)
  (D19:DefM K mg "in_turn" eU)
  (D20:DefM K mg "is_new" PM)
  (D21:DefM K mg "stand_in" FU)
  (D22:DefM K mg "parts_for" qW)
  (D23:DefM K mg "put_otherwise" lL)
  (D24:DefM K mg ŕ pN)
  (D25:DefM K mg Œ pO)
  (D26:DefM K mg Ő gB)
  (D27:DefM K mg Ř uP)
  (D28:DefM K mg ř uQ)
  (D29:DefM K mg Ŗ fN)
  (D30:DefM K mg ś CV)
  (D31:DefM K mg Ś aC)
  (D32:DefM K mg Ŝ iE)
  (D33:DefM K mg "law" Hz)
   (q0p:PySem.W.nsIn K mainGlobals "Reading"=some (some (.ref q0a)))
  (q1g:(PySem.W.clsIn K q0a).map (·.name)=some "Reading") (Lc:Cls K q0a)
  (LH:NoAttr K q0a "asked")
  (LI:NoAttr K q0a "cells")
  (LE:NoAttr K q0a "found")
  (LF:NoAttr K q0a "steps")
  {yQ:Addr}   
  (Lb:Mk K q0a yQ)
  (q0h:K.lookup yQ=some ⟨q0y,q0z,.func (PySem.W.fnOf "__init__" "Reading.__init__" (eX (inClass (top 13) 0)) (cR (inClass (top 13) 0)) (zG (inClass (top 13) 0)) .none q1a q1b q1c q1d q0f q1e),q1f⟩) (q0i:PySem.W.codeIn K q0f "Reading.__init__"=true) (q0j:PySem.W.keepIn K (.ref yQ)=true)
  {yB:Addr}   
  (q0o:Meth K q0a "enter" yB)
  (q0l:K.lookup yB=some ⟨q1h,q1i,.func (PySem.W.fnOf "enter" "Reading.enter" (eX (inClass (top 13) 1)) (cR (inClass (top 13) 1)) (zG (inClass (top 13) 1)) .none q1j q1k q1l q1m q0k q1n),q1o⟩) (q0m:PySem.W.codeIn K q0k "Reading.enter"=true) (q0n:PySem.W.keepIn K (.ref yB)=true)
  {yF:Addr}   
  (q0g:Meth K q0a "holds_with" yF)
  (q0c:K.lookup yF=some ⟨q0q,q0r,.func (PySem.W.fnOf "holds_with" "Reading.holds_with" (eX (inClass (top 13) 2)) (cR (inClass (top 13) 2)) (zG (inClass (top 13) 2)) .none q0s q0t q0u q0v q0b q0w),q0x⟩) (q0d:PySem.W.codeIn K q0b "Reading.holds_with"=true) (q0e:PySem.W.keepIn K (.ref yF)=true)
  (Tp:PySem.W.nsIn K mainGlobals "all"=some none)
  (Az:PySem.W.nsIn K mainGlobals "any"=some none)
  (Dv:PySem.W.nsIn K mainGlobals "bool"=some none)
  (CW:PySem.W.nsIn K mainGlobals "dict"=some none)
  (iG:PySem.W.nsIn K mainGlobals "enumerate"=some none)
  (uS:PySem.W.nsIn K mainGlobals "isinstance"=some none)
  (jR:PySem.W.nsIn K mainGlobals "len"=some none)
  (pQ:PySem.W.nsIn K mainGlobals "list"=some none)
  (Tq:PySem.W.nsIn K mainGlobals "min"=some none)
  (xY:PySem.W.nsIn K mainGlobals "range"=some none)
  (FV:PySem.W.nsIn K mainGlobals "reversed"=some none)
  (PV:PySem.W.nsIn K mainGlobals "sorted"=some none)
  (qX:PySem.W.nsIn K mainGlobals "tuple"=some none)
  (Ay:PySem.W.nsIn K mainGlobals "zip"=some none)
  : ∃fd:FuncData,(∀ s  v ,BindsTo s fd ⟨[v],[]⟩ [(Ň,v)])/\ ∀base:Heap,K.In base->base.Ns mainGlobals mg->FnOk l.prog w K mg base PZ 9 fa fd [Ň] (RV K ZQ):=by
 have T:=PySem.W.mg_none_of X J Tp;have N:=PySem.W.mg_none_of X J Az;have O:=PySem.W.mg_none_of X J Dv;have G:=PySem.W.mg_none_of X J CW;have y:=PySem.W.mg_none_of X J iG;have E:=PySem.W.mg_none_of X J uS;have n:=PySem.W.mg_none_of X J jR;have A:=PySem.W.mg_none_of X J pQ;have S:=PySem.W.mg_none_of X J Tq;have e:=PySem.W.mg_none_of X J xY;have H:=PySem.W.mg_none_of X J FV;have L:=PySem.W.mg_none_of X J PV;have D:=PySem.W.mg_none_of X J qX;have M:=PySem.W.mg_none_of X J Ay;have i:=UB (st:=inClass (top 13) 0) q0h q0i q0j;have t:=i.binds (ps:=xS) λ_ _ _ _ _ _ us U=>match us,U with |[_,_,_],_=>rfl
 have j:=UB (st:=inClass (top 13) 1) q0l q0m q0n;have z:=j.binds (ps:=["self","trail","values"]) λ_ _ _ _ _ _ us U=>match us,U with |[_,_,_],_=>rfl
 have d:=UB (st:=inClass (top 13) 2) q0c q0d q0e;have o:=d.binds (ps:=["self","values"]) λ_ _ _ _ _ _ us U=>match us,U with |[_,_],_=>rfl
 have a:OC K "Reading" q0a:=⟨q0p,q1g,Lc⟩
 have m: ∃C,OC K "Reading" C/\NoAttr K C "asked":=⟨q0a,a,LH⟩
 have k: ∃C,OC K "Reading" C/\NoAttr K C "cells":=⟨q0a,a,LI⟩
 have b: ∃C,OC K "Reading" C/\NoAttr K C "found":=⟨q0a,a,LE⟩
 have c: ∃C,OC K "Reading" C/\NoAttr K C "steps":=⟨q0a,a,LF⟩
 refine V5 D33 a0 (λ_ _ _ _ _ _ s v=>.of_eq rfl) λbase f fd F=>?_;have G0:=Ap (P:=l.prog) (w:=w) (base:=base) D0 A;have G1:=XA (P:=l.prog) (w:=w) (base:=base) D1;have G2:=Dq (P:=l.prog) (w:=w) (base:=base) D2 M;have G3:=Aq (P:=l.prog) (w:=w) (base:=base) D3;have G4:=PH (P:=l.prog) (w:=w) (base:=base) D4 G0;have G5:=HX (P:=l.prog) (w:=w) (base:=base) D5;have G6:=Dr (P:=l.prog) (w:=w) (base:=base) D6 G1 G2 G;have r:=EA (P:=l.prog) (w:=w) (mg:=mg) (base:=base) i G3 c e n G4 m G5 k b;have I:InB l.prog w K mg base 3 3 "Reading" xC:=⟨q0a,yQ,_,_,a,PySem.W.mg_of X J q0p,Lb,r,t⟩
 have u:=JN (P:=l.prog) (w:=w) (mg:=mg) (base:=base) j n c m D b G6 k;have B:zBD l.prog w K mg base "enter" 3 3 "Reading" zX:=⟨q0a,yB,_,_,a,q0o,u,z⟩
 have p:=vL (P:=l.prog) (w:=w) (mg:=mg) (base:=base) d B c b;have q:zBD l.prog w K mg base "holds_with" 4 2 "Reading" yR:=⟨q0a,yF,_,_,a,q0g,p,o⟩
 have ak:=Tl (P:=l.prog) (w:=w) (base:=base) D10 I q;have ah:=CS (P:=l.prog) (w:=w) (base:=base) D11 y;have Q:=QT (P:=l.prog) (w:=w) (base:=base) D12 G0;have aj:=XC (P:=l.prog) (w:=w) (base:=base) D13 Q;have af:=Ar (P:=l.prog) (w:=w) (base:=base) D14 aj G n T Q;have az:=IA (P:=l.prog) (w:=w) (base:=base) D15 N;have aq:=PK (P:=l.prog) (w:=w) (base:=base) D16 af Q e n az A;have Z:=To (P:=l.prog) (w:=w) (base:=base) D17 ah e n aq L;have ay:=B1 (P:=l.prog) (w:=w) (base:=base) D18 Z;have au:=Dt (P:=l.prog) (w:=w) (base:=base) D19 Z n A e N;have Y:=Ky (P:=l.prog) (w:=w) (base:=base) D20;have aD:=Au (P:=l.prog) (w:=w) (base:=base) D21 Y;have ab:=XD (P:=l.prog) (w:=w) (base:=base) D22 G0 aD D y Y;have ao:=JO (P:=l.prog) (w:=w) (base:=base) D23 ay A au ab G0 H;have ai:=LB (P:=l.prog) (w:=w) (base:=base) D24 n;have aa:=LC (P:=l.prog) (w:=w) (base:=base) D25 e;have ae:=tP (P:=l.prog) (w:=w) (base:=base) D26 e aa;have ax:=QU (P:=l.prog) (w:=w) (base:=base) D27 ae e;have av:=QV (P:=l.prog) (w:=w) (base:=base) D28 e;have aw:=PN (P:=l.prog) (w:=w) (base:=base) D29 e aa n S;have ag:=XE (P:=l.prog) (w:=w) (base:=base) D30 A av n;have ar:=QW (P:=l.prog) (w:=w) (base:=base) D31;have aF:=XF (P:=l.prog) (w:=w) (base:=base) D32 ar;exact zAX (P:=l.prog) (w:=w) (base:=base) F ax ai aw n ag ao D G M aF ak O E
def walk{l:PySem.W.OpenLaw}{K:Params->PySem.W.Frag}(p:l.most=some 63)(b:d.params.defaults=[])
  (hY: ∀ w  h ,YP w h->(K w.params).In h)
  (F: ∀ w  mg  c  h ,(K w.params).In h->h.Ns mainGlobals mg->mg d.name=some (.ref c)->
   ∃e:FuncData,(∀ s  u ,BindsTo s e ⟨[u],[]⟩ [(Ň,u)])/\ ∀base:Heap,(K w.params).In base->base.Ns mainGlobals mg->FnOk l.prog w (K w.params) mg base PZ 9 c e [Ň] (RV (K w.params) ZQ)):
  PySem.W.WalkO q loose XP YP l.row.toRowW d [] (λf o=>PySem.call f o):=
 L2.walk_of (n:=63) (k:=9) (x:=Ň) (CX:=λ_=>PZ) (sp:=λw=>RV (K w.params) ZQ) p ↑3 b ⟨rfl,by decide,by decide⟩ hY F
  (λw H a i r j m=>Oc j m (Ti i r)) λ_ _ _ _ _ z=>z
end My
end M
end L2
namespace PySem.W.Fast
def tw17607044843168521533:=0
theorem te17607044843168521533:tw17607044843168521533=0:=rfl
def tw1549168402030910892:=0
theorem te1549168402030910892:tw1549168402030910892=0:=rfl
def tw1352252783603599482:=0
theorem te1352252783603599482:tw1352252783603599482=0:=rfl
def tw18172595517085807768:=0
theorem te18172595517085807768:tw18172595517085807768=0:=rfl
def tw10793570351651504579:=0
theorem te10793570351651504579:tw10793570351651504579=0:=rfl
def tw12216769696863681710:=0
theorem te12216769696863681710:tw12216769696863681710=0:=rfl
def tw1936260735984220528:=0
theorem te1936260735984220528:tw1936260735984220528=0:=rfl
def tw15724907240286589393:=0
theorem te15724907240286589393:tw15724907240286589393=0:=rfl
def tw2154628635382213305:=0
theorem te2154628635382213305:tw2154628635382213305=0:=rfl
def tw6015662366168276097:=0
theorem te6015662366168276097:tw6015662366168276097=0:=rfl
def tw15153943190556940860:=0
theorem te15153943190556940860:tw15153943190556940860=0:=rfl
def tw4532794827022629617:=0
theorem te4532794827022629617:tw4532794827022629617=0:=rfl
def tw14628186700297370628:=0
theorem te14628186700297370628:tw14628186700297370628=0:=rfl
def tw6197663027771524648:=0
theorem te6197663027771524648:tw6197663027771524648=0:=rfl
def tw1289894312238119159:=0
theorem te1289894312238119159:tw1289894312238119159=0:=rfl
def tw17609419479976327235:=0
theorem te17609419479976327235:tw17609419479976327235=0:=rfl
def tw7841990284381317927:=0
theorem te7841990284381317927:tw7841990284381317927=0:=rfl
def tw11565547832289518145:=0
theorem te11565547832289518145:tw11565547832289518145=0:=rfl
def tw14736164002959056505:=0
theorem te14736164002959056505:tw14736164002959056505=0:=rfl
def tw14900285758904989272:=0
theorem te14900285758904989272:tw14900285758904989272=0:=rfl
def tw13488122348257608290:=0
theorem te13488122348257608290:tw13488122348257608290=0:=rfl
def tw11208768196893222842:=0
theorem te11208768196893222842:tw11208768196893222842=0:=rfl
def tw1257307676921269308:=0
theorem te1257307676921269308:tw1257307676921269308=0:=rfl
def tw10433958671156122766:=0
theorem te10433958671156122766:tw10433958671156122766=0:=rfl
def tw6143366905686351535:=0
theorem te6143366905686351535:tw6143366905686351535=0:=rfl
def tw6962600252315999160:=0
theorem te6962600252315999160:tw6962600252315999160=0:=rfl
def tw17114447022407453573:=0
theorem te17114447022407453573:tw17114447022407453573=0:=rfl
def tw14751979015314292053:=0
theorem te14751979015314292053:tw14751979015314292053=0:=rfl
def tw6706393909207998658:=0
theorem te6706393909207998658:tw6706393909207998658=0:=rfl
def tw11759556671705922335:=0
theorem te11759556671705922335:tw11759556671705922335=0:=rfl
def tw12468123910742713537:=0
theorem te12468123910742713537:tw12468123910742713537=0:=rfl
def tw13831035809958176644:=0
theorem te13831035809958176644:tw13831035809958176644=0:=rfl
def tw17060277561736169734:=0
theorem te17060277561736169734:tw17060277561736169734=0:=rfl
end PySem.W.Fast
open PySem PySem.W PyProof.Rows
set_option maxRecDepth 100000 in
set_option maxHeartbeats 0 in
theorem PySem.Challenge.cw_mendsure_k76_two_atoms_in_a_row_holds : PySem.Challenge.rw_mendsure_k76_two_atoms_in_a_row.Holds := by
  w_on; o_law; k_head; (case hw => w_witness2)
  k_fill
  refine L2.M.My.walk (l := PySem.Challenge.rw_mendsure_k76_two_atoms_in_a_row) rfl rfl (fun w h Y => PySem.W.kIn_of Y) ?F
  case F =>
    intro w mg b h KX G a
    refine' L2.M.My.all_mk KX G a ?_ ?_ ?_ ?_ ?_ ?_ ?_ ?_ ?_ ?_ ?_ ?_ ?_ ?_ ?_ ?_ ?_ ?_ ?_ ?_ ?_ ?_ ?_ ?_ ?_ ?_ ?_ ?_ ?_ ?_ ?_ ?_ ?_ ?_ ?_ ?_ ?_ ?_ ?_ ?_ ?_ ?_ ?_ ?_ ?_ ?_ ?_ ?_ ?_ ?_ ?_ ?_ ?_ ?_ ?_ ?_ ?_ ?_ ?_ ?_ ?_ ?_ ?_ ?_
    any_goals first | (exact L2.M.def_mk (by k_is) (by k_is) (by k_is) (by k_is) KX G) | (k_is) | (exact L2.M.nm_of (by k_is) (by rfl)) | (exact ⟨by k_is, by k_is, by k_is, by k_is⟩) | (show PySem.W.findIn _ _ _ = _; k_is) | (exact ⟨by k_is, by k_is, by k_is⟩) | (show PySem.W.nsIn _ _ _ = _; k_is)
