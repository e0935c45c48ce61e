import PyProof.Rows.All
import Wide.All
import OpenK.AllK
import Wide.FinOn
import Lean
import PyProof.EqAt
import PyProof.EqKinds
import PyProof.TupleCall
import PySem.Challenge.RW_mendsure_k34_answers_of_turned_questions
set_option Elab.async false
set_option linter.all false
set_option hygiene false
set_option compiler.extract_closed false
local macro_rules|`(↑0)=>`(s.heap.objs.size)
local macro_rules|`(↑1)=>`(S.length)
local macro_rules|`(↑2)=>`(Inv X pins σ H s)
local macro_rules|`(↑3)=>`((e::es).length+([]:List Keyword).length+(if([]:List Keyword).isEmpty then 0 else 1)<30)
set_option maxRecDepth 100000
noncomputable section
set_option bootstrap.genMatcherCode false
open List (all_map all_toArray cons_lt_cons_iff drop_eq_getElem_cons drop_of_length_le drop_take drop_zero ext_getElem? filterMap_cons filterMap_cons_some find?_cons flatten_cons forIn_cons forIn_nil forIn_toArray getElem?_append_left getElem?_append_right getElem?_cons_succ getElem?_drop getElem?_eq_none getElem?_map getElem?_of_mem getElem?_set_ne getElem?_set_self getElem?_take_of_lt getElem_drop getElem_inj getElem_mem getElem_take length_filterMap_le length_range length_zip lookup_cons map_congr_left map_drop map_take mem_append_left mem_filterMap mem_map_of_mem mem_of_getElem? mem_of_mem_take mem_range nodup_append nodup_cons nodup_nil of_mem_zip pairwise_append pairwise_map replicate_succ set_append_left set_append_right set_cons_succ take_append_drop take_length take_of_length_le zipIdx_cons zipIdx_nil zip_cons_cons zip_nil_left)
open Nat (add_assoc le_of_eq le_of_lt le_succ lt_irrefl lt_of_le_of_lt lt_trans min_eq_left min_eq_right mul_le_mul sub_self zero_le)
abbrev à:=@Nat.le_refl
abbrev á:=@List.getElem?_append_left
abbrev â:=@PySem.Heap.lt_size
abbrev ã:=@PySem.Heap.get?_push_size
abbrev ä:=@Option.some.inj
abbrev å:=@List.getElem?_append_right
abbrev æ:=@List.map_cons
abbrev ç:=@Nat.lt_of_lt_of_le
abbrev è:=@List.mem_of_getElem?
abbrev é:=@List.mem_append
abbrev ê:=@List.pairwise_append
abbrev ë:=@Nat.ne_of_lt
abbrev ì:=@PySem.wpAny_call_entry
abbrev í:=@Array.length_toList
abbrev î:=@PySem.wpAny_callSpecial?_slot
abbrev ï:=@List.map_append
abbrev ð:=@PySem.wpAny_field
abbrev ñ:=@Option.isSome_iff_exists
abbrev ò:=@Array.getElem?_toList
abbrev ó:=@List.mem_append_right
abbrev ô:=@PySem.wpAny_setField_rec
abbrev õ:=@List.length_drop
abbrev ö:=@List.getElem?_map
abbrev ø:=@Nat.le_trans
abbrev ù:=@Nat.ne_of_gt
abbrev ú:=@PySem.wpAny_holding
abbrev û:=@PySem.wpAny_mono
abbrev ü:=@Array.toList_append
abbrev ý:=@PySem.Heap.get?_update_other
abbrev þ:=@PySem.wpAny_loadPart'
abbrev ÿ:=@List.length_nil
abbrev Ā:=@List.take_of_length_le
abbrev ā:=@Classical.choose_spec
abbrev Ă:=@List.mem_append_left
abbrev ă:=@Nat.zero_add
abbrev Ą:=@List.length_set
abbrev ą:=@List.all_eq_true
abbrev Ć:=@PyProof.Rows.wpS_forRange
abbrev ć:=@PySem.wpAny_newObj_type
abbrev Ĉ:=@PySem.wpAny_attempt
abbrev ĉ:=@PySem.F.slot_zip_next
abbrev Ċ:=@List.length_replicate
abbrev ċ:=@List.length_filter_le
abbrev Č:=@PyProof.Rows.callWith_type1
abbrev č:=@PySem.wpAny_seqItems
abbrev Ď:=@Int.toNat_natCast
abbrev ď:=@PySem.Heap.SameBut.update
abbrev Đ:=@List.mem_filter
abbrev đ:=@Array.getElem?_eq_getElem
abbrev Ē:=@Nat.le_add_right
abbrev ē:=@List.take_append_drop
abbrev Ĕ:=@List.length_range
abbrev ĕ:=@List.map_map
abbrev Ė:=@List.getElem?_cons_succ
abbrev ė:=@PySem.sizeLine_eq
abbrev Ę:=@PySem.wpAny_rule
abbrev ę:=@List.getElem?_set_self
abbrev Ě:=@of_decide_eq_true
abbrev ě:=@PySem.wpAny_dictEntries
abbrev Ĝ:=@Array.size_push
abbrev ĝ:=@PySem.wpAny_typeOf
abbrev Ğ:=@List.cons_append
abbrev ğ:=@PySem.wpAny_isInstance
abbrev Ġ:=@List.set_append_right
abbrev ġ:=@PySem.wpAny_notOrdered_dict
abbrev Ģ:=@List.map_congr_left
abbrev ģ:=@List.mem_map_of_mem
abbrev Ĥ:=@PyProof.Rows.slot_tuple_getitem
abbrev ĥ:=@List.getElem?_set_ne
abbrev Ħ:=@List.drop_eq_getElem_cons
abbrev ħ:=@PySem.wpAny_typeNameOfWhole_itemiter
abbrev Ĩ:=@PySem.wpAny_typeNameOfWhole_keyiter
abbrev ĩ:=@List.getElem?_take_of_lt
abbrev Ī:=@List.length_filterMap_le
abbrev ī:=@List.filterMap_cons
abbrev Ĭ:=@List.replicate_succ
abbrev ĭ:=@PySem.Heap.size_push
abbrev Į:=@Nat.lt_irrefl
abbrev į:=@List.nodup_append
abbrev İ:=@List.nil_append
abbrev ı:=@List.set_append_left
abbrev Ĳ:=@List.zip_cons_cons
abbrev ĳ:=@PySem.F.slot_tuple_iterator_next
abbrev Ĵ:=@Array.perm_iff_toList_perm
abbrev ĵ:=@PySem.wpAny_truthy_bool
abbrev Ķ:=@PySem.F.args_zip_next_1
abbrev ķ:=@List.getElem?_eq_none_iff
abbrev ĸ:=@List.length_zip
abbrev Ĺ:=@PySem.Around.under_plainId
abbrev ĺ:=@List.filterMap_cons_none
abbrev Ļ:=@PySem.F.entry_zip_next
abbrev ļ:=@beq_eq_false_iff_ne
abbrev Ľ:=@List.filterMap_cons_some
abbrev ľ:=@PySem.wpAny_getItem_str_slice
abbrev Ŀ:=@List.foldl_cons
abbrev ŀ:=@PySem.codeAny_builtin
abbrev Ł:=@PySem.wpAny_dictEpoch
abbrev ł:=@List.lookup_cons
abbrev Ń:=PySem.Shared
abbrev ń:=PySem.Value
abbrev Ņ:=PySem.Around
abbrev ņ:=PySem.Program
def q8{n:Nat}:n<=n:=Nat.le_refl n
def xF0:¬(false=true):=Bool.false_ne_true

abbrev dF0:=@decide_eq_false
abbrev dT0:=@decide_eq_true
abbrev iP:=@if_pos
abbrev iN:=@if_neg
abbrev mC:=@List.mem_cons
abbrev lC:=@List.length_cons
abbrev mO:=@List.mem_cons_of_mem
abbrev lM:=@List.length_map
abbrev nM:=@List.not_mem_nil
abbrev mS:=@List.mem_singleton
abbrev mF0:=@List.mem_cons_self
abbrev fT:=@Bool.false_eq_true
abbrev sA0:=@List.size_toArray
abbrev lS:=@List.length_singleton
abbrev eL:=@Int.emod_lt_of_pos
abbrev eN:=@Int.emod_nonneg
abbrev aE:=@Bool.and_eq_true
abbrev iF:=@if_false
abbrev aN:=@List.append_nil
abbrev lA:=@List.length_append
abbrev gS:=@List.getElem?_eq_some_iff
abbrev gE:=@List.getElem?_eq_getElem
abbrev wB:=@PySem.wpAny_bind
abbrev wP:=@PySem.wpAny_pure
abbrev hP0:=@PySem.Heap.get?_push_of_some
abbrev mM:=@List.mem_map
abbrev lT:=@List.length_take
abbrev aA:=@List.append_assoc
abbrev VP:=PySem.Value->PySem.Shared->Prop
abbrev J9:=PySem.W.Frag
abbrev J8:=List PySem.Expr
abbrev J7:=Option Int
abbrev J6:=List Bool
abbrev J5:=List (PySem.Addr×PySem.Obj)
abbrev H9:=PySem.Str->Option PySem.Value
abbrev C0:=List PySem.Str
abbrev B9:=List PySem.Addr
abbrev B0:=Array PySem.Value
abbrev A0:=List PySem.Value
abbrev Za:=List Int
abbrev Tk:=List (Int×Int)
abbrev Db:=List Nat
abbrev Ch:=List (List Nat)
set_option bootstrap.genMatcherCode true in
local macro_rules
 |`(#[0])=>`(by lia)
namespace L2
open PySem PySem.Spec PyProof.Rows
variable{pins:J5}{E:VP}{t':Nat}{pos:Pos}{us:A0}{tg:Expr}
abbrev Key:=Sum Int Str
noncomputable def mU:Key->ń->Bool
 |.inl k,v=>Value.isInt k v
 |.inr x,v=>Value.isStrOf x v
noncomputable def Wy(w:World):Key->Int
 |.inl k=>hashInt k
 |.inr x=>hashStr w x
def yC: ∀{k:Key}{v:ń},mU k v=true->(∃i t,k=Sum.inl i/\v=Value.int i t)\/(∃x t,k=Sum.inr x/\v=Value.str x t)
 |.inl i,v,h=>by obtain⟨t,e⟩:=Value.isInt_shape h;exact .inl ⟨i,t,rfl,e⟩
 |.inr x,v,h=>by obtain⟨t,e⟩:=Value.isStrOf_shape h;exact .inr ⟨x,t,rfl,e⟩
def XJ(i:Int)(t:Tok):mU (.inl i) (.int i t)=true:=by simp[mU,Value.isInt]
def XM(x:Str)(t:Tok):mU (.inr x) (.str x t)=true:=by simp[mU,Value.isStrOf]
def Pa(a b:Int):decide ((Sum.inl a:Key)=Sum.inl b)=(a==b):=by
 by_cases e:a=b
 .subst e;simp
 .have h: ¬(Sum.inl a:Key)=Sum.inl b:=λq=>e (Sum.inl.inj q);rw[dF0 h];exact(ļ.mpr e).symm
def Pb(a b:Str):decide ((Sum.inr a:Key)=Sum.inr b)=decide (a=b):=by
 by_cases e:a=b
 .subst e;simp
 .have h: ¬(Sum.inr a:Key)=Sum.inr b:=λq=>e (Sum.inr.inj q);rw[dF0 h,dF0 e]
def Pc(a:Int)(b:Str):decide ((Sum.inl a:Key)=Sum.inr b)=false:=dF0 (λq=>nomatch q)
def Pd(a:Str)(b:Int):decide ((Sum.inr a:Key)=Sum.inl b)=false:=dF0 (λq=>nomatch q)
def kZ(prog:ņ)(w:World):PySem.KeyKind prog w Key where
 is:=mU
 hash:=Wy w
 inj:=λv a b ha hb=>by
  rcases yC ha with⟨i,t,rfl,rfl⟩|⟨x,t,rfl,rfl⟩
  .rcases yC hb with⟨j,u,rfl,e⟩|⟨y,u,rfl,e⟩
   .injection e with e1 _;rw[e1]
   .exact nomatch e
  .rcases yC hb with⟨j,u,rfl,e⟩|⟨y,u,rfl,e⟩
   .exact nomatch e
   .injection e with e1 _;rw[e1]
 byValue:=λk v h=>by rcases yC h with⟨i,t,rfl,rfl⟩|⟨x,t,rfl,rfl⟩<;>rfl
 pyHash:=λhv h=>by
  rcases yC hv with⟨i,t,rfl,rfl⟩|⟨x,t,rfl,rfl⟩
  .exact wpAny_pyHash_int h
  .exact wpAny_pyHash_str h
 eqBool:=λhu hv h=>by
  rcases yC hu with⟨i,t,rfl,rfl⟩|⟨x,t,rfl,rfl⟩
  .rcases yC hv with⟨j,u,rfl,rfl⟩|⟨y,u,rfl,rfl⟩
   .rw[Pa]at h;exact wpAny_eqBool_int h
   .rw[Pc]at h;exact SeqAt.EqAt.int_str i t y u _ _ _ _ h
  .rcases yC hv with⟨j,u,rfl,rfl⟩|⟨y,u,rfl,rfl⟩
   .rw[Pd]at h;exact SeqAt.EqAt.str_int x t j u _ _ _ _ h
   .rw[Pb]at h;exact wpAny_eqBool_str h
 «strs»:=λk x t v h=>by
  rcases yC h with⟨i,u,rfl,e⟩|⟨y,u,rfl,e⟩
  .exact nomatch e
  .injection e with e1 _
   subst e1;cases v<;>rfl
def BG(prog:ņ)(w:World)(i:Int)(t:Tok):(kZ prog w).is (.inl i) (.int i t)=true:=XJ i t
def qE(prog:ņ)(w:World)(x:Str)(t:Tok):(kZ prog w).is (.inr x) (.str x t)=true:=XM x t
inductive V where
 |non|bl (b:Bool)|int (i:Int)|str (x:Str)|byt (b:Array UInt8)|flt (b:UInt64)|ref (a:Addr)|ty (n:String)
 deriving DecidableEq
variable{v:V}
def RelV:V->ń->Prop
 |.non,u=>u=Value.none
 |.bl b,u=>u=Value.bool b
 |.int i,u=> ∃t,u=Value.int i t
 |.str x,u=> ∃t,u=Value.str x t
 |.byt b,u=> ∃t,u=Value.bytes b t
 |.flt b,u=> ∃t,u=Value.float b t
 |.ref a,u=>u=Value.ref a
 |.ty n,u=>u=Value.type n
abbrev Vals:List V->List Value->Prop:=Paired RelV
def Vals.length{xs:List V}(r:Vals xs us):xs.length=us.length:=Paired.length r
theorem Vals.get: ∀{xs:List V}{us:A0}{i:Nat}{x:V},Vals xs us->xs[i]? =some x-> ∃u,us[i]? =some u/\RelV x u
 |_,_,_,_,.nil,e=>by simp at e
 |_,_,0,_,.cons r _,e=>by simp at e;subst e;exact⟨_,rfl,r⟩
 |_,_,i+1,x,.cons _ t,e=>by obtain⟨u,h1,a⟩:=Vals.get t (by simpa using e);exact⟨u,by simpa using h1,a⟩
theorem Vals.set{x:V}{u:ń}(r:RelV x u): ∀{xs:List V}{us:A0}(i:Nat),Vals xs us->Vals (xs.set i x) (us.set i u)
 |_,_,_,.nil=>.nil
 |_,_,0,.cons _ t=>.cons r t
 |_,_,i+1,.cons q t=>.cons q (Vals.set r i t)
theorem Vals.append: ∀{xs ys:List V}{us ws:A0},Vals xs us->Vals ys ws->Vals (xs++ys) (us++ws)
 |_,_,_,_,.nil,s=>s
 |_,_,_,_,.cons r t,s=>.cons r (Vals.append t s)
theorem Vals.take: ∀{xs:List V}{us:A0}(n:Nat),Vals xs us->Vals (xs.take n) (us.take n)
 |_,_,0,_=>.nil
 |_,_,_+1,.nil=>.nil
 |_,_,n+1,.cons r t=>.cons r (Vals.take n t)
theorem Vals.drop: ∀{xs:List V}{us:A0}(n:Nat),Vals xs us->Vals (xs.drop n) (us.drop n)
 |_,_,0,r=>r
 |_,_,_+1,.nil=>.nil
 |_,_,n+1,.cons _ t=>Vals.drop n t
theorem Vals.none_of: ∀{xs:List V}{us:A0}{i:Nat},Vals xs us->xs[i]? =none->us[i]? =none:=λ{xs us i} r e=>by have h1:=r.length;have a:=ķ.mp e;exact ķ.mpr #[0]
def Wz:Option V->Option ń->Prop
 |some v,some u=>RelV v u
 |none,none=>True
 |_,_=>False
def KV{a:Type}:List (a×V)->List (a×ń)->Prop:=Paired λ(p:a×V) (q:a×ń)=>p.1=q.1/\RelV p.2 q.2
noncomputable def kV:Key->V
 |.inl i=>.int i
 |.inr x=>.str x
inductive HO where
 |lst (xs:List V)
 |tup (xs:List V)
 |dK (kvs:List (Key×V))|dT (kvs:List (List Key×V))
 |set (S:Int->Bool) (n:Nat)
 |ins (C dx:Addr) (fs:List (Str×V))
 |own (x:Addr)
 |xd (fs:List (Str×V))
 |met (f x:Addr)
 |rng (lo hi:Int)
 |frz (o:Obj) (u:HO)
 |tbl (ps:B0)
 |ext (φ:Heap->Prop)
variable{o:HO}
abbrev Hp:=Addr->Option HO
variable{H:Hp}
noncomputable def wC(H:Hp)(a:Addr)(o:HO):Hp:=λb=>if b=a then some o else H b
def zT{a:Addr}:wC H a o a=some o:=by unfold wC;rw[iP rfl]
def zL{a b:Addr}(h:b≠a):wC H a o b=H b:=by unfold wC;rw[iN h]
def zQ{a b:Addr}(h:H a=some o)(h':H b=none):a≠b:=by intro e;subst e;rw[h]at h';cases h'
section
variable(P:ņ)(w:World)
def ObjOk(H:Hp)(h:Heap)(a:Addr):HO->Prop
 |.lst xs=>xs.length<=sizeLine/\ ∃(its:A0)(n:Nat),Vals xs its/\h.get? a=some {cls:=.type "list",data:=.seq its.toArray n}
 |.tup xs=>xs.length<=sizeLine/\ ∃its:List ń,Vals xs its/\IsTup h a its.toArray
 |.dK kvs=>kvs.length<=sizeLine/\(a==sysModules)=false/\ ∃vs,KV kvs vs/\h.DictOf (kZ P w) a vs
 |.dT kvs=>kvs.length<=sizeLine/\(a==sysModules)=false/\ ∃xs:List (List Key×Addr×ń),
   Paired (λ(p:List Key×V) (q:List Key×Addr×ń)=>p.1=q.1/\H q.2.1=some (.tup (p.1.map kV))/\RelV p.2 q.2.2) kvs xs/\
   ∃o es ep,h.get? a=some o/\o.ExactDict/\o.data=.dict es ep/\es.toList=xs.map (entryOfKey (tupleKind (kZ P w)))/\(xs.map (·.1)).Nodup
 |.set S n=>h.SetOf (intKind P w) a S n
 |.ins C dx fs=>H dx=some (.own a)/\fs.length<=1000/\dx≠a/\h.get? a=some (PySem.W.instObj C dx)/\
   ∃b,h.Ns1 dx b/\(∀f,Wz (fs.lookup f) (b f))/\PySem.Within b (fs.map (·.1))
 |.own _=> ∃o,h.get? a=some o
 |.xd fs=> ∃b,h.Ns1 a b/\ ∀f,Wz (fs.lookup f) (b f)
 |.rng lo hi=> ∃t u v,h.get? a=some {cls:=.type "range",data:=.fields #[.int lo t,.int hi u,.int 1 v]}
 |.frz o u=>h.get? a=some o/\ObjOk H h a u
 |.tbl ps=>h.get? a=some {cls:=.none,data:=.fields ps}
 |.met f x=>h.get? a=some (PySem.W.methodObj (.ref f) (.ref x))
 |.ext φ=>φ h/\(∃o,h.get? a=some o)/\ ∀h1 c:Heap,φ h1->(∀o,h1.get? a=some o->c.get? a=some o)->φ c
def HOk(H:Hp)(h:Heap):Prop:= ∀a o,H a=some o->ObjOk P w H h a o
end
section
variable{P:ņ}{w:World}{H H':Hp}{h h':Heap}{a:Addr}{o:HO}
def ObjOk.lt(x:ObjOk P w H h a o):a<h.objs.size:=by
 cases o with
 |lst xs=>obtain⟨_,_,_,_,e⟩:=x;exact â e
 |tup xs=>obtain⟨_,_,_,p⟩:=x;exact p.lt
 |dK kvs=>obtain⟨_,_,_,_,o,_,_,e,_⟩:=x;exact â e
 |dT kvs=>obtain⟨_,_,_,_,o,_,_,e,_⟩:=x;exact â e
 |set S n=>obtain⟨o,_,_,_,e,_⟩:=x;exact â e
 |ins C dx fs=>obtain⟨_,_,_,e,_⟩:=x;exact â e
 |own y=>obtain⟨_,e⟩:=x;exact â e
 |xd fs=>obtain⟨_,⟨_,_,_,e,_⟩,_⟩:=x;exact â e
 |rng lo hi=>obtain⟨_,_,_,e⟩:=x;exact â e
 |frz ob u=>obtain⟨e,_⟩:=x;exact â e
 |tbl ps=>exact â x
 |met f y=>exact â x
 |ext φ=>obtain⟨_,⟨_,e⟩,_⟩:=x;exact â e
theorem Paired.mapP{α β:Type}{F G:α->β->Prop}: ∀{c:List α}{l₂:List β},Paired F c l₂->(∀a b,F a b->G a b)->Paired G c l₂
 |_,_,.nil,_=>.nil
 |_,_,.cons r t,f=>.cons (f _ _ r) (Paired.mapP t f)
def ObjOk.stay(x:ObjOk P w H h a o)(k: ∀b u,(b=a\/H b=some (.own a))->h.get? b=some u->h'.get? b=some u)
  (ho: ∀b,H b=some (.own a)->H' b=some (.own a)) (ht: ∀b xs,H b=some (.tup xs)->H' b=some (.tup xs)):ObjOk P w H' h' a o:=by
 induction o with
 |lst xs=>obtain⟨z,its,n,r,e⟩:=x;exact⟨z,its,n,r,k _ _ (.inl rfl) e⟩
 |tup xs=>obtain⟨z,its,r,i,e,c⟩:=x;exact⟨z,its,r,i,k _ _ (.inl rfl) e,c⟩
 |dK kvs=>obtain⟨z,y,vs,r,i,es,ep,e,c⟩:=x;exact⟨z,y,vs,r,i,es,ep,k _ _ (.inl rfl) e,c⟩
 |dT kvs=>
  obtain⟨z,y,xs,r,i,es,ep,e,c⟩:=x;exact⟨z,y,xs,Paired.mapP r λp q z=>⟨z.1,ht _ _ z.2.1,z.2.2⟩,i,es,ep,k _ _ (.inl rfl) e,c⟩
 |set S n=>obtain⟨i,es,ep,t,e,c⟩:=x;exact⟨i,es,ep,t,k _ _ (.inl rfl) e,c⟩
 |ins C dx fs=>
  obtain⟨d,z,ne,e,j,⟨od,es,ep,m,c⟩,r⟩:=x;exact⟨ho _ d,z,ne,k _ _ (.inl rfl) e,j,⟨od,es,ep,k _ _ (.inr d) m,c⟩,r⟩
 |own y=>obtain⟨i,e⟩:=x;exact⟨i,k _ _ (.inl rfl) e⟩
 |xd fs=>obtain⟨j,⟨od,es,ep,e,c⟩,r⟩:=x;exact⟨j,⟨od,es,ep,k _ _ (.inl rfl) e,c⟩,r⟩
 |rng lo hi=>obtain⟨t,u,v,e⟩:=x;exact⟨t,u,v,k _ _ (.inl rfl) e⟩
 |frz i u ih=>obtain⟨e,q⟩:=x;exact⟨k _ _ (.inl rfl) e,ih q⟩
 |tbl ps=>
  have e:=x;exact k a _ (.inl rfl) e
 |met f y=>
  have e:h.get? a=some _:=x;show h'.get? a=some _;exact k a _ (.inl rfl) e
 |ext φ=>obtain⟨p,⟨o,e⟩,st⟩:=x;exact⟨st _ _ p λo q=>k _ _ (.inl rfl) q,⟨o,k _ _ (.inl rfl) e⟩,st⟩
def HOk.lt(x:HOk P w H h)(e:H a=some o):a<h.objs.size:=(x a o e).lt
def HOk.fresh(x:HOk P w H h)(e:h.objs.size<=a):H a=none:=by
 cases q:H a with
 |none=>rfl
 |some u=>exact absurd (ç (x.lt q) e) (Į _)
def HOk.kept(x:HOk P w H h)(k: ∀b u,h.get? b=some u->h'.get? b=some u):HOk P w H h':=λa o e=>
 (x a o e).stay (λb u _ q=>k b u q) (λ_ q=>q) λ_ _ q=>q
def HOk.laid(x:HOk P w H h)(k: ∀b u,h.get? b=some u->h'.get? b=some u)(j:h.objs.size<=a)(new:ObjOk P w (wC H a o) h' a o):HOk P w (wC H a o) h':=λb u e=>by
 have d:=x.fresh j;by_cases i:b=a
 .subst i;rw[zT]at e;cases e;exact new
 .rw[zL i]at e;exact(x b u e).stay (λc v _ q=>k c v q) (λc q=>by rw[zL (zQ q d)];exact q) λc xs q=>by rw[zL (zQ q d)];exact q
end
def Rd(H:Hp)(a:Addr)(u:HO):Prop:=H a=some u\/ ∃o,H a=some (.frz o u)
def Rd.ok{P:ņ}{w:World}{h:Heap}{a:Addr}{u:HO}(r:Rd H a u)(x:HOk P w H h):ObjOk P w H h a u:=by
 rcases r with r|⟨o,r⟩
 .exact x a u r
 .obtain⟨_,q⟩:=x a _ r;exact q
def Pe:Option HO->Prop
 |some (.lst _)=>True
 |some (.dK _)=>True
 |some (.dT _)=>True
 |some (.set _ _)=>True
 |some (.ins _ _ _)=>True
 |some (.ext _)=>True
 |_=>False
section
variable{P:ņ}{w:World}{H:Hp}{h h':Heap}{x e:Addr}{o':HO}
theorem HOk.write(ok:HOk P w H h)(j:Pe (H x))(s:e=x\/H e=some (.own x))(k: ∀b u,b≠e->h.get? b=some u->h'.get? b=some u)(o: ∃u,h'.get? e=some u)
  (new:ObjOk P w (wC H x o') h' x o'):HOk P w (wC H x o') h':=λb u q=>by
 have d: ∀c y,H c=some (.own y)->c≠x:=λc y r z=>by subst z;rw[r]at j;exact j
 have i: ∀c xs,H c=some (.tup xs)->c≠x:=λc xs r z=>by subst z;rw[r]at j;exact j
 by_cases m:b=x
 .subst m;rw[zT]at q;cases q;exact new
 .rw[zL m]at q;by_cases a:b=e
  .have p:H b=some (.own x):=by
    rcases s with z|z
    .exact absurd (a.trans z) m
    .rw[a];exact z
   rw[q]at p;cases p;obtain⟨v,A⟩:=o;exact⟨v,by rw[a];exact A⟩
  .refine(ok b u q).stay (λc v n r=>k c v ?_ r) (λc r=>by rw[zL (d c b r)];exact r) λc xs r=>by rw[zL (i c xs r)];exact r
   rcases n with rfl|n
   .exact a
   .rintro rfl;rcases s with z|z
    .exact d c b n z
    .rw[n]at z;cases z;exact m rfl
end
structure Un(fs ex:B9)(H H':Hp)(h h':Heap):Prop where
 keep: ∀b o,h.get? b=some o->H b=none->b∉fs->b∉ex->h'.get? b=some o
 slot: ∀b o,h.get? b=some o->H b=none->b∈fs->b∉ex-> ∃sl,h'.get? b=some {o with slots:=sl}
 free: ∀b o,h.get? b=some o->H b=none->b∉ex->H' b=none
 there: ∀b o,h.get? b=some o->b∉ex-> ∃o',h'.get? b=some o'
 tups: ∀b xs,H b=some (.tup xs)->H' b=some (.tup xs)
 frzs: ∀b o u,H b=some (.frz o u)->H' b=some (.frz o u)
 tbls: ∀b ps,H b=some (.tbl ps)-> ∃more,H' b=some (.tbl (ps++more))
section
variable{fs ex:B9}{H H1:Hp}{h h1 h':Heap}{a x e:Addr}{o:HO}
def Un.any(u:Un fs ex H H1 h h1){b:Addr}{ob:Obj}(q:h.get? b=some ob)(n:H b=none)(c:b∉ex): ∃sl,h1.get? b=some {ob with slots:=sl}:=by
 by_cases a:b∈fs
 .exact u.slot b ob q n a c
 .exact⟨_,u.keep b ob q n a c⟩
def Un.kept(k: ∀b u,h.get? b=some u->h'.get? b=some u):Un fs ex H H h h':=
 ⟨λb a q _ _ _=>k b a q,λb a q _ _ _=>⟨_,k b a q⟩,λ_ _ _ n _=>n,λb a q _=>⟨a,k b a q⟩,λ_ _ q=>q,λ_ _ _ q=>q,λ_ ps q=>⟨#[],by rw[q];simp⟩⟩
def Un.refl:Un fs ex H H h h:=Un.kept λ_ _ q=>q
def Un.laid(k: ∀b u,h.get? b=some u->h'.get? b=some u)(hp:h.objs.size<=a)(hn:H a=none):Un fs ex H (wC H a o) h h' where
 keep:=λb u q _ _ _=>k b u q
 slot:=λb u q _ _ _=>⟨_,k b u q⟩
 free:=λb u q n _=>by rw[zL (ë (ç (â q) hp))];exact n
 there:=λb u q _=>⟨u,k b u q⟩
 tups:=λb xs q=>by rw[zL (zQ q hn)];exact q
 frzs:=λb u xs q=>by rw[zL (zQ q hn)];exact q
 tbls:=λb ps q=>⟨#[],by rw[zL (zQ q hn),q];simp⟩
def Un.write(c:Pe (H x))(s:e=x\/H e=some (.own x))(k: ∀b u,b≠e->h.get? b=some u->h'.get? b=some u)(d: ∃u,h'.get? e=some u):Un fs ex H (wC H x o) h h':=by
 have m: ∀b,H b=none->b≠x:=λb n z=>by subst z;rw[n]at c;exact c
 have j: ∀b,H b=none->b≠e:=λb n z=>by
  subst z;rcases s with r|r
  .exact m b n r
  .rw[n]at r;cases r
 have i: ∀b u,H b=some u-> ¬Pe (some u)->b≠x:=λb u q p z=>by subst z;rw[q]at c;exact p c
 refine⟨λb u q n _ _=>k b u (j b n) q,λb u q n _ _=>⟨_,k b u (j b n) q⟩,λb u q n _=>by rw[zL (m b n)];exact n,λb u q _=>?_,
  λb xs q=>by rw[zL (i b _ q λz=>z)];exact q,λb u xs q=>by rw[zL (i b _ q λz=>z)];exact q,λb ps q=>⟨#[],by rw[zL (i b _ q λz=>z),q];simp⟩⟩
 by_cases a:b=e
 .subst a;exact d
 .exact⟨u,k b u a q⟩
end
noncomputable def trk(h:Heap)(H:Hp):List Addr:=(List.range h.objs.size).filter λa=>(H a).isSome
def XN(h:Heap)(H:Hp):Heap:=PySem.W.hideAll h (trk h H)
def XO(h:Heap)(H:Hp):(XN h H).objs.size=h.objs.size:=PySem.W.hideAll_size _ _
def Al{h:Heap}{b:Addr}{o:Obj}(e:h.get? b=some o)(n:H b=none):(XN h H).get? b=some o:=
 PySem.W.hideAll_get _ e λa=>by have q:=(Đ.mp a).2;rw[n]at q;simp at q
def Gv{h:Heap}{b:Addr}{o:Obj}(e:(XN h H).get? b=some o):h.get? b=some o/\H b=none:=by
 have a:=PySem.W.of_hideAll _ e;refine⟨a,?_⟩
 cases q:H b with
 |none=>rfl
 |some x=>
  have c:b∈trk h H:=Đ.mpr ⟨mem_range.mpr (â a),by simp[q]⟩;have z:(XN h H).get? b=none:=PySem.W.hideAll_none _ c;rw[z]at e;cases e
noncomputable def Gw(g h:Heap)(L:Addr):List (Addr×Obj):=(List.range h.objs.size).filterMap λa=>if a=L\/(g.get? a).isSome=true then none else(h.get? a).map λo=>(a,o)
def rest(g h:Heap)(L d:Addr):List (Addr×Obj):=(Gw g h L).filter λp=>decide (p.1≠d)
structure Mod(K:J9)(mg:H9)(base:Heap):Prop where
 kin:K.In base
 glob:base.Ns mainGlobals mg
 blt: ∃mb,base.Ns builtinsNs mb/\ ∀x:Str,x≠"__name__"->mb x=bootBuiltins x
 nolimit:base.NoLimit
structure Cx where
 prog:ņ
 w:World
 K:PySem.W.Frag
 mg:Str->Option ń
 base:Heap
 A:Ņ
 N:List Str
 s₀:Ń
 H₀:Hp
 env:Env
 outer:List Env
 stack:List Env
 ex:List Addr
 fn:Str->Bool
 calm:Bool
 pn:List (Addr×Obj)
 xe:VP
variable{X:Cx}
noncomputable def XQ(l:List Env):List Addr:=l.filterMap (·.frame)
abbrev Cx.fs(X:Cx):List Addr:=XQ X.outer
def Xa(sc:Scope)(x:Str):Prop:=sc.names.lookup x=some .local\/sc.names.lookup x=some .cell\/sc.names.lookup x=some .free
def Loc(sc:Scope)(x:Str):Prop:=sc.names.lookup x=some .local\/sc.names.lookup x=some .cell
def Look(a:Env)(h:Heap)(m:H9)(x:Str)(u:ń):Prop:=
 (a.kindOf x=some .local/\m x=some u)\/((a.kindOf x=some .cell\/a.kindOf x=some .free)/\ ∃c,a.cells.lookup x=some c/\h.IsCell c (some u))
structure Cx.Ok(X:Cx):Prop where
 mod:Mod X.K X.mg X.base
 kind:X.env.scope.kind=.function
 glob:X.env.globals=mainGlobals
 blt:X.env.builtins=builtinsNs
 above:X.s₀.heap.objs.size<=X.env.locals
 inj: ∀x y c,X.env.cells.lookup x=some c->X.env.cells.lookup y=some c->x=y
 has: ∀x,(X.env.kindOf x=some .cell\/X.env.kindOf x=some .free)-> ∃c,X.env.cells.lookup x=some c
 cab: ∀x c,X.fn x=true->X.env.cells.lookup x=some c->X.s₀.heap.objs.size<=c
 hd:X.calm=true->X.A.handled=none
 frames:X.A.frames=some X.stack
 stk:X.stack=X.outer\/(X.stack=X.env::X.outer/\X.env.frame=some X.env.locals)
 exf: ∀b∈X.ex,b≠X.env.locals/\ ∀x c,X.env.cells.lookup x=some c->c≠b
 bs: ∀b o,X.base.get? b=some o->X.s₀.heap.get? b=some o/\X.H₀ b=none
 bsz:X.base.objs.size<=X.s₀.heap.objs.size
 noex: ∀b o,X.base.get? b=some o->b∉X.ex
 exfs: ∀b∈X.ex,b∉X.fs
 funs:X.s₀.heap.FunFrames X.base X.outer
 frf: ∀b∈X.fs,X.H₀ b=none
structure Inv(X:Cx)(pins:J5)(σ:List (Option V))(H:Hp)(s:Ń):Prop where
 ok:X.Ok
 os:s.os=X.s₀.os
 bare:AllBare s.gens
 base:Un X.fs X.ex X.H₀ H X.s₀.heap s.heap
 loc: ∃m,s.heap.Ns X.env.locals m/\ ∀(i:Nat)(x:Str)(v:V),X.N[i]? =some x->σ[i]? =some (some v)->Xa X.env.scope x-> ∃u,RelV v u/\Look X.env s.heap m x u
 cell: ∀x c,X.env.cells.lookup x=some c-> ∃v,s.heap.IsCell c v
 free:H X.env.locals=none
 freeC: ∀x c,X.env.cells.lookup x=some c->H c=none
 pin: ∀p∈X.pn++pins,s.heap.get? p.1=some p.2/\H p.1=none/\p.1≠X.env.locals/\p.1∉X.fs/\ ∀v,p.2.data≠.cell v
 hok:HOk X.prog X.w H s.heap
 len:σ.length=X.N.length
section
variable{X:Cx}{pins:J5}{σ:List (Option V)}{H H':Hp}{s:Ń}{h':Heap}
def Cx.Ok.nofr(ok:X.Ok){b:Addr}{o:Obj}(e:X.base.get? b=some o):b∉X.fs:=λa=>by have:=(ok.funs.mem a).1;rw[e]at this;cases this
def Inv.bs(I:↑2): ∀b o,X.base.get? b=some o->s.heap.get? b=some o/\H b=none:=λb o e=>
 ⟨I.base.keep b o (I.ok.bs b o e).1 (I.ok.bs b o e).2 (I.ok.nofr e) (I.ok.noex b o e),I.base.free b o (I.ok.bs b o e).1 (I.ok.bs b o e).2 (I.ok.noex b o e)⟩
def Inv.bk(I:↑2): ∀b o,X.base.get? b=some o->s.heap.get? b=some o:=λb o e=>(I.bs b o e).1
def Inv.mod(I:↑2):Mod X.K X.mg X.base:=I.ok.mod
def Inv.kIn(I:↑2):X.K.In s.heap:=I.ok.mod.kin.keeps I.bk
def Inv.lt(I:↑2):X.env.locals<s.heap.objs.size:=let ⟨_,a,_⟩:=I.loc;a.lt
def Inv.sz(I:↑2):X.s₀.heap.objs.size<=s.heap.objs.size:=ø I.ok.above (le_of_lt I.lt)
def Inv.nofs(I:↑2){a:Addr}(h:↑0<=a):a∉X.fs:=λb=>by obtain⟨_,o,c,_⟩:=I.ok.funs.mem b;exact absurd (ç (â c) (ø I.sz h)) (Į _)
def Inv.cne(I:↑2): ∀x c,X.env.cells.lookup x=some c->c≠X.env.locals:=λx c e z=>by obtain⟨v,o,d,hd⟩:=I.cell x c e;obtain⟨m,⟨o',es,ep,a,b,_⟩,_⟩:=I.loc;rw[z,a]at d;cases d;rw[b]at hd;cases hd
def Inv.funs(I:↑2):s.heap.FunFrames X.base X.outer:=by
 have all: ∀(l:List Env),(∀b∈XQ l,b∈X.fs)->X.s₀.heap.FunFrames X.base l->s.heap.FunFrames X.base l:=by
  intro l
  induction l with
  |nil=>intro _ _;trivial
  |cons env r ih=>
   intro hs m;obtain⟨h,⟨L,o,d,j,i,hd⟩,k⟩:=m;have a:=hs L (by unfold XQ;rw[ī,d];exact mF0);obtain⟨sl,e⟩:=I.base.slot L o i (I.ok.frf L a) a λz=>I.ok.exfs L z a;exact⟨h,⟨L,_,d,j,e,hd⟩,ih (λb c=>hs b (by unfold XQ;rw[ī,d];exact mO _ c)) k⟩
 exact all X.outer (λ_ c=>c) I.ok.funs
def Inv.stack(I:↑2):s.heap.FunFrames X.base X.stack:=by
 rcases I.ok.stk with e|⟨e,hf⟩
 .rw[e];exact I.funs
 .rw[e];obtain⟨m,a,_⟩:=I.loc;refine .cons (by rw[I.ok.kind];decide) hf a ?_ I.funs;exact Heap.get?_none_of_le (ø I.ok.bsz I.ok.above)
def Inv.stkSub(I:↑2): ∀b∈XQ X.stack,b∈X.env.locals::X.fs:=λb a=>by
 rcases I.ok.stk with e|⟨e,hf⟩
 .rw[e]at a;exact mO _ a
 .rw[e]at a;unfold XQ at a;rw[ī,hf]at a;exact a
def Inv.stkFree(I:↑2): ∀b∈XQ X.stack,H b=none:=λb a=>by
 rcases mC.mp (I.stkSub b a)with e|a
 .rw[e];exact I.free
 .obtain⟨_,o,c,_⟩:=I.ok.funs.mem a;exact I.base.free b o c (I.ok.frf b a) λz=>I.ok.exfs b z a
def Inv.step{K:Array GenState}{N:Drawn}{ch:B9}(I:↑2)
  (hch: ∀b∈ch,(b∈X.ex\/X.s₀.heap.objs.size<=b)/\b≠X.env.locals/\(∀x c,X.env.cells.lookup x=some c->c≠b)/\ ∀p∈X.pn++pins,p.1≠b)
  (keep: ∀b o,b≠X.env.locals->b∉X.fs->b∉ch->s.heap.get? b=some o->H b=none->h'.get? b=some o)
  (slot: ∀b o,b≠X.env.locals->b∈X.fs->b∉ch->s.heap.get? b=some o->H b=none-> ∃sl,h'.get? b=some {o with slots:=sl}) (free: ∀b o,b∉ch->s.heap.get? b=some o->H b=none->H' b=none)
  (there: ∀b o,b∉ch->s.heap.get? b=some o-> ∃o',h'.get? b=some o')
  (tups: ∀b xs,H b=some (.tup xs)->H' b=some (.tup xs)) (frzs: ∀b o u,H b=some (.frz o u)->H' b=some (.frz o u)) (tbls: ∀b ps,H b=some (.tbl ps)-> ∃F,H' b=some (.tbl (ps++F)))
  (ns: ∀m,s.heap.Ns X.env.locals m->h'.Ns X.env.locals m) (hok:HOk X.prog X.w H' h') (hg:AllBare K):
  Inv X pins σ H' {s with heap:=h',gens:=K,drawn:=N,toks:=t'}:=by
 have D: ∀b o,X.s₀.heap.get? b=some o->b≠X.env.locals:=λb o e=>ë (ç (â e) I.ok.above)
 have y: ∀b o,X.s₀.heap.get? b=some o->b∉X.ex->b∉ch:=λb o e a B=>by
  rcases (hch b B).1 with z|z
  .exact a z
  .exact absurd (ç (â e) z) (Į _)
 have h: ∀x c,X.env.cells.lookup x=some c-> ∀v,s.heap.IsCell c v->h'.IsCell c v:=λx c e v ⟨o,C,hd⟩=>by
  have j:=λz=>(hch c z).2.2.1 x c e rfl;by_cases L:c∈X.fs
  .obtain⟨sl,q⟩:=slot c o (I.cne x c e) L j C (I.freeC x c e);exact⟨_,q,hd⟩
  .exact⟨o,keep c o (I.cne x c e) L j C (I.freeC x c e),hd⟩
 refine⟨I.ok,I.os,hg,⟨λb o e n B a=>?_,λb o e n B a=>?_,λb o e n a=>?_,λb o e a=>?_,λb xs e=>tups b xs (I.base.tups b xs e),λb o xs e=>frzs b o xs (I.base.frzs b o xs e),λb ps e=>?_⟩,?_,λx c e=>?_,?_,λx c e=>?_,λp J=>?_,hok,I.len⟩
 .exact keep b o (D b o e) B (y b o e a) (I.base.keep b o e n B a) (I.base.free b o e n a)
 .obtain⟨sl,A⟩:=I.base.slot b o e n B a;obtain⟨G,E⟩:=slot b _ (D b o e) B (y b o e a) A (I.base.free b o e n a);exact⟨G,E⟩
 .obtain⟨o',A⟩:=I.base.there b o e a;exact free b o' (y b o e a) A (I.base.free b o e n a)
 .obtain⟨o',A⟩:=I.base.there b o e a;exact there b o' (y b o e a) A
 .obtain⟨S,A⟩:=I.base.tbls b ps e;obtain⟨Q,E⟩:=tbls b _ A;exact⟨_,by rw[E,Array.append_assoc]⟩
 .obtain⟨m,P,O⟩:=I.loc;refine⟨m,ns m P,λi x v A E M=>?_⟩;obtain⟨u,r,l⟩:=O i x v A E M;refine⟨u,r,?_⟩;rcases l with l|⟨k,c,e,z⟩
  .exact .inl l
  .exact .inr ⟨k,c,e,h x c e _ z⟩
 .obtain⟨v,z⟩:=I.cell x c e;exact⟨v,h x c e v z⟩
 .obtain⟨m,⟨o,_,_,C,_⟩,_⟩:=I.loc;exact free _ o (λz=>(hch _ z).2.1 rfl) C I.free
 .obtain⟨v,o,C,hd⟩:=I.cell x c e;exact free c o (λz=>(hch c z).2.2.1 x c e rfl) C (I.freeC x c e)
 .obtain⟨e,n,ne,nf,d⟩:=I.pin p J;have j:=λz=>(hch p.1 z).2.2.2 p J rfl;exact⟨keep p.1 p.2 ne nf j e n,free p.1 p.2 j e n,ne,nf,d⟩
def Inv.un(I:Inv X pins σ H s)(u:Un X.fs [] H H' s.heap h')(c:HOk X.prog X.w H' h'):Inv X pins σ H' {s with heap:=h',toks:=t'}:=by obtain⟨m,⟨o,es,ep,j,r⟩,_⟩:=id I.loc;obtain⟨sl,k⟩:=u.any j I.free (by simp);exact I.step (ch:=[]) (λ_ z=>nomatch z) (λb o _ d _ e n=>u.keep b o e n d (by simp)) (λb o _ d _ e n=>u.slot b o e n d (by simp)) (λb o _ e n=>u.free b o e n (by simp)) (λb o _ e=>u.there b o e (by simp)) u.tups u.frzs u.tbls (λv q=>by obtain⟨o',h,i,a,p⟩:=q;rw[j]at a;cases a;exact⟨_,h,i,k,p⟩) c I.bare
def Inv.call{v:Array GenState}{B:Drawn}{ch:B9}(I:↑2)(u:Un (XQ X.stack) ch H H' s.heap h')(i:HOk X.prog X.w H' h')(y:AllBare v)
  (hch: ∀b∈ch,(b∈X.ex\/X.s₀.heap.objs.size<=b)/\b≠X.env.locals/\(∀x c,X.env.cells.lookup x=some c->c≠b)/\ ∀p∈X.pn++pins,p.1≠b):
  Inv X pins σ H' {s with heap:=h',gens:=v,drawn:=B,toks:=t'}:=by
 obtain⟨m,⟨o,es,ep,q,r⟩,_⟩:=id I.loc;obtain⟨sl,h⟩:=u.any q I.free λz=>(hch _ z).2.1 rfl;exact I.step hch (λb o h C a e n=>u.keep b o e n (λz=>(mC.mp (I.stkSub b z)).elim h C) a) (λb o _ _ a e n=>u.any e n a) (λb o a e n=>u.free b o e n a) (λb o a e=>u.there b o e a) u.tups u.frzs u.tbls (λE D=>by obtain⟨o',j,k,d,A⟩:=D;rw[q]at d;cases d;exact⟨_,j,k,h,A⟩) i y
def Inv.turned{it:Addr}(I:↑2)(k: ∀b o,b≠it->s.heap.get? b=some o->h'.get? b=some o)(j:H it=none)(h:it≠X.env.locals)
  (h1:it∈X.ex\/X.s₀.heap.objs.size<=it) (h2: ∀x c,X.env.cells.lookup x=some c->c≠it) (h3: ∀p∈X.pn++pins,p.1≠it):Inv X pins σ H {s with heap:=h',toks:=t'}:=by
 have d: ∀b u,H b=some u->b≠it:=λb u e z=>by rw[z,j]at e;cases e
 refine I.step (ch:=[it]) (λb w=>?_) (λb o _ _ a e _=>k b o (λz=>a (by simp[z])) e) (λb o _ _ a e _=>⟨_,k b o (λz=>a (by simp[z])) e⟩) (λ_ _ _ _ n=>n)
  (λb o a e=>⟨o,k b o (λz=>a (by simp[z])) e⟩) (λ_ _ e=>e) (λ_ _ _ e=>e) (λb ps e=>⟨#[],by rw[e];simp⟩) (λm y=>?_) (λb u e=>?_) I.bare
 .have e:=by simpa using w
  subst e;exact⟨h1,h,h2,h3⟩
 .obtain⟨o,es,ep,i,r⟩:=y;exact⟨o,es,ep,k _ o (Ne.symm h) i,r⟩
 .refine(I.hok b u e).stay (λc v a q=>k c v ?_ q) (λ_ q=>q) λ_ _ q=>q;rcases a with z|z
  .rw[z];exact d b u e
  .exact d c _ z
def Inv.tok(I:↑2)(t:Nat):Inv X pins σ H {s with toks:=t}:=I.un Un.refl I.hok
def Inv.kept(I:↑2)(k: ∀b u,s.heap.get? b=some u->h'.get? b=some u):Inv X pins σ H {s with heap:=h',toks:=t'}:=I.un (Un.kept k) (I.hok.kept k)
def Inv.laid{a:Addr}(I:↑2)(k: ∀b u,s.heap.get? b=some u->h'.get? b=some u)(c:↑0<=a)(new:ObjOk X.prog X.w (wC H a o) h' a o):
  Inv X pins σ (wC H a o) {s with heap:=h',toks:=t'}:=I.un (Un.laid k c (I.hok.fresh c)) (I.hok.laid k c new)
def Inv.write{x e:Addr}(I:↑2)(c:Pe (H x))(d:e=x\/H e=some (.own x))(k: ∀b u,b≠e->s.heap.get? b=some u->h'.get? b=some u)(a: ∃u,h'.get? e=some u)
  (new:ObjOk X.prog X.w (wC H x o) h' x o):Inv X pins σ (wC H x o) {s with heap:=h',toks:=t'}:=I.un (Un.write c d k a) (I.hok.write c d k a new)
def Inv.pins_of{a:J5}(I:↑2)(h: ∀p∈a,s.heap.get? p.1=some p.2/\H p.1=none/\p.1≠X.env.locals/\p.1∉X.fs/\ ∀v,p.2.data≠.cell v):Inv X a σ H s:=
 ⟨I.ok,I.os,I.bare,I.base,I.loc,I.cell,I.free,I.freeC,λp b=>(é.mp b).elim (λz=>I.pin p (Ă _ z)) (h p),I.hok,I.len⟩
def OA{N:C0}(e:N.Nodup){i j:Nat}{x:Str}(a:N[i]? =some x)(b:N[j]? =some x):i=j:=by obtain⟨h1,d⟩:=gS.mp a;obtain⟨h,c⟩:=gS.mp b;exact(getElem_inj e).mp (d.trans c.symm)
abbrev Q2(X:Cx)(x:Str):Prop:=X.fn x=true\/X.env.scope.names.lookup x=some .local
def HY{M:Model}{A:Ņ}{i:Nat}{x:Str}{u:ń}{Q:Unit->Ń->Prop}(I:↑2)(hN:X.N.Nodup)(hi:X.N[i]? =some x)(F:Loc X.env.scope x)(r:RelV v u)
  (h: ∀s',Inv X pins (σ.set i (some v)) H s'->(∃a,Heap.SameBut a s.heap s'.heap/\(a=X.env.locals\/X.env.cells.lookup x=some a))->Q () s') (hf:Q2 X x:=by first |exact .inl rfl|exact .inr rfl|assumption):wpAny M A (storeName X.env x u) Q E s:=by
 obtain⟨m,hn,hl⟩:=id I.loc;have W:(X.env.scope.kind==.class || (X.env.scope.kind==.module&&X.env.locals !=X.env.globals))=false:=by rw[I.ok.kind];rfl
 have K:i<σ.length:=by rw[I.len];exact(gS.mp hi).1
 have cne:=I.cne
 have B: ∀{a:Addr}{h':Heap},(∃o,s.heap.get? a=some o/\H a=none)->Heap.SameBut a s.heap h'->HOk X.prog X.w H h':=λ{a h'} ha hs b ob e=>by
  obtain⟨_,_,G⟩:=ha;refine(I.hok b ob e).stay (λc Z D q=>(hs.2 c ?_).trans q) (λ_ q=>q) λ_ _ q=>q;rintro rfl;rcases D with rfl|D
  .rw[G]at e;cases e
  .rw[G]at D;cases D
 rcases F with hk|hk
 .refine wpAny_storeName_local hk hn (λh' aa hs=>?_) W;obtain⟨oL,_,_,ab,_⟩:=id hn;refine h _ ⟨I.ok,I.os,I.bare,⟨λb o e n P F=>?_,λb o e n P F=>?_,I.base.free,λb o e F=>?_,I.base.tups,I.base.frzs,I.base.tbls⟩,⟨_,aa,λj y v' C J e3=>?_⟩,λy c e=>?_,I.free,I.freeC,λp hp=>?_,B ⟨oL,ab,I.free⟩ hs,by simpa using I.len⟩ ⟨_,hs,.inl rfl⟩
  .exact(hs.2 b (ë (ç (â e) I.ok.above))).trans (I.base.keep b o e n P F)
  .obtain⟨sl,C⟩:=I.base.slot b o e n P F;exact⟨sl,(hs.2 b (ë (ç (â e) I.ok.above))).trans C⟩
  .obtain⟨o',C⟩:=I.base.there b o e F;exact⟨o',(hs.2 b (ë (ç (â e) I.ok.above))).trans C⟩
  .by_cases L:j=i
   .subst L;rw[hi]at C;cases C;rw[ę K]at J;cases J;exact⟨u,r,.inl ⟨hk,by simp⟩⟩
   .rw[ĥ (Ne.symm L)]at J;obtain⟨u',r',q⟩:=hl j y v' C J e3;refine⟨u',r',?_⟩;rcases q with⟨k,e⟩|⟨k,c,e,z⟩
    .refine .inl ⟨k,?_⟩;have:y≠x:=λe=>L (OA hN C (e▸hi));simp[this,e]
    .exact .inr ⟨k,c,e,z.sameBut hs (cne y c e)⟩
  .obtain⟨Z,z⟩:=I.cell y c e;exact⟨Z,z.sameBut hs (cne y c e)⟩
  .obtain⟨e,n,ne,nf,d⟩:=I.pin p hp;exact⟨(hs.2 p.1 ne).trans e,n,ne,nf,d⟩
 .have O:X.fn x=true:=by
   rcases hf with z|z
   .exact z
   .rw[z]at hk;cases hk
  obtain⟨c,D⟩:=I.ok.has x (.inl hk);obtain⟨Z,z⟩:=I.cell x c D;refine wpAny_storeName_cell I.ok.kind hk D z (λh' U hs=>?_);obtain⟨oc,S,T⟩:=id z;refine h {s with heap:=h'} ⟨I.ok,I.os,I.bare,⟨λb o e n P F=>?_,λb o e n P F=>?_,I.base.free,λb o e F=>?_,I.base.tups,I.base.frzs,I.base.tbls⟩,⟨m,hn.sameBut hs (Ne.symm (cne x c D)),λj y v' C J e3=>?_⟩,λy c' e=>?_,I.free,I.freeC,λp hp=>?_,B ⟨oc,S,I.freeC x c D⟩ hs,by simpa using I.len⟩ ⟨c,hs,.inr D⟩
  .exact(hs.2 b (ë (ç (â e) (I.ok.cab x c O D)))).trans (I.base.keep b o e n P F)
  .obtain⟨sl,C⟩:=I.base.slot b o e n P F;exact⟨sl,(hs.2 b (ë (ç (â e) (I.ok.cab x c O D)))).trans C⟩
  .obtain⟨o',C⟩:=I.base.there b o e F;exact⟨o',(hs.2 b (ë (ç (â e) (I.ok.cab x c O D)))).trans C⟩
  .by_cases L:j=i
   .subst L;rw[hi]at C;cases C;rw[ę K]at J;cases J;exact⟨u,r,.inr ⟨.inl hk,c,D,U⟩⟩
   .rw[ĥ (Ne.symm L)]at J;obtain⟨u',r',q⟩:=hl j y v' C J e3;refine⟨u',r',?_⟩;rcases q with q|⟨k,c',e,z'⟩
    .exact .inl q
    .refine .inr ⟨k,c',e,z'.sameBut hs ?_⟩;rintro rfl;exact L (OA hN C (I.ok.inj _ _ _ e D▸hi))
  .by_cases Y:c'=c
   .subst Y;exact⟨_,U⟩
   .obtain⟨w2,z2⟩:=I.cell y c' e;exact⟨w2,z2.sameBut hs Y⟩
  .obtain⟨e,n,ne,nf,d⟩:=I.pin p hp;refine⟨(hs.2 p.1 ?_).trans e,n,ne,nf,d⟩;intro q;rw[q,S]at e;have q':oc=p.2:=ä e;exact d Z (by rw[<-q'];exact T)
def OB{M:Model}{A:Ņ}{i:Nat}{x:Str}{u:ń}{Q:Unit->Ń->Prop}(I:↑2)(c:X.N.Nodup)(hi:X.N[i]? =some x)(b:Loc X.env.scope x)(r:RelV v u)
  (h: ∀s',Inv X pins (σ.set i (some v)) H s'->Q () s') (hf:Q2 X x:=by first |exact .inl rfl|exact .inr rfl|assumption):wpAny M A (storeName X.env x u) Q E s:=
 HY I c hi b r (λs' a _=>h s' a) hf
def Inv.call'{s':Ń}{ch:B9}(I:↑2)(h:s'.os=s.os)(u:Un (XQ X.stack) ch H H' s.heap s'.heap)(a:HOk X.prog X.w H' s'.heap)(d:AllBare s'.gens)
  (hch: ∀b∈ch,(b∈X.ex\/X.s₀.heap.objs.size<=b)/\b≠X.env.locals/\(∀x c,X.env.cells.lookup x=some c->c≠b)/\ ∀p∈X.pn++pins,p.1≠b):Inv X pins σ H' s':=by
 obtain⟨h',i,j,t',o'⟩:=s';have e:=h;subst e;exact I.call u a d hch
end
abbrev XK:=Value->Option Addr->Hp->Prop
abbrev St:=List (Option V)
variable{σ:St}
abbrev VK:=V->Hp->Prop
abbrev TE:=St->Hp->VK->Prop
abbrev TT:=St->Hp->(Bool->Hp->Prop)->Prop
abbrev TA:=St->Hp->(List V->Hp->Prop)->Prop
structure Ends where
 nx:St->Hp->Prop
 rt:VK
 bk:St->Hp->Prop:=λ_ _=>False
 ct:St->Hp->Prop:=λ_ _=>False
abbrev TS:=Ends->St->Hp->Prop
def EP(X:Cx)(pins:J5)(σ:St)(Q:VK)(u:ń)(s':Ń):Prop:= ∃v H',Inv X pins σ H' s'/\RelV v u/\Q v H'
def TP(X:Cx)(pins:J5)(σ:St)(Q:Bool->Hp->Prop)(b:Bool)(s':Ń):Prop:= ∃H',Inv X pins σ H' s'/\Q b H'
def AP(X:Cx)(pins:J5)(σ:St)(Q:List V->Hp->Prop)(us:A0)(s':Ń):Prop:= ∃vs H',Inv X pins σ H' s'/\Vals vs us/\Q vs H'
def SP(X:Cx)(pins:J5)(D:Ends)(f:Flow)(s':Ń):Prop:=
 match f with
 |.next=> ∃a H',Inv X pins a H' s'/\D.nx a H'
 |.brk=> ∃a H',Inv X pins a H' s'/\D.bk a H'
 |.cont=> ∃a H',Inv X pins a H' s'/\D.ct a H'
 |.ret u=> ∃v a H',Inv X pins a H' s'/\RelV v u/\D.rt v H'
def PE(X:Cx)(e:Expr)(t:TE):Prop:=
 ∀(pins:J5)(s:Ń)(σ:St)(H:Hp)(Q:VK),Inv X pins σ H s->t σ H Q->wpAny (model X.prog X.w) X.A (eval e X.env) (EP X pins σ Q) X.xe s
def PT(X:Cx)(e:Expr)(t:TT):Prop:=
 ∀(pins:J5)(s:Ń)(σ:St)(H:Hp)(Q:Bool->Hp->Prop),Inv X pins σ H s->t σ H Q->wpAny (model X.prog X.w) X.A (isTrue e X.env (eval e X.env)) (TP X pins σ Q) X.xe s
def PW(X:Cx)(e:Expr)(t:TT):Prop:=
 ∀(a:Sem ń)(pins:J5)(s:Ń)(σ:St)(H:Hp)(Q:Bool->Hp->Prop),Inv X pins σ H s->t σ H Q->wpAny (model X.prog X.w) X.A (isTrue e X.env a) (TP X pins σ Q) X.xe s
def PW.pt{e:Expr}{t:TT}(h:PW X e t):PT X e t:=h _
def PA(X:Cx)(es:J8)(t:TA):Prop:=
 ∀(pos:Pos)(pins:J5)(s:Ń)(σ:St)(H:Hp)(Q:List V->Hp->Prop),Inv X pins σ H s->t σ H Q->wpAny (model X.prog X.w) X.A (spliced (backTo pos (starEach es X.env))) (AP X pins σ Q) X.xe s
def PS(X:Cx)(st:Stmt)(t:TS):Prop:=
 ∀(pins:J5)(s:Ń)(σ:St)(H:Hp)(D:Ends),Inv X pins σ H s->t D σ H->wpAny (model X.prog X.w) X.A (exec st X.env) (SP X pins D) X.xe s
def PSs(X:Cx)(st:List Stmt)(t:TS):Prop:=
 ∀(pins:J5)(s:Ń)(σ:St)(H:Hp)(D:Ends),Inv X pins σ H s->t D σ H->wpAny (model X.prog X.w) X.A (execs st X.env) (SP X pins D) X.xe s
def kY{α:Type}{t:Sem α}{Q b:α->Ń->Prop}{M:Model}{A:Ņ}{s:Ń}(h:wpAny M A t Q E s)(c: ∀a s,Q a s->b a s):wpAny M A t b E s:=û h c λ_ _ x=>x
section
variable{X:Cx}
def Xb(i:Nat):TE:=λσ H Q=> ∃v,σ[i]? =some (some v)/\Q v H
def tC(v:V):TE:=λ_ H Q=>Q v H
def Pf{i:Nat}{x:Str}(k:X.N[i]? =some x)(d:Xa X.env.scope x)(hd:(x==("__debug__":Str))=false:=by decide)(a:(x==("__classdict__":Str))=false:=by decide):PE X (.Name x pos) (Xb i):=by
 intro pins s σ H Q I h;obtain⟨v,e,h⟩:=h;obtain⟨m,b,j⟩:=I.loc;obtain⟨u,r,l⟩:=j i x v k e d;have fin:EP X pins σ Q u s:=⟨v,H,I,r,h⟩
 rcases l with⟨hk,hm⟩|⟨hk,c,hc,hcell⟩
 .exact wpAny_Name (wpAny_loadName_local I.ok.kind hk b hm fin) hd
 .rcases hk with hk|hk
  .exact wpAny_Name (wpAny_loadName_cell I.ok.kind hk hc hcell fin) hd
  .exact wpAny_Name (wpAny_loadName_free I.ok.kind hk hc hcell fin a) hd
def RM{i j pos}:PE X (.Constant (.int i) j pos) (tC (.int i)):=λ_ _ _ H _ I h=>wpAny_Constant_int ⟨.int i,H,I.tok _,⟨_,rfl⟩,h⟩
def Xc{b j pos}:PE X (.Constant (.bool b) j pos) (tC (.bl b)):=λ_ _ _ H _ I h=>Constant_bool ⟨.bl b,H,I,rfl,h⟩
def Pg{j pos}:PE X (.Constant .none j pos) (tC .non):=λ_ _ _ H _ I h=>Constant_none ⟨.non,H,I,rfl,h⟩
def Ph{x j pos}:PE X (.Constant (.str x) j pos) (tC (.str x)):=λ_ _ _ H _ I h=>Calls.Constant_str ⟨.str x,H,I.tok _,⟨_,rfl⟩,h⟩
def Gl(X:Cx)(x:Str):Prop:=X.env.kindOf x=some .globalImplicit
def JZ{s:Ń}{x:Str}{u:ń}{Q:VP}(I:↑2)(a:Gl X x)(b:X.mg x=some u)(h:Q u s)
  (hd:(x==("__debug__":Str))=false:=by decide):wpAny (model X.prog X.w) X.A (eval (.Name x pos) X.env) Q E s:=
 Calls.Name_function_global I.ok.kind a (Calls.loadGlobal_global (by rw[I.ok.glob];exact I.mod.glob.keeps I.bk) b h) hd
def oM{s:Ń}{x:Str}{u:ń}{Q:VP}(I:↑2)(b:Gl X x)(d:X.mg x=none)(c:bootBuiltins x=some u)(h:Q u s)
  (hn:x≠"__name__":=by decide) (hd:(x==("__debug__":Str))=false:=by decide):wpAny (model X.prog X.w) X.A (eval (.Name x pos) X.env) Q E s:=by
 obtain⟨e,h1,a⟩:=I.mod.blt;exact Calls.Name_function_global I.ok.kind b (Calls.loadGlobal_builtin (by rw[I.ok.glob];exact I.mod.glob.keeps I.bk) d (by rw[I.ok.blt];exact h1.keeps I.bk) ((a x hn).trans c) h) hd
def Gx{x:Str}{u:ń}(a:Gl X x)(b:X.mg x=some u)(r:RelV v u)(hd:(x==("__debug__":Str))=false:=by decide):PE X (.Name x pos) (tC v):=
 λ_ _ _ H _ I h=>JZ I a b ⟨v,H,I,r,h⟩ hd
def Gy{x:Str}{u:ń}(a:Gl X x)(d:X.mg x=none)(b:bootBuiltins x=some u)(r:RelV v u)(c:x≠"__name__":=by decide)(hd:(x==("__debug__":Str))=false:=by decide):PE X (.Name x pos) (tC v):=
 λ_ _ _ H _ I h=>oM I a d b ⟨v,H,I,r,h⟩ c hd
variable{a b:Expr}{ta tb:TE}{pos:Pos}
def tB(t:TE):TT:=λσ H Q=>t σ H λx H1=> ∃c,x=.bl c/\Q c H1
variable{tA tB':TT}{rest:J8}
def tAnd(t u:TT):TT:=λσ H Q=>t σ H λc H1=>if c=true then u σ H1 Q else Q false H1
def tOr(t u:TT):TT:=λσ H Q=>t σ H λc H1=>if c=true then Q true H1 else u σ H1 Q
def tNot(t:TT):TT:=λσ H Q=>t σ H λc H1=>Q (!c) H1
def Gz(b:PT X a tA):PW X (.BoolOp .And [a] pos) tA:=by
 intro i pins s σ H Q I h;refine isTrue_and (kY (b pins s σ H Q I h) λc d e=>?_)
 cases c with
 |true=>exact isTrue_and_nil e
 |false=>exact e
def Pi(b:PT X a tA):PW X (.BoolOp .Or [a] pos) tA:=by
 intro i pins s σ H Q I h;refine isTrue_or (kY (b pins s σ H Q I h) λc d e=>?_)
 cases c with
 |false=>exact isTrue_or_nil e
 |true=>exact e
def Pj(i:PT X a tA)(j:PW X (.BoolOp .And (b::rest) pos) tB'):PW X (.BoolOp .And (a::b::rest) pos) (tAnd tA tB'):=by
 intro k pins s σ H Q I h;refine isTrue_and (kY (i pins s σ H _ I h) λc e ⟨H1,I1,d⟩=>?_)
 cases c with
 |true=>exact j k pins e σ H1 Q I1 d
 |false=>exact⟨H1,I1,d⟩
def Xd(i:PT X a tA)(j:PW X (.BoolOp .Or (b::rest) pos) tB'):PW X (.BoolOp .Or (a::b::rest) pos) (tOr tA tB'):=by
 intro k pins s σ H Q I h;refine isTrue_or (kY (i pins s σ H _ I h) λc e ⟨H1,I1,d⟩=>?_)
 cases c with
 |true=>exact⟨H1,I1,d⟩
 |false=>exact j k pins e σ H1 Q I1 d
def Pk(b:PT X a tA):PT X (.UnaryOp .Not a pos) (tNot tA):=by intro pins s σ H Q I h;exact isTrue_not (b pins s σ H (λc H1=>Q (!c) H1) I h)
def tIf(t:TT)(ta tb:TE):TE:=λσ H Q=>t σ H λc H1=>if c=true then ta σ H1 Q else tb σ H1 Q
def Am{c:Expr}(k:PT X c tA)(j:PE X a ta)(m:PE X b tb):PE X (.IfExp c a b pos) (tIf tA ta tb):=by
 intro pins s σ H Q I h;refine wpAny_IfExp (kY (k pins s σ H _ I h) λd e ⟨H1,I1,i⟩=>?_)
 cases d with
 |true=>exact j pins e σ H1 Q I1 i
 |false=>exact m pins e σ H1 Q I1 i
end
def SqL(K:J9)(H:Hp)(a:Addr)(xs:List V):Prop:=
 Rd H a (.lst xs)\/
  ∃(o:Obj)(its:B0)(n:Nat),K.lookup a=some o/\o.cls=.type "list"/\o.dict=none/\o.data=.seq its n/\its.size<=sizeLine/\Vals xs its.toList
def SqT(K:J9)(H:Hp)(a:Addr)(xs:List V):Prop:=
 Rd H a (.tup xs)\/
  ∃(o:Obj)(its:B0)(n:Nat),K.lookup a=some o/\o.cls=.type "tuple"/\o.data=.seq its n/\its.size<=sizeLine/\Vals xs its.toList
noncomputable def absV:ń->Option V
 |.none=>some .non
 |.bool b=>some (.bl b)
 |.int i _=>some (.int i)
 |.str x _=>some (.str x)
 |.bytes b _=>some (.byt b)
 |.float b _=>some (.flt b)
 |.ref a=>some (.ref a)
 |.type n=>some (.ty n)
 |_=>none
theorem RelV.abs{x:V}{u:ń}(r:RelV x u):absV u=some x:=by
 cases x with
 |non=>cases r;rfl
 |bl _=>cases r;rfl
 |int _=>obtain⟨t,rfl⟩:=r;rfl
 |str _=>obtain⟨t,rfl⟩:=r;rfl
 |byt _=>obtain⟨t,rfl⟩:=r;rfl
 |flt _=>obtain⟨t,rfl⟩:=r;rfl
 |ref _=>cases r;rfl
 |ty _=>cases r;rfl
def RelV.inj{x y:V}{u:ń}(r:RelV x u)(q:RelV y u):x=y:=ä (r.abs.symm.trans q.abs)
theorem Vals.inj: ∀{xs ys:List V}{us:A0},Vals xs us->Vals ys us->xs=ys
 |_,_,_,.nil,.nil=>rfl
 |_,_,_,.cons r t,.cons r' t'=>by rw[r.inj r',Vals.inj t t']
section
variable{X:Cx}{pins:J5}{σ:St}{H:Hp}{s:Ń}{a:Addr}{xs ys:List V}
def SqL.of{K:J9}(h:H a=some (.lst xs)):SqL K H a xs:=.inl (.inl h)
def SqT.of{K:J9}(h:H a=some (.tup xs)):SqT K H a xs:=.inl (.inl h)
theorem Inv.list(I:↑2)(h:SqL X.K H a xs): ∃its:List ń,Vals xs its/\PlainL s.heap a its.toArray/\xs.length<=sizeLine:=by
 rcases h with h|⟨o,its,n,hk,hc,hd,hs,hz,r⟩
 .obtain⟨z,its,n,r,e⟩:=h.ok I.hok;exact⟨its,r,⟨_,n,e,rfl,rfl,rfl⟩,z⟩
 .refine⟨_,r,⟨o,n,I.kIn a o hk,hc,hd,by simpa using hs⟩,?_⟩;have e:=r.length;simp only[í]at e
  lia
theorem Inv.tuple(I:↑2)(h:SqT X.K H a xs): ∃its:List ń,Vals xs its/\IsTup s.heap a its.toArray/\xs.length<=sizeLine:=by
 rcases h with h|⟨o,its,n,hk,hc,hs,hz,r⟩
 .obtain⟨z,its,r,p⟩:=h.ok I.hok;exact⟨its,r,p,z⟩
 .refine⟨_,r,⟨o,I.kIn a o hk,hc,n,by simpa using hs⟩,?_⟩;have e:=r.length;simp only[í]at e
  lia
def Inv.list_inj(I:↑2)(h:SqL X.K H a xs)(h':SqL X.K H a ys):xs=ys:=by
 obtain⟨its,r,⟨o,n,e,_,_,d⟩,_⟩:=I.list h;obtain⟨c,j,⟨o',k,b,_,_,i⟩,_⟩:=I.list h';rw[e]at b;cases b;rw[d]at i;injection i with d1 _
 have:=by simpa using congrArg Array.toList d1
 subst this;exact r.inj j
def Inv.tuple_inj(I:↑2)(h:SqT X.K H a xs)(h':SqT X.K H a ys):xs=ys:=by
 obtain⟨its,r,⟨o,e,_,n,d⟩,_⟩:=I.tuple h;obtain⟨c,j,⟨o',b,_,k,i⟩,_⟩:=I.tuple h';rw[e]at b;cases b;rw[d]at i;injection i with d1 _
 have:=by simpa using congrArg Array.toList d1
 subst this;exact r.inj j
end
abbrev Cx.wish(X:Cx)(E:VP):Cx:={X with xe:=E}
abbrev Cx.nox(X:Cx):Cx:=X.wish λ_ _=>False
def Cx.Ok.wish(ok:X.Ok)(E:VP):(X.wish E).Ok:=
 ⟨ok.mod,ok.kind,ok.glob,ok.blt,ok.above,ok.inj,ok.has,ok.cab,ok.hd,ok.frames,ok.stk,ok.exf,ok.bs,ok.bsz,ok.noex,ok.exfs,ok.funs,ok.frf⟩
def Cx.Ok.unwish(ok:(X.wish E).Ok):X.Ok:=
 ⟨ok.mod,ok.kind,ok.glob,ok.blt,ok.above,ok.inj,ok.has,ok.cab,ok.hd,ok.frames,ok.stk,ok.exf,ok.bs,ok.bsz,ok.noex,ok.exfs,ok.funs,ok.frf⟩
section
variable{X:Cx}{pins:J5}{σ:St}{H:Hp}{s:Ń}{E:VP}
def Inv.wish(I:↑2)(E:VP):Inv (X.wish E) pins σ H s:=⟨I.ok.wish E,I.os,I.bare,I.base,I.loc,I.cell,I.free,I.freeC,I.pin,I.hok,I.len⟩
def Inv.unwish(I:Inv (X.wish E) pins σ H s):Inv X pins σ H s:=⟨I.ok.unwish,I.os,I.bare,I.base,I.loc,I.cell,I.free,I.freeC,I.pin,I.hok,I.len⟩
def SP.unwish{D:Ends}{f:Flow}{s':Ń}(h:SP (X.wish E) pins D f s'):SP X pins D f s':=by
 cases f with
 |next=>obtain⟨a,H',I,q⟩:=h;exact⟨a,H',I.unwish,q⟩
 |brk=>obtain⟨a,H',I,q⟩:=h;exact⟨a,H',I.unwish,q⟩
 |cont=>obtain⟨a,H',I,q⟩:=h;exact⟨a,H',I.unwish,q⟩
 |ret u=>obtain⟨v,a,H',I,r,q⟩:=h;exact⟨v,a,H',I.unwish,r,q⟩
def PSs.nox{st:List Stmt}{t:TS}(h:PSs X.nox st t):PSs X st t:=λpins s σ H D I hw=>
 û (h pins s σ H D (I.wish _) hw) (λ_ _ q=>q.unwish) λ_ _ z=>False.elim z
end
section
variable{X:Cx}{st:Stmt}{rest:List Stmt}{t u:TS}{e:Expr}{te:TE}{pos:Pos}
def Xe:TS:=λD σ H=>D.nx σ H
def tSeq(t u:TS):TS:=λD σ H=>t {D with nx:=u D} σ H
def Ha:PSs X [] Xe:=λ_ _ σ H _ I h=>wpAny_execs_nil ⟨σ,H,I,h⟩
def An(h1:PS X st t)(d:PSs X rest u):PSs X (st::rest) (tSeq t u):=by
 intro pins s σ H D I h;refine wpAny_execs_cons (kY (h1 pins s σ H {D with nx:=u D} I h) λf b q=>?_)
 cases f with
 |next=>
  obtain⟨a,H',c,q⟩:=q;exact d pins b a H' D c q
 |ret v=>exact q
 |brk=>exact q
 |cont=>exact q
def Hb(h1:PS X st t):PSs X [st] t:=by
 intro pins s σ H D I h;refine wpAny_execs_cons (kY (h1 pins s σ H D I h) λf a q=>?_)
 cases f with
 |next=>exact wpAny_execs_nil q
 |ret v=>exact q
 |brk=>exact q
 |cont=>exact q
def Inv.quiet{s:Ń}(I:↑2):interactive X.env=false:=by simp[interactive,I.ok.kind]
def Xf(te:TE):TS:=λD σ H=>te σ H λ_ H1=>D.nx σ H1
def Hc(b:PE X e te)(hs:swapsWith e none pos.line X.env=pure false:=by rfl):PS X (.Expr e pos) (Xf te):=by intro pins s σ H D I h;exact wpAny_Expr_any (kY (b pins s σ H _ I h) λv c ⟨x,H1,I1,d,a⟩=>⟨σ,H1,I1,a⟩) I.quiet hs
def tRet(te:TE):TS:=λD σ H=>te σ H D.rt
def Pl(c:PE X e te):PS X (.Return (some e) pos) (tRet te):=by intro pins s σ H D I h;exact wpAny_Return_some (kY (c pins s σ H _ I h) λv d ⟨x,H1,I1,b,a⟩=>⟨x,σ,H1,I1,b,a⟩)
def tIfS(c:TT)(t u:TS):TS:=λD σ H=>c σ H λb H1=>if b=true then t D σ H1 else u D σ H1
def Xg{c:Expr}{a b:List Stmt}{e:TT}(n:PT X c e)(k:PSs X a t)(m:PSs X b u):PS X (.If c a b pos) (tIfS e t u):=by
 intro pins s σ H D I h;refine wpAny_If (kY (n pins s σ H _ I h) λd i ⟨H1,I1,j⟩=>?_)
 cases d with
 |true=>exact k pins i σ H1 D I1 j
 |false=>exact m pins i σ H1 D I1 j
end
abbrev TG:=V->St->Hp->(St->Hp->Prop)->Prop
abbrev Pm:=List V->St->Hp->(St->Hp->Prop)->Prop
def PG(X:Cx)(a:Expr)(t:TG):Prop:=
 ∀(pins:J5)(s:Ń)(σ:St)(H:Hp)(v:V)(u:ń)(Q:St->Hp->Prop),Inv X pins σ H s->RelV v u->t v σ H Q->
  wpAny (model X.prog X.w) X.A (assign a X.env u) (λ_ s'=> ∃b H',Inv X pins b H' s'/\Q b H') X.xe s
def Wo(X:Cx)(ts:J8)(t:Pm):Prop:=
 ∀(pins:J5)(s:Ń)(σ:St)(H:Hp)(vs:List V)(us:A0)(Q:St->Hp->Prop),Inv X pins σ H s->Vals vs us->t vs σ H Q->
  wpAny (model X.prog X.w) X.A (assignInOrder ((assignEach ts X.env).map (·.2)) us) (λ_ s'=> ∃a H',Inv X pins a H' s'/\Q a H') X.xe s
abbrev TSet:=V->V->V->Hp->(Hp->Prop)->Prop
def Hd(X:Cx)(t:TSet):Prop:=
 ∀(pins:J5)(s:Ń)(σ:St)(H:Hp)(o i v:V)(ov a u:ń)(Q:Hp->Prop),Inv X pins σ H s->RelV o ov->RelV i a->RelV v u->t o i v H Q->
  wpAny (model X.prog X.w) X.A (setItem ov a u) (λ_ s'=> ∃H',Inv X pins σ H' s'/\Q H') X.xe s
section
variable{X:Cx}{pos:Pos}
def Ao(i:Nat):TG:=λv σ H Q=>Q (σ.set i (some v)) H
def UK{i:Nat}{x:Str}(d:X.N.Nodup)(hi:X.N[i]? =some x)(c:Loc X.env.scope x)(b:Q2 X x:=by first |exact .inl rfl|exact .inr rfl|assumption):PG X (.Name x pos) (Ao i):=by intro pins s σ H v u Q I r h;exact wpAny_assign_Name (OB I d hi c r (λs' a=>⟨_,H,a,h⟩) b)
def gNil:Pm:=λvs σ H Q=>vs=[]/\Q σ H
def Xh(t:TG)(u:Pm):Pm:=λvs σ H Q=> ∃v r,vs=v::r/\t v σ H λa H'=>u r a H' Q
def UL:Wo X [] gNil:=by intro pins s σ H vs us Q I r h;obtain⟨e,h⟩:=h;subst e;exact assignInOrder_nil ⟨σ,H,I,h⟩
def OC{e:Expr}{es:J8}{t:TG}{u:Pm}(h1:PG X e t)(i:Wo X es u)
  (hs:(assignEach (e::es) X.env).map (·.2)=assign e X.env::(assignEach es X.env).map (·.2):=by rfl):Wo X (e::es) (Xh t u):=by
 intro pins s σ H vs us Q I r h;obtain⟨v,j,b,h⟩:=h;subst b
 cases r with
 |cons r rr=>
  rw[hs];refine assignInOrder_cons (kY (h1 pins s σ H _ _ _ I r h) λ_ c ⟨a,H1,I1,d⟩=>?_);exact i pins c a H1 _ _ Q I1 rr d
def gTup(K:J9)(n:Nat)(t:Pm):TG:=λv σ H Q=> ∃a xs,v=.ref a/\SqT K H a xs/\xs.length=n/\t xs σ H Q
def Ap{es:J8}{k:Nat}{t:Pm}{n:Nat}(j:X.calm=true)(h:Wo X es t)
  (hn:(assignEach es X.env).length=n:=by rfl) (hst:(assignEach es X.env).findIdx? (·.1)=none:=by rfl):PG X (.Tuple es k pos) (gTup X.K n t):=by
 intro pins s σ H v u Q I r hw;obtain⟨a,xs,d,q,p,hw⟩:=hw;subst d;cases r;obtain⟨its,c,i,w⟩:=I.tuple q;refine assign_Tuple_tuple (I.ok.hd j) i (by simp[hn, <-p,c.length]) hst λh' m=>?_;have I1:Inv X pins σ H {s with heap:=h'}:=I.kept λb o e=>m b o (ë (â e)) e;exact h pins _ σ H xs _ Q I1 (by simpa using c) hw
def gSub(to b:TE)(t:TSet):TG:=λv σ H Q=>to σ H λo H1=>b σ H1 λi a=>t o i v a λc=>Q σ c
def RN{o i:Expr}{to b:TE}{t:TSet}(j:PE X o to)(hi:PE X i b)(hs:Hd X t)
  (ha: ∀v,assign (.Subscript o i pos) X.env v=(do
   let ov <-holding [v] (eval o X.env);let a <-holding [v,ov] (eval i X.env)
   standAt pos
   holding [v,ov,a] (setItem ov a v)
   release [v,ov,a] []):=by intro _;rfl):PG X (.Subscript o i pos) (gSub to b t):=by
 intro pins s σ H v u Q I r h;refine wB (ú (kY (j pins s σ H _ I h) λov w ⟨x,H1,I1,p,z⟩=>?_));refine wB (ú (kY (hi pins w σ H1 _ I1 z) λa q ⟨y,d,n,A,c⟩=>?_));refine wB (wpAny_standAt (wB (ú (kY (hs pins q σ d x y v ov a u _ n p A r c) λ_ B ⟨m,k,e⟩=>?_))));exact wpAny_release ⟨σ,m,k,e⟩
def Pn(te:TE)(g:TG):TS:=λD σ H=>te σ H λx H1=>g x σ H1 D.nx
def Po{e:Expr}{te:TE}{g:TG}(i:PE X e te)(a:PG X tg g)(hs:swapsWithSole [tg] e pos.line X.env=pure false:=by rfl)(hw:swappedStores [tg] e X.env=pure none:=by rfl)
  (h1:(assignEach [tg] X.env).map (·.2)=[assign tg X.env]:=by rfl):PS X (.Assign [tg] e pos) (Pn te g):=by
 intro pins s σ H D I h;refine wpAny_Assign_stores (kY (i pins s σ H _ I h) λv c ⟨x,H1,I1,b,d⟩=>?_) hs hw;rw[h1];exact kY (a pins c σ H1 x v _ I1 b d) λ_ j q=>q
def Pp{i:Nat}{x:Str}{e:Expr}{te:TE}{a:Pos}(m:X.N.Nodup)(hi:X.N[i]? =some x)(d:Loc X.env.scope x)(n:PE X e te)(hs:swapsWith e (some (.Name x a)) pos.line X.env=pure false:=by rfl)(k:Q2 X x:=by first |exact .inl rfl|exact .inr rfl|assumption):
  PS X (.Assign [.Name x a] e pos) (Pn te (Ao i)):=by
 intro pins s σ H D I h;refine wpAny_Assign_Name (kY (n pins s σ H _ I h) λv p ⟨y,H1,I1,c,j⟩=>?_) hs;exact OB I1 m hi d c (λo b=>⟨_,H1,b,j⟩) k
end
structure It where
 go:Nat->Hp->Prop
 yld:Nat->Hp->V->Hp->Prop
 stop:Nat->Hp->Prop
def oN(X:Cx)(pins:J5)(H:Hp)(b:Addr):Prop:=
 H b=none/\b≠X.env.locals/\b∉X.fs/\(b∈X.ex\/X.s₀.heap.objs.size<=b)/\(∀x c,X.env.cells.lookup x=some c->c≠b)/\ ∀p∈X.pn++pins,p.1≠b
def Inv.fpOk{H':Hp}{s:Ń}{b:Addr}(I:↑2)(a:↑0<=b)(d:H' b=none):oN X pins H' b:=by
 refine⟨d,ù (ç I.lt a),I.nofs a,.inr (ø I.sz a),λx c e z=>?_,λp h z=>?_⟩
 .obtain⟨v,q⟩:=I.cell x c e;exact absurd (ç q.lt (by rw[z];exact a)) (Į _)
 .exact absurd (ç (â (I.pin p h).1) (by rw[z];exact a)) (Į _)
abbrev Pq(X:Cx):Prop:=X.calm=true
structure TurnC(C:Cx->Prop)(P:ņ)(w:World)(K:J9)(tg:Expr)(J:It)(fp:B9)(it:Addr)(tn:Nat->Heap->Prop):Prop where
 mem:it∈fp
 obj: ∀i h,tn i h-> ∀b∈fp, ∃o,h.get? b=some o/\ ∀v,o.data≠.cell v
 keep: ∀i h h',tn i h->(∀b∈fp, ∀o,h.get? b=some o->h'.get? b=some o)->tn i h'
 item: ∀(X:Cx),X.prog=P->X.w=w->X.K=K->C X-> ∀(i:Nat)(pins:J5)(s:Ń)(σ:St)(H:Hp)(E:VP),Inv X pins σ H s->(∀b∈fp,oN X pins H b)->tn i s.heap->J.go i H->
  wpAny (model P w) X.A (pyNext (.ref it)) (λr s1=> ∃u,r=some u/\
   wpAny (model P w) X.A (letOwnedTupleGo tg (.ref it) u) (λ_ s2=> ∃x H',Inv X pins σ H' s2/\RelV x u/\J.yld i H x H'/\tn (i+1) s2.heap/\ ∀b∈fp,H' b=none) E s1) E s
 done: ∀(X:Cx),X.prog=P->X.w=w->X.K=K->C X-> ∀(i:Nat)(pins:J5)(s:Ń)(σ:St)(H:Hp)(E:VP),Inv X pins σ H s->(∀b∈fp,oN X pins H b)->tn i s.heap->J.stop i H->
  wpAny (model P w) X.A (pyNext (.ref it)) (λr s1=>r=none/\Inv X pins σ H s1) E s
 self: ∀(A:Ņ)(i:Nat)(s:Ń)(Q:VP)(E:VP),tn i s.heap->Q (.ref it) s->wpAny (model P w) A (pyIter (.ref it)) Q E s
abbrev Turn:=TurnC Pq
abbrev TI:=St->Hp->(It->Hp->Prop)->Prop
def Xi(C:Cx->Prop)(X:Cx)(pins:J5)(σ:St)(tg:Expr)(R:It->Hp->Prop)(a:ń)(d:Ń):Prop:=
 ∃(it:Addr)(fp:B9)(c:Nat->Heap->Prop)(J:It)(H':Hp),a=.ref it/\Inv X pins σ H' d/\TurnC C X.prog X.w X.K tg J fp it c/\c 0 d.heap/\(∀b∈fp,oN X pins H' b)/\R J H'
abbrev PIE:=Xi Pq
def Xj(C:Cx->Prop)(X:Cx)(tg iter:Expr)(b:TI):Prop:=
 ∀(pins:J5)(s:Ń)(σ:St)(H:Hp)(R:It->Hp->Prop),Inv X pins σ H s->b σ H R->
  wpAny (model X.prog X.w) X.A (eval iter X.env) (λv a=>wpAny (model X.prog X.w) X.A (pyIter v) (Xi C X pins σ tg R) X.xe a) X.xe s
abbrev PI:=Xj Pq
def UM{M:Model}{A:Ņ}{s:Ń}{it:Addr}{u:ń}{o:Obj}{n:String}{vs:B0}{Q:Unit->Ń->Prop}(a:s.heap.get? it=some o)(b:o.cls=.type n)(hd:o.data=.fields vs)
  (hn:["enumerate","zip","dict_itemiterator","dict_reverseitemiterator","odict_iterator","itertools.zip_longest","itertools.pairwise"].contains n=false) (hQ:Q () s):wpAny M A (letOwnedTupleGo tg (.ref it) u) Q E s:=by
 cases tg<;>first
  |exact wP hQ
  |(cases u<;>first
    |exact wP hQ
    |(refine wB (wpAny_load a ?_)
      rw[b,hd];show wpAny M A (if _=true then _ else _) Q E s;rw[iN (by intro h;rw[hn]at h;cases h)];exact wP hQ))
noncomputable def E3(K:J9)(a:Addr):It:=
 ⟨λi H=> ∃xs x,SqL K H a xs/\xs[i]? =some x,λi H x H'=>H'=H/\ ∀xs,SqL K H a xs->xs[i]? =some x,λi H=> ∃xs,SqL K H a xs/\xs.length<=i⟩
noncomputable def E4(K:J9)(a:Addr):It:=
 ⟨λi H=> ∃xs x,SqT K H a xs/\xs[i]? =some x,λi H x H'=>H'=H/\ ∀xs,SqT K H a xs->xs[i]? =some x,λi H=> ∃xs,SqT K H a xs/\xs.length<=i⟩
noncomputable def E5(lo:Int)(n:Nat):It:=⟨λi _=>i<n,λi H x H'=>H'=H/\x=.int (lo+i),λi _=>n<=i⟩
theorem HZ{P:ņ}{w:World}{K:J9}(a it:Addr):Turn P w K tg (E3 K a) [it] it (λi h=>h.IsListIter it a i) where
 mem:=by simp
 obj:=λi h st b hb=>by
  have e:=by simpa using hb
  subst e;obtain⟨o,e,c,d⟩:=st;exact⟨o,e,λv z=>by rw[d]at z;cases z⟩
 keep:=λi h h' st k=>st.at λo e=>k it (by simp) o e
 item:=by intro X hP hw hK hc i pins s σ H E I hf st hg;subst hP hw hK;obtain⟨xs,x,hq,hx⟩:=hg;obtain⟨its,rv,p,hz⟩:=I.list hq;obtain⟨u,hu,ru⟩:=rv.get hx;obtain⟨f0,f1,f2,f3,f4,f5⟩:=hf it (by simp);refine wpAny_pyNext_list_item st p.isList (by simpa using hu) λh' st' sb=>?_;have I1:Inv X pins σ H {s with heap:=h'}:=I.turned (λb o hb e=>(sb.2 b hb).trans e) f0 f1 f3 f4 f5;obtain⟨o,e,c,d⟩:=id st';exact⟨u,rfl,UM e c d (by decide) ⟨x,H,I1,ru,⟨rfl,λys hy=>by rw[I.list_inj hy hq];exact hx⟩,st',λb hb=>(hf b hb).1⟩⟩
 done:=by intro X hP hw hK hc i pins s σ H E I hf st hg;subst hP hw hK;obtain⟨xs,hq,hx⟩:=hg;obtain⟨its,rv,p,hz⟩:=I.list hq;obtain⟨f0,f1,f2,f3,f4,f5⟩:=hf it (by simp);have hl:=rv.length;exact wpAny_pyNext_list_end (I.ok.hd hc) st p.isList (by simp;lia) λh' eb=>⟨rfl,I.turned (λb o hb e=>eb b o hb e) f0 f1 f3 f4 f5⟩
 self:=λ_ _ _ _ _ st h=>wpAny_pyIter_listiter st h
theorem DY{P:ņ}{w:World}{K:J9}(a it:Addr):Turn P w K tg (E4 K a) [it] it (λi h=>h.IsTupleIter it a i) where
 mem:=by simp
 obj:=λi h st b hb=>by
  have e:=by simpa using hb
  subst e;obtain⟨o,e,c,d⟩:=st;exact⟨o,e,λv z=>by rw[d]at z;cases z⟩
 keep:=λi h h' st k=>st.at λo e=>k it (by simp) o e
 item:=by intro X hP hw hK hc i pins s σ H E I hf st hg;subst hP hw hK;obtain⟨xs,x,hq,hx⟩:=hg;obtain⟨its,rv,p,hz⟩:=I.tuple hq;obtain⟨u,hu,ru⟩:=rv.get hx;obtain⟨f0,f1,f2,f3,f4,f5⟩:=hf it (by simp);refine wpAny_pyNext_tuple_item st p (by simpa using hu) λh' st' sb=>?_;have I1:Inv X pins σ H {s with heap:=h'}:=I.turned (λb o hb e=>(sb.2 b hb).trans e) f0 f1 f3 f4 f5;obtain⟨o,e,c,d⟩:=id st';exact⟨u,rfl,UM e c d (by decide) ⟨x,H,I1,ru,⟨rfl,λys hy=>by rw[I.tuple_inj hy hq];exact hx⟩,st',λb hb=>(hf b hb).1⟩⟩
 done:=by intro X hP hw hK hc i pins s σ H E I hf st hg;subst hP hw hK;obtain⟨xs,hq,hx⟩:=hg;obtain⟨its,rv,p,hz⟩:=I.tuple hq;obtain⟨f0,f1,f2,f3,f4,f5⟩:=hf it (by simp);have hl:=rv.length;exact wpAny_pyNext_tuple_end (I.ok.hd hc) st p (by simp;lia) λh' eb=>⟨rfl,I.turned (λb o hb e=>eb b o hb e) f0 f1 f3 f4 f5⟩
 self:=λ_ _ _ _ _ st h=>wpAny_pyIter_tupleiter st h
theorem RO{P:ņ}{w:World}{K:J9}(it:Addr)(lo:Int)(n:Nat):Turn P w K tg (E5 lo n) [it] it (λi h=>IsRangeIter h it (lo+(i:Nat) * 1) ((n:Int) - (i:Nat)) 1) where
 mem:=by simp
 obj:=λi h st b hb=>by
  have e:=by simpa using hb
  subst e;exact⟨_,st,λv z=>by have z':=z;cases z'⟩
 keep:=λi h h' st k=>k it (by simp) _ st
 item:=by intro X hP hw hK hc i pins s σ H E I hf st hg;subst hP hw hK;obtain⟨f0,f1,f2,f3,f4,f5⟩:=hf it (by simp);have W:=Walks.range (prog:=X.prog) (w:=X.w) (I.ok.hd hc) it lo 1 n;refine W.item i s _ _ hg st λv h' tk hv st' kk=>?_;obtain⟨t,rfl⟩:=hv;have I1:Inv X pins σ H {s with heap:=h',toks:=tk}:=I.turned (λb o hb e=>kk b o (by simpa using hb) e) f0 f1 f3 f4 f5;refine⟨_,rfl,UM st' rfl rfl (by decide) ⟨.int _,H,I1,⟨t,?_⟩,⟨rfl,rfl⟩,st',λb hb=>(hf b hb).1⟩⟩;rw[Int.mul_one]
 done:=by intro X hP hw hK hc i pins s σ H E I hf st hg;obtain⟨f0,f1,f2,f3,f4,f5⟩:=hf it (by simp);exact wpAny_pyNext_range_end (I.ok.hd hc) st (by have:n<=i:=hg;lia) λh' eb=>⟨rfl,I.turned (λb o hb e=>eb b o hb e) f0 f1 f3 f4 f5⟩
 self:=λ_ _ _ _ _ st h=>wpAny_pyIter_rangeiter st h
section
variable{X:Cx}{tg:Expr}
def Xk(K:J9)(tl:TE):TI:=λσ H R=>tl σ H λx H1=> ∃a,x=.ref a/\(∃xs,SqL K H1 a xs)/\R (E3 K a) H1
def iTup(K:J9)(tl:TE):TI:=λσ H R=>tl σ H λx H1=> ∃a,x=.ref a/\(∃xs,SqT K H1 a xs)/\R (E4 K a) H1
def He{l:Expr}{tl:TE}(j:PE X l tl):PI X tg l (Xk X.K tl):=by
 intro pins s σ H R I h;refine kY (j pins s σ H _ I h) λv n ⟨x,H1,I1,d,i⟩=>?_;obtain⟨a,e,⟨xs,k⟩,q⟩:=i;subst e;cases d;obtain⟨its,m,p,r⟩:=I1.list k;refine wpAny_pyIter_list p.isList ?_;refine⟨_,_,_,_,H1,rfl,I1.kept λb o e=>hP0 _ e,HZ a _,⟨_,ã _ rfl,rfl,rfl⟩,λb c=>?_,q⟩;have e:=by simpa using c
 subst e;exact I1.fpOk (à _) (I1.hok.fresh (à _))
def Pr{l:Expr}{tl:TE}(j:PE X l tl):PI X tg l (iTup X.K tl):=by
 intro pins s σ H R I h;refine kY (j pins s σ H _ I h) λv n ⟨x,H1,I1,d,i⟩=>?_;obtain⟨a,e,⟨xs,k⟩,q⟩:=i;subst e;cases d;obtain⟨its,m,p,r⟩:=I1.tuple k;refine wpAny_pyIter_tuple p ?_;refine⟨_,_,_,_,H1,rfl,I1.kept λb o e=>hP0 _ e,DY a _,⟨_,ã _ rfl,rfl,rfl⟩,λb c=>?_,q⟩;have e:=by simpa using c
 subst e;exact I1.fpOk (à _) (I1.hok.fresh (à _))
theorem Aq{s:Ń}{R:It->Hp->Prop}{lo hi:Int}{t u v:Tok}{a:Nat}(I:↑2)(h1: -(2 ^ 62)<=lo)(i:lo<2 ^ 62)(k: -(2 ^ 62)<=hi)(c:hi<2 ^ 62)
  (q:R (E5 lo (hi - lo).toNat) H):wpAny (model X.prog X.w) X.A (pyIter (.ref ↑0)) (PIE X pins σ tg R) E {s with heap:=s.heap.push {cls:=.type "range",data:=.fields #[.int lo t,.int hi u,.int 1 v]},toks:=a}:=by
 refine wpAny_pyIter_range (IsRange.new ..) (small_one h1 i k c) ?_;have I1:Inv X pins σ H {s with heap:=s.heap.push {cls:=.type "range",data:=.fields #[.int lo t,.int hi u,.int 1 v]},toks:=a}:=I.kept λb o e=>hP0 _ e
 refine⟨_,_,_,_,H,rfl,
  I1.kept λb o e=>hP0 _ e,RO _ lo (hi - lo).toNat,?_,λb h=>?_,q⟩
 .have d:lo+((0:Nat):Int) * 1=lo:=by simp
  have j:(((hi - lo).toNat:Nat):Int) - ((0:Nat):Int)=Builtin.Range.rangeSize lo hi 1:=by rw[rangeSize_one];split<;>lia
  show IsRangeIter _ _ _ _ 1;rw[d,j];exact ã _ rfl
 .have e:b=(s.heap.push {cls:=.type "range",data:=.fields #[.int lo t,.int hi u,.int 1 v]}).objs.size:=by simpa using h
  subst e;exact I1.fpOk (à _) (I1.hok.fresh (à _))
def Xl(ta:TA):TI:=λσ H R=>ta σ H λvs H1=> ∃j:Int,vs=[.int j]/\ -(2 ^ 62)<=j/\j<2 ^ 62/\R (E5 0 j.toNat) H1
theorem XR{a:Expr}{ta:TA}{p:Pos}(d:Gl X "range")(m:X.mg "range"=none)(i:PA X [a] ta)(hs:starEach [a] X.env=[(false,eval a X.env)]:=by rfl):PI X tg (.Call (.Name "range" p) [a] [] pos) (Xl ta):=by
 intro pins s σ H R I h;refine Call_ (oM I d m boot_range (Č (kY (i pos pins s σ H _ I h) λus n ⟨vs,H1,I1,k,b⟩=>?_) hs rfl));obtain⟨j,e,b,c,q⟩:=b;subst e
 cases k with
 |cons r rr=>
  cases rr;obtain⟨t,rfl⟩:=r;exact call_range_1 (Aq I1 #[0] #[0] b c (by simpa using q))
def tFor(e:TI)(g:TG)(tb:TS):TS:=λD σ H=>e σ H λJ H1=> ∃W:Nat->Nat->St->Hp->Prop,(∃m,W 0 m σ H1)/\ ∀i m σ H,W i m σ H->
 (J.stop i H/\D.nx σ H)\/(J.go i H/\ ∃N:St->Hp->Prop,(∀a H',N a H'-> ∃c,c<m/\W (i+1) c a H')/\ ∀x H',J.yld i H x H'->g x σ H' λb d=>tb {D with nx:=N,ct:=N,bk:=D.nx} b d)
noncomputable def sW(fp:B9)(h:Heap):List (Addr×Obj):=fp.filterMap λb=>(h.get? b).map λo=>(b,o)
def sX{fp:B9}{h:Heap}{b:Addr}{o:Obj}(a:b∈fp)(e:h.get? b=some o):(b,o)∈sW fp h:=mem_filterMap.mpr ⟨b,a,by rw[e];rfl⟩
def XS{fp:B9}{h:Heap}{p:Addr×Obj}(c:p∈sW fp h):p.1∈fp/\h.get? p.1=some p.2:=by
 obtain⟨b,d,e⟩:=mem_filterMap.mp c
 cases q:h.get? b with
 |none=>rw[q]at e;cases e
 |some o=>
  rw[q]at e;have a:_=p:=ä e;subst a;exact⟨d,q⟩
def Inv.pinned{s:Ń}{fp:B9}(I:↑2)(n: ∀b∈fp,oN X pins H b)(h: ∀b∈fp, ∃o,s.heap.get? b=some o/\ ∀v,o.data≠.cell v):Inv X (pins++sW fp s.heap) σ H s:=
 I.pins_of λp k=>(é.mp k).elim (λz=>I.pin p (ó _ z)) λz=>by obtain⟨a,e⟩:=XS z;obtain⟨j,m,i,_⟩:=n p.1 a;obtain⟨o,c,d⟩:=h p.1 a;rw[e]at c;cases c;exact⟨e,j,m,i,d⟩
def Inv.unpinned{b:J5}{s:Ń}(I:Inv X (pins++b) σ H s):Inv X pins σ H s:=I.pins_of λp a=>I.pin p (ó _ (Ă _ a))
def Ps{iter:Expr}{body:List Stmt}{wi:TI}{g:TG}{tb:TS}(E:PassesOwn (model X.prog X.w) X.A X.env X.xe)(hc:X.calm=true)(hi:PI X tg iter wi)(hg:PG X tg g)(k:PSs X body tb)
  (hs: ∀x,foldedSetIterable iter X.env x=pure x:=by intro _;rfl):PS X (.For tg iter body [] pos) (tFor wi g tb):=by
 intro pins s σ H D I h;refine wpAny_For (kY (hi pins s σ H _ I h) λv s1 h1=>kY h1 λaa s2 h2=>?_) hs;obtain⟨it,fp,tn,J,H2,e,I2,T,Q,Z,W,⟨m0,w0⟩,K⟩:=h2;subst e;have j: ∀{H':Hp},(∀b∈fp,H' b=none)-> ∀b∈fp,oN X pins H' b:=λhn b k=>⟨hn b k,(Z b k).2⟩
 refine codeAny_forLoop_any (λn s'=> ∃i y H',Inv X pins y H' s'/\tn i s'.heap/\(∀b∈fp,H' b=none)/\W i n y H') ?_ m0 ⟨0,σ,H2,I2,Q,λb k=>(Z b k).1,w0⟩;rintro n Y ⟨i,q,L,I3,F,G,w3⟩;rcases K i n q L w3 with⟨stop,qn⟩|⟨go,N,hN,step⟩
 .refine wpAny_passesOwn E (kY (T.done X rfl rfl rfl hc i pins Y q L X.xe I3 (j G) F stop) λr s4 ⟨M,I4⟩=>?_);subst M;exact wpAny_execs_nil ⟨q,L,I4,qn⟩
 .refine wpAny_passesOwn E (kY (T.item X rfl rfl rfl hc i pins Y q L X.xe I3 (j G) F go) λr s4 ⟨u,M,h4⟩=>?_);subst M;refine wpAny_passesOwn E (kY h4 λ_ s5 ⟨x,H5,I5,r5,y5,B,S⟩=>?_);have P:=I5.pinned (j S) (T.obj _ _ B);refine wpAny_passesOwn E (kY (hg _ s5 q H5 x u _ P r5 (step x H5 y5)) λ_ s6 ⟨U,H6,I6,q6⟩=>?_);refine wpAny_passesOwn E (kY (k _ s6 U H6 _ I6 q6) λf O z=>?_);have c: ∀{a:St}{H7:Hp},Inv X _ a H7 O->N a H7-> ∃m,m<n/\ ∃i y H',Inv X pins y H' O/\tn i O.heap/\(∀b∈fp,H' b=none)/\W i m y H':=λ{a H7} p C=>by obtain⟨m',hm,w7⟩:=hN a H7 C;refine⟨m',hm,_,a,H7,p.unpinned,T.keep _ _ _ B λb k o e=>(p.pin (b,o) (ó _ (ó _ (sX k e)))).1,λb k=>?_,w7⟩;obtain⟨o,e,d⟩:=T.obj _ _ B b k;exact(p.pin (b,o) (ó _ (ó _ (sX k e)))).2.1
  cases f with
  |next=>obtain⟨a,H7,p,C⟩:=z;exact c p C
  |cont=>obtain⟨a,H7,p,C⟩:=z;exact c p C
  |brk=>obtain⟨a,H7,p,z⟩:=z;exact⟨a,H7,p.unpinned,z⟩
  |ret v=>obtain⟨x7,a,H7,p,r7,z⟩:=z;exact⟨x7,a,H7,p.unpinned,r7,z⟩
end
abbrev R2:=V->V->Hp->VK->Prop
def OpR(X:Cx)(f:ń->ń->Sem ń)(r:R2):Prop:=
 ∀(pins:J5)(s:Ń)(σ:St)(H:Hp)(x y:V)(v u:ń)(Q:VK),Inv X pins σ H s->RelV x v->RelV y u->r x y H Q->
  wpAny (model X.prog X.w) X.A (f v u) (EP X pins σ Q) X.xe s
def UnR(X:Cx)(f:ń->Sem ń)(r:V->Hp->VK->Prop):Prop:=
 ∀(pins:J5)(s:Ń)(σ:St)(H:Hp)(x:V)(v:ń)(Q:VK),Inv X pins σ H s->RelV x v->r x H Q->
  wpAny (model X.prog X.w) X.A (f v) (EP X pins σ Q) X.xe s
def CallR(X:Cx)(f:ń)(r:List V->Hp->VK->Prop):Prop:=
 ∀(pins:J5)(s:Ń)(σ:St)(H:Hp)(xs:List V)(us:A0)(Q:VK),Inv X pins σ H s->Vals xs us->r xs H Q->
  wpAny (model X.prog X.w) X.A (call f us) (EP X pins σ Q) X.xe s
def TruR(X:Cx)(r:V->Hp->(Bool->Hp->Prop)->Prop):Prop:=
 ∀(pins:J5)(s:Ń)(σ:St)(H:Hp)(x:V)(v:ń)(Q:Bool->Hp->Prop),Inv X pins σ H s->RelV x v->r x H Q->
  wpAny (model X.prog X.w) X.A (truthy v) (TP X pins σ Q) X.xe s
def E6(r:R2)(ta tb:TE):TE:=λσ H Q=>ta σ H λx H1=>tb σ H1 λy a=>r x y a Q
def tUn(r:V->Hp->VK->Prop)(ta:TE):TE:=λσ H Q=>ta σ H λx H1=>r x H1 Q
def rI(C:Int->Int->Prop)(g:Int->Int->V):R2:=λx y H Q=> ∃i j,x=.int i/\y=.int j/\C i j/\Q (g i j) H
def Hf(g:Int->Int->V):R2:=λx y H Q=> ∃i j,x=.int i/\y=.int j/\Q (g i j) H
def rU(g:Int->V):V->Hp->VK->Prop:=λx H Q=> ∃i,x=.int i/\Q (g i) H
section
variable{X:Cx}{a b:Expr}{ta tb:TE}{pos:Pos}
def Pt(j:PE X a ta)(m:PE X b tb){s:Ń}{R:V->V->Hp->Prop}(I:↑2)
  (h:ta σ H λx H1=>tb σ H1 λy c=>R x y c) {Q:VP} {f:ń->ń->Sem ń}
  (hf: ∀v u e x y c,Inv X pins σ c e->RelV x v->RelV y u->R x y c->wpAny (model X.prog X.w) X.A (f v u) Q X.xe e):
  wpAny (model X.prog X.w) X.A (eval a X.env) (λv d=>wpAny (model X.prog X.w) X.A (eval b X.env) (λu s₂=>wpAny (model X.prog X.w) X.A (f v u) Q X.xe s₂) X.xe d) X.xe s:=by
 refine kY (j pins s σ H _ I h) λv o ⟨x,H1,I1,n,p⟩=>?_;refine kY (m pins o σ H1 _ I1 p) λu e ⟨y,c,k,q,i⟩=>?_;exact hf v u e x y c k n q i
def Xm{c:Operator}{r:R2}(j:OpR X (binaryOp c) r)(i:PE X a ta)(m:PE X b tb):PE X (.BinOp a c b pos) (E6 r ta tb):=by intro pins s σ H Q I h;exact wpAny_BinOp (Pt i m I h λv u n x y e k d o q=>j pins n σ e x y v u Q k d o q)
def Ny{b:UnaryOp}{r:V->Hp->VK->Prop}(i:UnR X (unaryOp b) r)(e:PE X a ta):PE X (.UnaryOp b a pos) (tUn r ta):=by intro pins s σ H Q I h;exact UnaryOp_ (kY (e pins s σ H _ I h) λv c ⟨x,H1,I1,j,d⟩=>i pins c σ H1 x v Q I1 j d)
def E7{f:ń->ń->Sem ń}{C:Int->Int->Prop}{g:Int->Int->Int}
  (rule: ∀(i j:Int)(t u:Tok)(s:Ń)(Q:VP)(E:VP),C i j->Q (.int (g i j) s.toks) {s with toks:=s.toks+1}->wpAny (model X.prog X.w) X.A (f (.int i t) (.int j u)) Q E s):
  OpR X f (rI C λi j=>.int (g i j)):=by
 intro pins s σ H x y v u Q I a c h;obtain⟨i,j,rfl,rfl,b,q⟩:=h;obtain⟨t,rfl⟩:=a;obtain⟨t',rfl⟩:=c;exact rule i j t t' s _ _ b ⟨.int _,H,I.tok _,⟨_,rfl⟩,q⟩
def Hg{f:ń->ń->Sem ń}{g:Int->Int->Int}
  (rule: ∀(i j:Int)(t u:Tok)(s:Ń)(Q:VP)(E:VP),Q (.int (g i j) s.toks) {s with toks:=s.toks+1}->wpAny (model X.prog X.w) X.A (f (.int i t) (.int j u)) Q E s):
  OpR X f (Hf λi j=>.int (g i j)):=by
 intro pins s σ H x y v u Q I a b h;obtain⟨i,j,rfl,rfl,q⟩:=h;obtain⟨t,rfl⟩:=a;obtain⟨t',rfl⟩:=b;exact rule i j t t' s _ _ ⟨.int _,H,I.tok _,⟨_,rfl⟩,q⟩
def opB0{f:ń->ń->Sem ń}{g:Int->Int->Bool}
  (rule: ∀(i j:Int)(t u:Tok)(s:Ń)(Q:VP)(E:VP),Q (.bool (g i j)) s->wpAny (model X.prog X.w) X.A (f (.int i t) (.int j u)) Q E s):
  OpR X f (Hf λi j=>.bl (g i j)):=by
 intro pins s σ H x y v u Q I a b h;obtain⟨i,j,rfl,rfl,q⟩:=h;obtain⟨t,rfl⟩:=a;obtain⟨t',rfl⟩:=b;exact rule i j t t' s _ _ ⟨.bl _,H,I,rfl,q⟩
def CMul(i j:Int):Prop:=(-(2 ^ 64)<i/\i<2 ^ 64)\/(-(2 ^ 64)<j/\j<2 ^ 64)
def CMul.ok{i j:Int}(h:CMul i j):IntMulOk i j:=by
 rcases h with⟨h1,h2⟩|⟨h1,h2⟩
 .exact .of_left (intBits_le_64 h1 h2)
 .exact .of_right (intBits_le_64 h1 h2)
def Pu:OpR X (binaryOp .Add) (Hf λi j=>.int (i+j)):=Hg λ_ _ _ _ _ _ _ q=>add_int q
def Pw:OpR X (binaryOp .Sub) (Hf λi j=>.int (i - j)):=Hg λ_ _ _ _ _ _ _ q=>sub_int q
theorem Px:OpR X (binaryOp .Mod) (rI (λ_ j=>0<j) λi j=>.int (i % j)):=E7 λi j _ _ _ _ _ a q=>by have h1:_<j:=a;exact mod_int' #[0] (by rw[Int.fmod_eq_emod_of_nonneg i #[0]];exact q)
def Py:OpR X (binaryOp .BitAnd) (Hf λi j=>.int (Builtin.bitAnd i j)):=Hg λ_ _ _ _ _ _ _ q=>and_int q
def Xn:OpR X (binaryOp .BitOr) (Hf λi j=>.int (Builtin.bitOr i j)):=Hg λ_ _ _ _ _ _ _ q=>or_int q
def unI{f:ń->Sem ń}{g:Int->Int}
  (rule: ∀(i:Int)(t:Tok)(s:Ń)(Q:VP)(E:VP),Q (.int (g i) s.toks) {s with toks:=s.toks+1}->wpAny (model X.prog X.w) X.A (f (.int i t)) Q E s):
  UnR X f (rU λi=>.int (g i)):=by
 intro pins s σ H x v Q I a h;obtain⟨i,rfl,q⟩:=h;obtain⟨t,rfl⟩:=a;exact rule i t s _ _ ⟨.int (g i),H,I.tok _,⟨_,rfl⟩,q⟩
def Ar:UnR X (unaryOp .USub) (rU λi=>.int (-i)):=unI λ_ _ _ _ _ q=>neg_int q
end
section
variable{X:Cx}{a b:Expr}{ta tb:TE}{pos:Pos}
def RP{s:Ń}{Q:VK}{k k':Bool}(I:↑2)(q:Q (.bl k) H)(e:k=k'):EP X pins σ Q (.bool k') s:=by subst e;exact⟨.bl k,H,I,rfl,q⟩
def Xo:OpR X (compareOp .Gt) (Hf λi j=>.bl (decide (j<i))):=opB0 λ_ _ _ _ _ _ _ q=>gt_int q
def XT:OpR X (compareOp .In) (λx y H Q=> ∃i j,x=.str i/\y=.str j/\Q (.bl (!(Builtin.Str.occurrences j i 0 j.length 1).isEmpty)) H):=by intro pins s σ H x y v u Q I a b h;obtain⟨i,j,rfl,rfl,q⟩:=h;obtain⟨t,rfl⟩:=a;obtain⟨t',rfl⟩:=b;exact in_str (RP I q rfl)
def Hh:OpR X (compareOp .IsNot) (λx y H Q=>y=.non/\Q (.bl (!decide (x=.non))) H):=by
 intro pins s σ H x y v u Q I a b h;obtain⟨rfl,q⟩:=h;cases b;refine isnot_none_gen (RP I q ?_)
 cases x<;>first
  |(cases a;rfl)
  |(obtain⟨t,rfl⟩:=a;rfl)
def KA:OpR X (compareOp .NotIn) (λx y H Q=> ∃i j,x=.str i/\y=.str j/\Q (.bl (!(!(Builtin.Str.occurrences j i 0 j.length 1).isEmpty))) H):=by intro pins s σ H x y v u Q I a b h;obtain⟨i,j,rfl,rfl,q⟩:=h;obtain⟨t,rfl⟩:=a;obtain⟨t',rfl⟩:=b;exact notIn_str (RP I q rfl)
def OpR.or{f:ń->ń->Sem ń}{r c:R2}(h:OpR X f r)(h':OpR X f c):OpR X f (λx y H Q=>r x y H Q\/c x y H Q):=by
 intro pins s σ H x y v u Q I a b q;rcases q with q|q
 .exact h pins s σ H x y v u Q I a b q
 .exact h' pins s σ H x y v u Q I a b q
def As(b:Expr){a:CmpOp}(h:a≠.In:=by decide)(c:a≠.NotIn:=by decide):behindInMarks a b=false:=by
 have e:(a==CmpOp.In)=false:=by cases a<;>first |rfl|exact absurd rfl h
 have d:(a==CmpOp.NotIn)=false:=by cases a<;>first |rfl|exact absurd rfl c
 cases b<;>simp[behindInMarks,e,d]
def Hi{c:CmpOp}{r:R2}(j:OpR X (compareOp c) r)(i:PE X a ta)(m:PE X b tb)(p:behindInMarks c b=false):PE X (.Compare a [c] [b] pos) (E6 r ta tb):=by intro pins s σ H Q I h;exact wpAny_Compare1 (Pt i m I h λv u n x y e k d o q=>j pins n σ e x y v u Q k d o q) p
def Xp(t:TE):TT:=λσ H Q=>t σ H λx H'=> ∃k,x=.bl k/\Q k H'
def Hj{d:CmpOp}{r:R2}(o:OpR X (compareOp d) r)(n:PE X a ta)(B:PE X b tb)(J:behindInMarks d b=false):PT X (.Compare a [d] [b] pos) (Xp (E6 r ta tb)):=by
 intro pins s σ H Q I h
 refine wpAny_isTrue_Compare1 (kY (n pins s σ H _ I h) λv E ⟨x,H1,I1,C,F⟩=>kY (B pins E σ H1 _ I1 F) λu D ⟨y,j,A,G,i⟩=>
  kY (o pins D σ j x y v u _ A C G i) λc K ⟨z,q,p,w,k,e,m⟩=>?_) J
 subst e;cases w;exact ĵ ⟨q,p,m⟩
def Pz(K:J9)(x:V)(H:Hp)(k:Bool):Prop:=
 match x with
 |.non=>k=false
 |.bl b=>k=b
 |.int i=>k=(i !=0)
 |.str y=>y.length<=sizeLine/\k=((y.length:Int) !=0)
 |.byt y=>y.size<=sizeLine/\k=((y.size:Int) !=0)
 |.ref p=>(∃xs,SqL K H p xs/\k= !xs.isEmpty)\/(∃xs,SqT K H p xs/\k= !xs.isEmpty)\/ ∃kvs,H p=some (.dK kvs)/\k= !kvs.isEmpty
 |_=>False
theorem RQ{a:Type}{kvs:List (a×V)}{vs:List (a×ń)}(r:KV kvs vs):(!vs.isEmpty)= !kvs.isEmpty:=by cases r<;>rfl
def DZ{xs:List V}{its:A0}(r:Vals xs its):(!its.toArray.isEmpty)= !xs.isEmpty:=by cases r<;>simp
def sY:(sizeLine:Nat)<2 ^ 63:=by rw[ė];decide
theorem Qa:TruR X (λx H Q=> ∃k,Pz X.K x H k/\Q k H):=by
 intro pins s σ H x v Q I d h;obtain⟨k,e,q⟩:=h;have w:=sY;have hs:=ė
 cases x with
 |non=>
  cases d;have a:=e;subst a;exact truthy_none ⟨H,I,q⟩
 |bl b=>
  cases d;have a:=e;subst a;exact ĵ ⟨H,I,q⟩
 |int i=>
  obtain⟨t,rfl⟩:=d;have a:k=_:=e;subst a;exact PySem.P.truthy_int ⟨H,I,q⟩
 |str y=>
  obtain⟨t,rfl⟩:=d;obtain⟨u,a⟩:y.length<=sizeLine/\k=_:=e;subst a;exact PySem.P.truthy_str #[0] ⟨H,I.tok _,q⟩
 |byt y=>
  obtain⟨t,rfl⟩:=d;obtain⟨u,a⟩:y.size<=sizeLine/\k=_:=e;subst a;exact PySem.W.truthy_bytes #[0] ⟨H,I.tok _,q⟩
 |ref p=>
  cases d;have a:_\/_\/ ∃kvs,H p=some (.dK kvs)/\k= !kvs.isEmpty:=e;rcases a with⟨xs,hx,a⟩|⟨xs,hx,a⟩|⟨kvs,hx,a⟩
  .subst a;obtain⟨its,r,j,n⟩:=I.list hx;have c:=r.length;exact wpAny_truthy_list j.isList (by simp only[sA0];lia) ⟨H,I.tok _,by rw[DZ r];exact q⟩
  .subst a;obtain⟨its,r,j,n⟩:=I.tuple hx;have c:=r.length;exact truthy_tuple j (by simp only[sA0];lia) ⟨H,I.tok _,by rw[DZ r];exact q⟩
  .subst a;obtain⟨n,o,vs,r,m⟩:kvs.length<=sizeLine/\_=false/\ ∃vs,KV kvs vs/\s.heap.DictOf _ p vs:=I.hok p _ hx;have c:kvs.length=vs.length:=Paired.length r;exact wpAny_truthy_dict o m #[0] ⟨H,I.tok _,by rw[RQ r];exact q⟩
 |_=>exact e.elim
def Au(c:PE X a ta)(j: ∀b,isTrue a X.env b=(do let v <-b;standAt a.pos;holding [v] (truthy v))):
  PT X a (λσ H Q=>ta σ H λx H'=> ∃k,Pz X.K x H' k/\Q k H'):=by
 intro pins s σ H Q I h;exact isTrue_plain (kY (c pins s σ H _ I h) λv e ⟨x,H1,I1,d,i⟩=>Qa pins e σ H1 x v Q I1 d i) (j _)
def RR:OpR X (binaryOp .Add) (λx y H Q=> ∃i j,x=.str i/\y=.str j/\i.length+j.length<=sizeLine/\Q (.str (i++j)) H):=by intro pins s σ H x y v u Q I a b h;obtain⟨i,j,rfl,rfl,c,q⟩:=h;obtain⟨t,rfl⟩:=a;obtain⟨t',rfl⟩:=b;exact add_str (λt' d=>⟨.str _,H,I.tok _,⟨_,rfl⟩,q⟩) c
def vals1{x:V}(r:Vals [x] us): ∃u,us=[u]/\RelV x u:=by
 cases r with
 |cons r1 r2=>cases r2;exact⟨_,rfl,r1⟩
def vals2{x y:V}(r:Vals [x,y] us): ∃u a,us=[u,a]/\RelV x u/\RelV y a:=by
 cases r with
 |cons r1 r2=>
  cases r2 with
  |cons r3 r4=>cases r4;exact⟨_,_,rfl,r1,r3⟩
end
structure Cls(K:J9)(C:Addr):Prop where
 pg:PySem.W.plainGet K C Str.empty=true
 hd:PySem.W.hasDictIn K C=true
 po:PySem.W.plainOver K C=true
 sa:PySem.W.findIn K (.ref C) "__setattr__"=some (some (.builtin "object.__setattr__"))
section
variable{H:Hp}
inductive rX(K:J9)(H:Hp):V->ń->Prop where
 |non:rX K H .non (.type "NoneType")
 |bl (x:Bool):rX K H (.bl x) (.type "bool")
 |int (i:Int):rX K H (.int i) (.type "int")
 |str (x:Str):rX K H (.str x) (.type "str")
 |flt (x:UInt64):rX K H (.flt x) (.type "float")
 |lst {a:Addr} {xs:List V} (e:H a=some (.lst xs)):rX K H (.ref a) (.type "list")
 |frz {a:Addr} {o:Obj} {xs:List V} (e:H a=some (.frz o (.lst xs))):rX K H (.ref a) (.type "list")
 |tup {a:Addr} {xs:List V} (e:H a=some (.tup xs)):rX K H (.ref a) (.type "tuple")
 |dK {a:Addr} {kvs:List (Key×V)} (e:H a=some (.dK kvs)):rX K H (.ref a) (.type "dict")
 |dT {a:Addr} {kvs:List (List Key×V)} (e:H a=some (.dT kvs)):rX K H (.ref a) (.type "dict")
 |ins {a C dx:Addr} {fs:List (Str×V)} (e:H a=some (.ins C dx fs)) (cl:Cls K C) (ha:PySem.W.findIn K (.ref C) "__class__"=some (some (.builtin "object.__class__")))
   (hn:PySem.W.specialIn K (.builtin "object.__class__") "__get__"=some (some (.builtin "getset_descriptor.__get__"))) (htk:PySem.W.takesIn K (.builtin "object.__class__")=some true)
   (hm:PySem.W.mroIn K C (.type "object")=some true):rX K H (.ref a) (.ref C)
end
structure Room(k:Nat)(A:Ņ):Prop where
 hd:A.handled=none
 dp:A.depth+3 * k+5<recursionLimit
 un:A.units+16 * k+200<cLine
theorem Room.mono{j k:Nat}{A:Ņ}(r:Room k A)(h:j<=k):Room j A:=⟨r.hd,by have:=r.dp;lia,by have:=r.un;lia⟩
theorem Room.deeper{k:Nat}{A:Ņ}(r:Room (k+1) A)(a:Env):Room k (A.deeper a):=
 ⟨r.hd,by have:=r.dp;show A.depth+1+3 * k+5<_;lia,by have:=r.un;show A.units+3+16 * k+200<_;lia⟩
theorem Room.in1{k:Nat}{A:Ņ}(r:Room (k+1) A):Room k A.in1:=
 ⟨r.hd,by have:=r.dp;show A.depth+3 * k+5<_;lia,by have:=r.un;show A.units+1+16 * k+200<_;lia⟩
def Room.depth{k:Nat}{A:Ņ}(r:Room k A):A.depth<recursionLimit:=by have:=r.dp;omega
def Room.units{k:Nat}{A:Ņ}(r:Room k A):A.units+64<cLine:=by have:=r.un;omega
def tNil:TA:=λ_ H Q=>Q [] H
def Xq(ta:TE)(tr:TA):TA:=λσ H Q=>ta σ H λx H1=>tr σ H1 λxs a=>Q (x::xs) a
section
variable{X:Cx}{e:Expr}{es:J8}{te:TE}{t:TA}{pos:Pos}
def Qb:PA X [] tNil:=λ_ _ _ _ H Q I h=>Calls.spliced_nil ⟨[],H,I,.nil,h⟩
abbrev q9(X:Cx)(e:Expr)(es:List Expr):Prop:=starEach (e::es) X.env=(false,eval e X.env)::starEach es X.env
def Hk(c:PE X e te)(d:PA X es t)(hs:q9 X e es:=by rfl):PA X (e::es) (Xq te t):=by intro pos pins s σ H Q I h;rw[hs];show wpAny _ _ _ _ _ s;refine Calls.spliced_cons (kY (c pins s σ H _ I h) λu k ⟨x,H1,I1,j,m⟩=>?_);exact kY (d pos pins k σ H1 _ I1 m) λus o ⟨xs,b,i,n,a⟩=>⟨_,b,i,.cons j n,a⟩
def tTup(t:TA):TE:=λσ H Q=>t σ H λxs H1=>xs.length<=sizeLine/\ ∀p,H1 p=none->Q (.ref p) (wC H1 p (.tup xs))
def tLst(t:TA):TE:=λσ H Q=>t σ H λxs H1=>xs.length<=sizeLine/\ ∀p,H1 p=none->Q (.ref p) (wC H1 p (.lst xs))
def Qc{x1}(h:PA X es t):PE X (.Tuple es x1 pos) (tTup t):=by intro pins s σ H Q I c;refine wpAny_Tuple_spliced (kY (h pos pins s σ H _ I c) λus a ⟨xs,H1,I1,r,z,q⟩=>⟨by rw[<-r.length];exact z,?_⟩);have d:=I1.hok.fresh (à _);refine⟨.ref a.heap.objs.size,_,I1.laid (λb u e=>hP0 _ e) (à _) ?_,rfl,q _ d⟩;exact⟨z,us,r,⟨_,ã _ rfl,rfl,_,rfl⟩⟩
def Qd(h:PA X es t):PE X (.List es pos) (tLst t):=by intro pins s σ H Q I c;refine wpAny_List_spliced (kY (h pos pins s σ H _ I c) λus a ⟨xs,H1,I1,r,z,q⟩=>⟨by rw[<-r.length];exact z,?_⟩);have d:=I1.hok.fresh (à _);refine⟨.ref a.heap.objs.size,_,I1.laid (λb u e=>hP0 _ e) (à _) ?_,rfl,q _ d⟩;exact⟨z,us,0,r,ã _ rfl⟩
end
abbrev Sp:=List V->Hp->VK->XK->Prop
abbrev XU:=List Env->Hp->Shared->XK->VP
structure Env0(P:ņ)(w:World)(K:J9)(mg:H9)(base:Heap)(A:Ņ)(outer:List Env)(s:Ń)(H:Hp):Prop where
 frames:A.frames=some outer
 mod:Mod K mg base
 bs: ∀b o,base.get? b=some o->s.heap.get? b=some o/\H b=none
 bsz:base.objs.size<=↑0
 funs:s.heap.FunFrames base outer
 frf: ∀b∈XQ outer,H b=none
 hok:HOk P w H s.heap
 bare:AllBare s.gens
def CE(a:List Env)(P:ņ)(w:World)(H:Hp)(s:Ń)(Q:VK)(u:ń)(s':Ń):Prop:=
 ∃v H',s'.os=s.os/\AllBare s'.gens/\Un (XQ a) [] H H' s.heap s'.heap/\HOk P w H' s'.heap/\RelV v u/\Q v H'
def CR(CX:XU)(a:List Env)(P:ņ)(w:World)(H:Hp)(s:Ń)(Q:VK)(E:XK)(r:Result)(s':Ń):Prop:=
 match r with
 |.ok (.ret u)=>CE a P w H s Q u s'
 |.ok _=>False
 |.error e=>CX a H s E e s'
structure FnOk(P:ņ)(w:World)(K:J9)(mg:H9)(base:Heap)(CX:XU)(k:Nat)(f:Addr)(fd:FuncData)(ps:C0)(sp:Sp):Prop where
 len: ∀vs H Q E,sp vs H Q E->vs.length=ps.length
 run: ∀(A:Ņ)(outer:List Env)(s:Ń)(H:Hp)(args:Args)(us:A0)(vs:List V)(Q:VK)(E:XK),Room k A->Env0 P w K mg base A outer s H->BindsTo s fd args (ps.zip us)->Vals vs us->sp vs H Q E->
  codeAny (model P w) A (.call (.ref f) args) (CR CX outer P w H s Q E) s
def FnOk.imp{P:ņ}{w:World}{K:J9}{mg:H9}{base:Heap}{CX:XU}{k:Nat}{f:Addr}{fd:FuncData}{ps:C0}{sp b:Sp}(F:FnOk P w K mg base CX k f fd ps sp)
  (h: ∀vs H Q E,b vs H Q E->sp vs H Q E):FnOk P w K mg base CX k f fd ps b:=
 ⟨λvs H Q E q=>F.len vs H Q E (h _ _ _ _ q),λA a s H c us vs Q E e j i d hs=>F.run A a s H c us vs Q E e j i d (h _ _ _ _ hs)⟩
def Env0.in1{P:ņ}{w:World}{K:J9}{mg:H9}{base:Heap}{A:Ņ}{a:List Env}{s:Ń}(e:Env0 P w K mg base A a s H):
  Env0 P w K mg base A.in1 a s H:=⟨e.frames,e.mod,e.bs,e.bsz,e.funs,e.frf,e.hok,e.bare⟩
section
variable{X:Cx}{pins:J5}{σ:St}{H:Hp}{s s':Ń}
def Inv.env0(I:↑2):Env0 X.prog X.w X.K X.mg X.base X.A X.stack s H:=
 ⟨I.ok.frames,I.ok.mod,I.bs,ø I.ok.bsz I.sz,I.stack,I.stkFree,I.hok,I.bare⟩
def Inv.after{Q:VK}{u:ń}(I:↑2)(h:CE X.stack X.prog X.w H s Q u s'):EP X pins σ Q u s':=by obtain⟨v,H',i,a,un,c,r,q⟩:=h;obtain⟨j,g,d,t,e⟩:=s';obtain rfl:e=s.os:=i;exact⟨v,H',I.call un c a (λb z=>absurd z (by simp)),r,q⟩
end
def Xr(sp:Sp)(dvs:List V)(E:XK)(t:TA):TE:=λσ H Q=>t σ H λvs H1=>sp (vs++dvs) H1 Q E
def Binds(K:J9)(fd:FuncData)(ps:C0)(ds:A0):Prop:=
 ∀(s:Ń)(us:A0),K.In s.heap->(us++ds).length=ps.length->BindsTo s fd ⟨us,[]⟩ (ps.zip (us++ds))
def Binds.all{K:J9}{fd:FuncData}{ps:C0}(h: ∀us:List ń,us.length=ps.length->bindArgs fd ⟨us,[]⟩=pure (ps.zip us)):Binds K fd ps []:=λs us _ a=>by rw[aN]at a ⊢;exact .of_eq (h us a)
def RS(CX:XU)(X:Cx)(E:XK):Prop:= ∀(pins:J5)(σ:St)(H:Hp)(s:Ń)(e:ń)(s':Ń),Inv X pins σ H s->CX X.stack H s E e s'->X.xe e s'
section
variable{X:Cx}{CX:XU}{k:Nat}{f:Addr}{fd:FuncData}{ps:C0}{sp:Sp}{dvs:List V}{ds:A0}{E:XK}{x:Str}{p pos:Pos}{e:Expr}{es:J8}{t:TA}
def Qe{s:Ń}{Q:VK}{vs:List V}(F:FnOk X.prog X.w X.K X.mg X.base CX k f fd ps sp)(d:Room k X.A)(i:Binds X.K fd ps ds)(hd:Vals dvs ds)(j:RS CX X E)
  (I:↑2) (r:Vals vs us) (h:sp (vs++dvs) H Q E):wpAny (model X.prog X.w) X.A (call (.ref f) us) (EP X pins σ Q) X.xe s:=by
 have b:Vals _ _:=r.append hd;have c:(us++ds).length=ps.length:=by rw[<-b.length];exact F.len _ _ _ _ h
 refine wpAny_call (codeAny_mono (F.run X.A X.stack s H ⟨us,[]⟩ _ _ Q E d I.env0 (i s us I.kIn c) b h) λr s' a=>?_)
 cases r with
 |error e=>exact j pins σ H s e s' I a
 |ok fl=>
  cases fl with
  |ret u=>exact I.after a
  |next=>exact False.elim a
  |brk=>exact False.elim a
  |cont=>exact False.elim a
abbrev Q1(X:Cx)(p:Pos)(es:List Expr):Prop:=(backTo p (starEach es X.env)).any (·.1)=false
def Hl(F:FnOk X.prog X.w X.K X.mg X.base CX k f fd ps sp)(c:Room k X.A)(b:Gl X x)(j:X.mg x=some (.ref f))(a:PySem.W.keepIn X.K (.ref f)=true)(d:Binds X.K fd ps ds)(hd:Vals dvs ds)(i:RS CX X E)
  (ha:PA X (e::es) t) (hdb:(x==("__debug__":Str))=false:=by decide) (he:q9 X e es:=by rfl) (hpl:Q1 X pos es:=by rfl):
  PE X (.Call (.Name x p) (e::es) [] pos) (Xr sp dvs E t):=by
 intro pins s σ H Q I h;refine wpAny_Call_Name_kw (JZ I b j ?_ hdb);refine PySem.W.callWith_K I.ok.mod.kin a (kY (ha pos pins s σ H _ I h) λus m ⟨vs,H1,I1,r,q⟩=>⟨I1.kIn,?_⟩) he hpl;exact Qe F c d hd i I1 r q
end
structure FnScope(N P:C0)(sc:Scope):Prop where
 kind:sc.kind=.function
 co:sc.isCoroutine=false
 gen:sc.isGenerator=false
 nd:N.Nodup
 pre:N.take P.length=P
 par: ∀x∈P,sc.names.lookup x=some .local\/sc.names.lookup x=some .cell
 nofree: ∀y∈sc.names,y.2≠.free
theorem IA{a:Str->Option NameKind}{x:Str}: ∀{binds:List (Str×ń)}{m:H9},(∀v,(x,v)∉binds)->bindL a binds m x=m x
 |[],_,_=>rfl
 |(n,v)::r,m,h=>by
  unfold bindL;rw[IA λw hw=>h w (mO _ hw)];split
  .have:x≠n:=by rintro rfl;exact h v mF0
   simp[this]
  .rfl
theorem IB{a:Str->Option NameKind}{x:Str}: ∀{binds:List (Str×ń)}{m:H9},(∀v,(x,v)∉binds)->bindC a binds m x=m x
 |[],_,_=>rfl
 |(n,v)::r,m,h=>by
  unfold bindC;rw[IB λw hw=>h w (mO _ hw)];split
  .rfl
  .have:x≠n:=by rintro rfl;exact h v mF0
   simp[this]
theorem IC{a:Str->Option NameKind}{x:Str}{v:ń}: ∀{P:C0}{vs:A0}{i:Nat}{m:H9},P.Nodup->P[i]? =some x->vs[i]? =some v->a x=some .local->
  bindL a (P.zip vs) m x=some v
 |[],_,_,_,_,h,_,_=>by simp at h
 |_::_,[],_,_,_,_,h,_=>by simp at h
 |p::P,w::vs,0,m,nd,h1,h2,hk=>by simp at h1 h2;subst h1;subst h2;show bindL a (_::P.zip vs) m p=_;unfold bindL;rw[IA λv b=>(nodup_cons.mp nd).1 (of_mem_zip b).1,iP hk];simp
 |p::P,w::vs,i+1,m,nd,h1,h2,hk=>by show bindL a _ m x=_;unfold bindL;exact IC (nodup_cons.mp nd).2 (by simpa using h1) (by simpa using h2) hk
theorem IE{a:Str->Option NameKind}{x:Str}{v:ń}: ∀{P:C0}{vs:A0}{i:Nat}{m:H9},P.Nodup->P[i]? =some x->vs[i]? =some v->a x≠some .local->
  bindC a (P.zip vs) m x=some v
 |[],_,_,_,_,h,_,_=>by simp at h
 |_::_,[],_,_,_,_,h,_=>by simp at h
 |p::P,w::vs,0,m,nd,h1,h2,hk=>by simp at h1 h2;subst h1;subst h2;show bindC a (_::P.zip vs) m p=_;unfold bindC;rw[IB λv b=>(nodup_cons.mp nd).1 (of_mem_zip b).1,iN hk];simp
 |p::P,w::vs,i+1,m,nd,h1,h2,hk=>by show bindC a _ m x=_;unfold bindC;exact IE (nodup_cons.mp nd).2 (by simpa using h1) (by simpa using h2) hk
noncomputable def start(N:C0)(vs:List V):St:=vs.map some++List.replicate (N.length - vs.length) none
noncomputable def KB(CX:XU)(P:ņ)(w:World)(K:J9)(mg:H9)(base:Heap)(N:C0)(qual:Str)(scope:Scope)(f:Addr)(cd:ń)(A:Ņ)(outer:List Env)(s:Ń)(H:Hp)(E:XK):Cx where
 prog:=P
 w:=w
 K:=K
 mg:=mg
 base:=base
 A:=A.deeper (envOfC qual scope ↑0 f cd)
 N:=N
 s₀:=s
 H₀:=H
 env:=envOfC qual scope ↑0 f cd
 outer:=outer
 stack:=envOfC qual scope ↑0 f cd::outer
 ex:=[]
 calm:=true
 fn:=λ_=>true
 pn:=[]
 xe:=λe s'=>wpAny (model P w) (A.deeper (envOfC qual scope ↑0 f cd)) (leaving (envOfC qual scope ↑0 f cd) e) (λ_ s''=>CX outer H s E e s'') (λe' s''=>CX outer H s E e' s'') s'
def OE{sc:Scope}{n:Nat}{x:Str}(h:sc.names.lookup x=some .cell): ∃c,(cellsFrom n sc.names []).lookup x=some c:=by have q:=PySem.W.cellsFrom_some sc.names n [] (.inl h);exact ñ.mp q
theorem XX{CX:XU}{P:ņ}{w:World}{K:J9}{mg:H9}{base:Heap}{N ps:C0}{qual:Str}{d:Scope}{f:Addr}{cd:ń}{A:Ņ}{j:List Env}{s G:Ń}{E:XK}{vs:List V}
  (S:FnScope N ps d) (hd:A.handled=none) (e0:Env0 P w K mg base A j s H) (hl:vs.length=ps.length) (r:Vals vs us)
  (x:InCallC s ↑0 (bindL (envOfC qual d ↑0 f cd).kindOf (ps.zip us) λ_=>none) (cellsFrom (↑0+1) d.names []) (bindC (envOfC qual d ↑0 f cd).kindOf (ps.zip us) λ_=>none) G):
  Inv (KB CX P w K mg base N qual d f cd A j s H E) [] (start N vs) H G:=by
 have L:=by have:=congrArg List.length S.pre;rw[lT]at this;omega
 obtain⟨h1,O,rfl,F⟩:=x.done;have n: ∀b:Addr,b∉(KB CX P w K mg base N qual d f cd A j s H E).ex:=λb z=>absurd (show b∈([]:B9)from z) (by simp)
 refine⟨⟨e0.mod,S.kind,rfl,rfl,à _,λy z c h1 m=>?_,λy o=>?_,λy c _ h=>?_,λ_=>hd,Around.frames_deeper e0.frames,.inr ⟨rfl,rfl⟩,λb z=>absurd z (n b),e0.bs,e0.bsz,λb _ _=>n b,λb z=>absurd z (n b),e0.funs,e0.frf⟩,
  rfl,e0.bare,Un.kept F,⟨_,x.toInCall.ns,λi y v h1 m M=>?_⟩,λy c h=>⟨_,x.cell y c h⟩,e0.hok.fresh (à _),λy c h=>?_,λp C=>absurd (show p∈([]:List _)from C) (by simp),e0.hok.kept F,?_⟩
 .exact name_of_addr x.apart (PySem.mem_of_lookup h1) (PySem.mem_of_lookup m)
 .have o:=o;rcases o with o|o
  .exact OE o
  .exact absurd rfl (S.nofree _ (PySem.mem_of_lookup o))
 .exact le_of_lt (x.above y c (PySem.mem_of_lookup h))
 .have hi:i<vs.length:=by
   unfold start at m;by_cases hi:i<vs.length
   .exact hi
   .rw[å (by simpa using hi)]at m;rw[List.getElem?_replicate]at m;split at m<;>cases m
  have I:vs[i]? =some v:=by
   unfold start at m;rw[á (by simpa using hi),ö]at m
   cases e:vs[i]? with
   |none=>rw[e]at m;cases m
   |some a=>rw[e]at m;cases m;rfl
  obtain⟨u,D,J⟩:=r.get I;have C:ps[i]? =some y:=by rw[<-S.pre,ĩ (by omega)];exact h1
  have B:ps.Nodup:=by rw[<-S.pre];exact S.nd.sublist (List.take_sublist _ _)
  refine⟨u,J,?_⟩;rcases S.par y (è C)with k|k
  .exact .inl ⟨k,IC B C D k⟩
  .obtain⟨c,e⟩:=OE k;refine .inr ⟨.inl k,c,e,?_⟩;have q:=x.cell y c e;rw[IE B C D (by show d.names.lookup y≠_;rw[k];decide)]at q;exact q
 .exact e0.hok.fresh (le_of_lt (x.above y c (PySem.mem_of_lookup h)))
 .unfold start;show _=N.length;rw[lA,lM,Ċ]
  lia
def Xs{CX:XU}{P:ņ}{w:World}{K:J9}{mg:H9}{base:Heap}{k:Nat}{f:Addr}{name qual:Str}{h:Arguments}{body:List Stmt}{a:Scope}{G kV z L d ct T:ń}{O od:Option Addr}
  {osl:Array (Option ń)} {N ps:C0} {sp:Sp} (lk:K.lookup f=some ⟨T,od,.func (PySem.W.fnOf name qual h body a G kV z L O d ct),osl⟩) (hcd:PySem.W.codeIn K d qual=true) (S:FnScope N ps a)
  (len: ∀vs H Q E,sp vs H Q E->vs.length=ps.length)
  (hbody: ∀(A:Ņ)(c:List Env)(s:Ń)(H:Hp)(vs:List V)(Q:VK)(E:XK),Room k (A.deeper (envOfC qual a ↑0 f d))->sp vs H Q E->
   ∃t,PSs (KB CX P w K mg base N qual a f d A c s H E) body t/\t {nx:=λ_ H'=>Q .non H',rt:=Q} (start N vs) H):
  FnOk P w K mg base CX (k+1) f (PySem.W.fnOf name qual h body a G kV z L O d ct) ps sp:=by
 refine⟨len,λA c s H F us vs Q E B p U r m=>?_⟩;have Y:=len _ _ _ _ m;have KX:=p.mod.kin.keeps λb o e=>(p.bs b o e).1;have C:=p.mod.nolimit.keeps λb o e=>(p.bs b o e).1
 have j: ∀y∈ps.zip us,a.names.lookup y.1=some .local\/(a.names.lookup y.1=some .cell/\((cellsFrom (↑0+1) a.names []).lookup y.1).isSome=true):=λ⟨n,v⟩ hy=>by
  rcases S.par n (of_mem_zip hy).1 with q|q
  .exact .inl q
  .exact .inr ⟨q,PySem.W.cellsFrom_some _ _ _ (.inl q)⟩
 refine codeAny_call_function B.depth (KX _ _ lk) rfl S.co S.gen rfl (PySem.W.codeRec_of KX hcd) (U _ _ _ _ ?_);refine wpAny_newFunctionEnv_cells S.kind j λaa he M x=>?_;subst he;refine⟨C.keeps x.toInCall.keep,codeAny_func ?_⟩;obtain⟨t,X,Z⟩:=hbody A c s H vs Q E (B.deeper _) m;have I:Inv (KB CX P w K mg base N qual a f d A c s H E) [] _ H M:=XX S B.hd p Y r x;refine û (X [] M _ H _ I Z) (λfl s' hs=>?_) λe s' hs=>hs
 have fin: ∀{i:St}{H':Hp}{v:V}{u:ń},Inv (KB CX P w K mg base N qual a f d A c s H E) [] i H' s'->RelV v u->Q v H'->CE c P w H s Q u s':=
  λ{i H' v u} J D q=>⟨v,H',J.os,J.bare,J.base,J.hok,D,q⟩
 cases fl with
 |ret u=>
  obtain⟨v,i,H',J,D,q⟩:=hs;exact fin J D q
 |next=>
  obtain⟨i,H',J,q⟩:=hs;exact fin (v:=V.non) J rfl q
 |brk=>
  obtain⟨_,_,_,q⟩:=hs;exact False.elim q
 |cont=>
  obtain⟨_,_,_,q⟩:=hs;exact False.elim q
section
variable{X:Cx}{x:Str}{p pos:Pos}{e:Expr}{es:J8}{t:TA}{id T:String}{r:List V->Hp->VK->Prop}
def tCB(r:List V->Hp->VK->Prop)(t:TA):TE:=λσ H Q=>t σ H λvs H1=>r vs H1 Q
def Av(k:CallR X (.builtin id) r)(b:Gl X x)(o:X.mg x=none)(d:bootBuiltins x=some (.builtin id))(c:PA X (e::es) t)(i:x≠"__name__":=by decide)(a:(x==("__debug__":Str))=false:=by decide)
  (he:q9 X e es:=by rfl) (hpl:Q1 X pos es:=by rfl):PE X (.Call (.Name x p) (e::es) [] pos) (tCB r t):=by
 intro pins s σ H Q I h;refine wpAny_Call_Name_kw (oM I b o d ?_ i a);exact PyProof.Rows.callWith_builtin1 (kY (c pos pins s σ H _ I h) λus m ⟨vs,H1,I1,j,n⟩=>k pins m σ H1 vs us Q I1 j n) he hpl
def XY(k:CallR X (.type T) r)(b:Gl X x)(o:X.mg x=none)(d:bootBuiltins x=some (.type T))(c:PA X (e::es) t)(i:x≠"__name__":=by decide)(a:(x==("__debug__":Str))=false:=by decide)
  (he:q9 X e es:=by rfl) (hpl:Q1 X pos es:=by rfl):PE X (.Call (.Name x p) (e::es) [] pos) (tCB r t):=by
 intro pins s σ H Q I h;refine wpAny_Call_Name_kw (oM I b o d ?_ i a);exact Č (kY (c pos pins s σ H _ I h) λus m ⟨vs,H1,I1,j,n⟩=>k pins m σ H1 vs us Q I1 j n) he hpl
end
end L2
namespace HT
open PySem PyProof.Rows
section
variable{prog:ņ}{w:World}{A:Ņ}{E:VP}{s:Ń}
def cat_tup{t b:Addr}{vs ws:A0}{Q:VP}(q:IsTup s.heap t vs.toArray)(r:IsTup s.heap b ws.toArray)(k:vs≠[])
  (h1:ws=[]->Q (.ref t) s) (h2:ws≠[]->Q (.ref ↑0) {s with heap:=s.heap.push {cls:=.type "tuple",data:=.seq (vs++ws).toArray}})
  (hsz:vs.length+ws.length<=sizeLine):wpAny (model prog w) A (binaryOp .Add (.ref t) (.ref b)) Q E s:=by
 obtain⟨⟨cls,m,data,sl⟩,h,u,n,hd⟩:=id q;obtain⟨⟨o,d,_,c⟩,a,i,p,j⟩:=id r;subst u hd i j;have e:vs.toArray++ws.toArray=(vs++ws).toArray:=by simp
 by_cases hw:ws=[]
 .exact concat_meets ⟨_,h,rfl⟩ ⟨_,a,rfl⟩ noFill_tuple_add seq_tuple_add PySem.F.slot_tuple_add PySem.F.entry_tuple_add (PySem.F.args_tuple_add_2 _ _)
   (tuple_addW1 t b vs.toArray ws.toArray n p m d sl c (by simpa using k) (by simp[hw])) ⟨h,a,h1 hw⟩
 .refine concat_meets ⟨_,h,rfl⟩ ⟨_,a,rfl⟩ noFill_tuple_add seq_tuple_add PySem.F.slot_tuple_add PySem.F.entry_tuple_add (PySem.F.args_tuple_add_2 _ _)
   (tuple_addW2 t b vs.toArray ws.toArray n p m d sl c (by simpa using k) (by simpa using hw) (by rw[sA0];exact hsz)) ⟨h,a,?_⟩
  rw[e];exact h2 hw
noncomputable def sIx(n d:Nat):Option Int->Nat
 |none=>d
 |some v=>if v<0 then(v+(n:Int)).toNat else min v.toNat n
theorem sIx_nat(n d k:Nat):sIx n d (some (k:Int))=min k n:=by show(if(k:Int)<0 then((k:Int)+(n:Int)).toNat else min (k:Int).toNat n)=min k n;rw[iN #[0],Ď]
theorem sIx_le(n d:Nat)(hd:d<=n)(o:J7):sIx n d o<=n:=by
 cases o with
 |none=>exact hd
 |some v=>
  show(if v<0 then(v+_).toNat else min v.toNat n)<=n;by_cases a:v<0
  .rw[iP a];lia
  .rw[iN a];exact Nat.min_le_right _ _
theorem UN(v:Int)(n d:Nat):(if v<0 then max (v+(n:Int)) 0 else min v (n:Int))=((sIx n d (some v):Nat):Int):=by
 show _=(((if v<0 then(v+_).toNat else min v.toNat n):Nat):Int)
 by_cases a:v<0
 .simp only[iP a];lia
 .simp only[iN a];lia
theorem RT(lo hi:J7)(n:Nat):Builtin.Slice.sliceAdjust lo hi 1 (n:Int)=(((sIx n 0 lo:Nat):Int),((sIx n n hi:Nat):Int)):=by
 have h1: ¬((1:Int)<0):=by lia
 unfold Builtin.Slice.sliceAdjust;refine Prod.ext ?_ ?_
 .cases lo with
  |none=>rfl
  |some v=>exact UN v n 0
 .cases hi with
  |none=>rfl
  |some v=>exact UN v n n
theorem RU(i j:Nat):Builtin.Slice.slicePlaces (i:Int) (j:Int) 1=j - i:=by
 unfold Builtin.Slice.slicePlaces;have h1:(1:Int)>0:=by lia
 split<;>lia
def EA{v:ń}{o:J7}{Q:Option Int->Ń->Prop}(p:IsPart v o)(h:Q o s):wpAny (model prog w) A (Builtin.Slice.slicePartIndex v) Q E s:=by
 cases p with
 |none=>exact slicePart_none h
 |int i t=>exact slicePart_int h
def sliceApplied_gen{sl:Addr}{d c:ń}{lo hi:J7}{n:Nat}{Q:Int×Int×Nat->Ń->Prop}(hs:s.heap.IsSliceOf sl d c .none)(i:IsPart d lo)(j:IsPart c hi)
  (h:Q (((sIx n 0 lo:Nat):Int),1,sIx n n hi - sIx n 0 lo) s):wpAny (model prog w) A (Builtin.Slice.sliceApplied (.ref sl) (pure (n:Int))) Q E s:=by
 obtain⟨k,b,e,a⟩:=id hs;refine wB (wB (ð b a rfl (wB (ð b a rfl (wB (ð b a rfl (wP ?_)))))));refine wB (slicePart_none ?_);show wpAny _ _ _ _ _ s;refine wB (EA i (wB (EA j (wB (wP ?_)))));show wpAny _ _ (match Builtin.Slice.sliceAdjust lo hi 1 _ with |(lo,hi)=>pure (lo,_,Builtin.Slice.slicePlaces lo hi 1)) _ _ s;rw[RT lo hi n];show wpAny _ _ (pure _) _ _ s;rw[RU];exact wP h
theorem Aw(xs:B0)(i k:Nat):((List.range k).filterMap λ(m:Nat)=>xs[((i:Int)+(m:Int) * 1).toNat]?).toArray=((xs.toList.drop i).take k).toArray:=by
 have e:(λ(m:Nat)=>xs[((i:Int)+(m:Int) * 1).toNat]?)=λm=>xs[i+m]? :=by
  funext m;have:((i:Int)+(m:Int) * 1).toNat=i+m:=by lia
  rw[this]
 rw[e];have:=pick_run xs i k;rw[List.filterMap_map]at this;have a:((λx=>xs[x]?)∘λx=>i+x)=λm=>xs[i+m]? :=rfl;rw[a]at this;rw[this]
def getItem_tuple_cut{t sl:Addr}{items:B0}{j k:ń}{lo hi:J7}{Q:VP}(b:IsTup s.heap t items)(hs:s.heap.IsSliceOf sl j k .none)(m:IsPart j lo)(o:IsPart k hi)
  (hw: ¬(sIx items.size 0 lo=0/\sIx items.size items.size hi=items.size))
  (h:Q (.ref ↑0) {s with heap:=s.heap.push {cls:=.type "tuple",data:=.seq ((items.toList.drop (sIx items.size 0 lo)).take (sIx items.size items.size hi - sIx items.size 0 lo)).toArray}})
  (hsz:items.size<=sizeLine):wpAny (model prog w) A (getItem (.ref t) (.ref sl)) Q E s:=by
 have a:sizeOk (.seq ((items.toList.drop (sIx items.size 0 lo)).take (sIx items.size items.size hi - sIx items.size 0 lo)).toArray):=by show((items.toList.drop (sIx items.size 0 lo)).take _).toArray.size<=sizeLine;rw[sA0,lT,õ,í];omega
 have r:sIx items.size items.size hi<=items.size:=sIx_le _ _ (à _) hi;obtain⟨p,c,d,n⟩:=id hs;have e:s.TypeIs (.ref sl) "slice":=⟨p,c,d⟩
 unfold getItem
 try with_reducible refine ú ?_
 first |refine wB (wP ?_)|skip
 refine wB (wpAny_sequenceKey b.typeIs (by decide) ?_)
 refine wB (î b.typeIs Ĥ
  (ì Ĥ b.typeIs entry_tuple_getitem ?_ (args_tuple_getitem _ _)))
 show wpAny _ _ (Builtin.Tuple.tupleItemsOf (.ref t) >>= _) _ _ s;refine wB (tupleItemsOf_ b ?_);refine wB (ĝ e ?_);rw[iP (by decide)];refine wB (sliceApplied_gen hs m o ?_);have i: ¬((((sIx items.size 0 lo:Nat):Int)==0&&(1:Int)==1&&(sIx items.size items.size hi - sIx items.size 0 lo)==items.size)=true):=by intro q;rw[aE,aE]at q;have v:((sIx items.size 0 lo:Nat):Int)=0:=eq_of_beq q.1.1;have u:sIx items.size items.size hi - sIx items.size 0 lo=items.size:=eq_of_beq q.2;exact hw ⟨by omega,by omega⟩
 show wpAny _ _ (if _=true then _ else _) _ _ s;rw[iN i,Aw]
 first
  |exact wB (ć (wP ⟨_,rfl,wP h⟩) a)
  |exact wB _
  |exact wB _
  |exact wB _
end
end HT
namespace L2
open PySem PySem.Spec PyProof.Rows
variable{xs:List V}{α:Type}
abbrev TO:=St->Hp->(Option Int->Hp->Prop)->Prop
def PO(X:Cx)(e:Option Expr)(t:TO):Prop:=
 ∀(pins:J5)(s:Ń)(σ:St)(H:Hp)(Q:Option Int->Hp->Prop),Inv X pins σ H s->t σ H Q->
  wpAny (model X.prog X.w) X.A (evalPart e X.env) (λu s'=> ∃o H',Inv X pins σ H' s'/\IsPart u o/\Q o H') X.xe s
def Hm:TO:=λ_ H Q=>Q none H
def Xt(t:TE):TO:=λσ H Q=>t σ H λx H1=> ∃i,x=.int i/\Q (some i) H1
section
variable{X:Cx}{e:Expr}{te:TE}{lo hi:Option Expr}{tl th:TO}{pos p2:Pos}
def Hn:PO X none Hm:=by intro pins s σ H Q I h;exact wP ⟨none,H,I,.none,h⟩
def Ho(h:PE X e te):PO X (some e) (Xt te):=by intro pins s σ H Q I hw;refine kY (h pins s σ H _ I hw) λu c ⟨x,H1,I1,a,b⟩=>?_;obtain⟨i,rfl,q⟩:=b;obtain⟨t,rfl⟩:=a;exact⟨_,H1,I1,.int i t,q⟩
def SlR(X:Cx)(r:V->Option Int->Option Int->Hp->VK->Prop):Prop:=
 ∀(pins:J5)(s:Ń)(σ:St)(H:Hp)(x:V)(v a b:ń)(lo hi:J7)(sl:Addr)(Q:VK),Inv X pins σ H s->RelV x v->s.heap.IsSliceOf sl a b .none->IsPart a lo->IsPart b hi->r x lo hi H Q->
  ∃T id,typeLookup (.type T) "__getitem__"=pure (some (.builtin id))/\s.TypeIs v T/\wpAny (model X.prog X.w) X.A (getItem v (.ref sl)) (EP X pins σ Q) X.xe s
def SlR.or{r c:V->Option Int->Option Int->Hp->VK->Prop}(h:SlR X r)(h':SlR X c):SlR X (λx lo hi H Q=>r x lo hi H Q\/c x lo hi H Q):=by
 intro pins s σ H x v d i lo hi sl Q I a hs b e q;rcases q with q|q
 .exact h pins s σ H x v d i lo hi sl Q I a hs b e q
 .exact h' pins s σ H x v d i lo hi sl Q I a hs b e q
def tSl(r:V->Option Int->Option Int->Hp->VK->Prop)(te:TE)(tl th:TO):TE:=λσ H Q=>te σ H λx H1=>tl σ H1 λl a=>th σ a λu b=>r x l u b Q
def Ax{r:V->Option Int->Option Int->Hp->VK->Prop}(n:SlR X r)(D:PE X e te)(y:PO X lo tl)(w:PO X hi th):PE X (.Subscript e (.Slice lo hi none p2) pos) (tSl r te tl th):=by intro pins s σ H Q I h;refine Subscript_ (kY (D pins s σ H _ I h) λv L ⟨x,H1,I1,p,M⟩=>?_);refine wpAny_Slice (kY (y pins L σ H1 _ I1 M) λc K ⟨l,j,J,G,E⟩=>kY (w pins K σ j _ J E) λd a ⟨u,i,m,B,F⟩=>?_);refine wP ?_;have z:Inv X pins σ i {a with heap:=a.heap.push {cls:=.type "slice",data:=.fields #[c,d,.none]}}:=m.kept λb N q=>hP0 _ q;obtain⟨T,id,C,o,k⟩:=n pins {a with heap:=a.heap.push {cls:=.type "slice",data:=.fields #[c,d,.none]}} σ i x v c d l u a.heap.objs.size Q z p (Heap.IsSliceOf.new ..) G B F;show wpAny _ X.A _ _ X.xe {a with heap:=a.heap.push {cls:=.type "slice",data:=.fields #[c,d,.none]}};exact tail_any o C k (by with_unfolding_all rfl)
def XZ(xs:List V)(lo hi:J7):List V:=(xs.drop (HT.sIx xs.length 0 lo)).take (HT.sIx xs.length xs.length hi - HT.sIx xs.length 0 lo)
theorem BH(xs:List V)(lo hi:J7):(XZ xs lo hi).length<=xs.length:=by
 unfold XZ;rw[lT,õ]
 lia
def rSlT(K:J9):V->Option Int->Option Int->Hp->VK->Prop:=λx lo hi H Q=> ∃a xs,x=.ref a/\SqT K H a xs/\
 ¬(HT.sIx xs.length 0 lo=0/\HT.sIx xs.length xs.length hi=xs.length)/\ ∀p,H p=none->Q (.ref p) (wC H p (.tup (XZ xs lo hi)))
def Qf:SlR X (rSlT X.K):=by
 intro pins s σ H x v n p lo hi sl Q I i hs j m h;obtain⟨a,xs,rfl,k,hw,q⟩:=h;cases i;obtain⟨its,r,d,e⟩:=I.tuple k;have c:its.toArray.size=xs.length:=by rw[sA0];exact r.length.symm
 refine⟨_,_,PyProof.Rows.slot_tuple_getitem.lookup,d.typeIs,?_⟩;refine HT.getItem_tuple_cut d hs j m (by rw[c];exact hw) ?_ (by rw[c];exact e);rw[c];refine⟨.ref ↑0,_,I.laid (λb o q=>hP0 _ q) (à _) ?_,rfl,q _ (I.hok.fresh (à _))⟩;exact⟨ø (BH xs lo hi) e,_,(r.drop _).take _,IsTup.new _ _⟩
def Xu(K:J9):R2:=λx y H Q=> ∃a b xs ys,x=.ref a/\y=.ref b/\SqT K H a xs/\SqT K H b ys/\xs≠[]/\xs.length+ys.length<=sizeLine/\
 (ys=[]->Q (.ref a) H)/\(ys≠[]-> ∀p,H p=none->Q (.ref p) (wC H p (.tup (xs++ys))))
def Vals.nil_iff{us:A0}(r:Vals xs us):us=[]↔xs=[]:=by
 cases r with
 |nil=>simp
 |cons _ _=>simp
def Hq:OpR X (binaryOp .Add) (Xu X.K):=by intro pins s σ H x y v u Q I j n h;obtain⟨a,b,xs,ys,rfl,rfl,k,m,p,i,r,o⟩:=h;cases j;cases n;obtain⟨its,d,p1,_⟩:=I.tuple k;obtain⟨e,c,p2,_⟩:=I.tuple m;refine HT.cat_tup p1 p2 (λz=>p (d.nil_iff.mp z)) (λz=>⟨.ref a,H,I,rfl,r (c.nil_iff.mp z)⟩) (λz=>?_) (by rw[<-d.length, <-c.length];exact i);refine⟨.ref ↑0,_,I.laid (λb A q=>hP0 _ q) (à _) ?_,rfl,o (λw=>z (c.nil_iff.mpr w)) _ (I.hok.fresh (à _))⟩;exact⟨by rw[lA];exact i,_,d.append c,IsTup.new _ _⟩
end
noncomputable def IF(n:Nat)(i:Int):Option Nat:=if 0<=i then(if i<n then some i.toNat else none)else if -(n:Int)<=i then some (i+n).toNat else none
def sC(xs:List α)(i:Int):Option α:=(IF xs.length i).bind λj=>xs[j]?
theorem KC{n:Nat}{i:Int}{j:Nat}(h:IF n i=some j):seqIndex? i n=some j/\j<n/\ -(n:Int)<=i/\i<n:=by
 unfold IF at h;by_cases a:0<=i
 .rw[iP a]at h;by_cases h1:i<n
  .rw[iP h1]at h;have e:=ä h;exact⟨by rw[seqIndex_of a h1,e],by lia,by lia,h1⟩
  .rw[iN h1]at h;cases h
 .rw[iN a]at h;by_cases h1: -(n:Int)<=i
  .rw[iP h1]at h;have e:=ä h;exact⟨by rw[seqIndex_neg #[0] h1,e],by lia,h1,by lia⟩
  .rw[iN h1]at h;cases h
def KD{xs:List α}{i:Int}{v:α}(h:sC xs i=some v): ∃j,seqIndex? i xs.length=some j/\xs[j]? =some v/\j<xs.length/\ -(xs.length:Int)<=i/\i<xs.length:=by
 unfold sC at h
 cases e:IF xs.length i with
 |none=>rw[e]at h;cases h
 |some j=>
  rw[e]at h;obtain⟨h1,b,c,a⟩:=KC e;exact⟨j,h1,h,b,c,a⟩
theorem atI_nat{xs:List α}{j:Nat}{v:α}(h:xs[j]? =some v):sC xs (j:Int)=some v:=by
 have a:=(gS.mp h).1;have e:IF xs.length (j:Int)=some j:=by unfold IF;rw[iP #[0],iP #[0]];simp
 unfold sC;rw[e];exact h
def CW(b:Expr):Prop:= ∀o i,subscripted b false o i=operate [o,i] (getItem o i)
def IxR(X:Cx)(r:R2):Prop:=
 ∀(b a:Expr)(pins:J5)(s:Ń)(σ:St)(H:Hp)(x y:V)(v u:ń)(Q:VK),Inv X pins σ H s->RelV x v->RelV y u->r x y H Q->
  subscripted a false v u=operate [v,u] (getItem v u)->wpAny (model X.prog X.w) X.A (subscriptTail b a v u) (EP X pins σ Q) X.xe s
def Hr(X:Cx)(id:String)(r:V->List V->Hp->VK->Prop):Prop:=
 ∀(pins:J5)(s:Ń)(σ:St)(H:Hp)(x:V)(xs:List V)(v:ń)(us:A0)(Q:VK),Inv X pins σ H s->RelV x v->Vals xs us->r x xs H Q->
  wpAny (model X.prog X.w) X.A (call (.builtin id) (v::us)) (EP X pins σ Q) X.xe s
section
variable{X:Cx}{a b:Expr}{ta tb:TE}{pos:Pos}
def IxR.or{r d:R2}(h:IxR X r)(h':IxR X d):IxR X (λx y H Q=>r x y H Q\/d x y H Q):=by
 intro a b pins s σ H x y v u Q I c e q hs;rcases q with q|q
 .exact h a b pins s σ H x y v u Q I c e q hs
 .exact h' a b pins s σ H x y v u Q I c e q hs
def Xv{r:R2}(i:IxR X r)(e:PE X a ta)(k:PE X b tb)(hs:CW b):PE X (.Subscript a b pos) (E6 r ta tb):=by intro pins s σ H Q I h;exact Subscript_ (Pt e k I h λv u m x y d j c n q=>i a b pins m σ d x y v u Q j c n q (hs _ _))
def Xw(K:J9):R2:=λx y H Q=> ∃p xs i v,x=.ref p/\y=.int i/\SqL K H p xs/\sC xs i=some v/\Q v H
def Xx(K:J9):R2:=λx y H Q=> ∃p xs i v,x=.ref p/\y=.int i/\SqT K H p xs/\sC xs i=some v/\Q v H
def Xy:R2:=λx y H Q=> ∃z i c,x=.str z/\y=.int i/\z.length<=sizeLine/\sC z.cps.toList i=some c/\Q (.str ⟨#[c]⟩) H
theorem Hs:IxR X (Xw X.K):=by
 intro d e pins s σ H x y v u Q I n B h hs;obtain⟨p,xs,i,z,rfl,rfl,C,D,q⟩:=h;cases n;obtain⟨t,rfl⟩:=B;obtain⟨its,r,c,L⟩:=I.list C;obtain⟨j,h1,F,G,E,o⟩:=KD D;obtain⟨w,k,b⟩:=r.get F;have A:=r.length;have J:=sY;have fin:EP X pins σ Q w s:=⟨z,H,I,b,q⟩
 by_cases m:0<=i
 .have a:=by rw[seqIndex_of m o]at h1;exact ä h1
  exact item_listR c.isList m #[0] (by rw[a];simpa using k) fin hs
 .have a:(i+(its.toArray.size:Int)).toNat=j:=by rw[seqIndex_neg #[0] E]at h1;rw[sA0, <-A];exact ä h1
  exact subscriptTail_builtinR c.isList.typeIs slot_list_getitem.lookup
   (wpAny_getItem_list_neg c.isList #[0] (by rw[sA0]<;>lia) #[0] (by rw[a];simpa using k) ⟨rfl,fin⟩) hs
theorem Qg:IxR X (Xx X.K):=by
 intro b c pins s σ H x y v u Q I e m h hs;obtain⟨p,xs,i,z,rfl,rfl,n,o,q⟩:=h;cases e;obtain⟨t,rfl⟩:=m;obtain⟨its,r,d,G⟩:=I.tuple n;obtain⟨j,h1,B,D,E,C⟩:=KD o;obtain⟨w,A,a⟩:=r.get B;have k:=r.length;have F:=sY;have fin:EP X pins σ Q w s:=⟨z,H,I,a,q⟩
 exact subscriptTail_builtinR d.typeIs slot_tuple_getitem.lookup
  (getItem_tuple d #[0] #[0] (by rw[sA0, <-k];exact h1) (by simpa using A) ⟨rfl,fin⟩) hs
theorem ix_str:IxR X Xy:=by
 intro a b pins s σ H x y v u Q I d m h hs;obtain⟨z,i,c,rfl,rfl,C,n,q⟩:=h;obtain⟨t,rfl⟩:=d;obtain⟨t',rfl⟩:=m;obtain⟨j,h1,r,A,o,e⟩:=KD n;have k:z.cps.toList.length=z.length:=by simp[Str.length]
 rw[k]at h1 o e;have B:=sY;exact tail_any (typeIs_str s z t) slot_str_getitem.lookup (getItem_str (by have p:decide (i< -(2 ^ 63:Int))=false:=dF0 #[0];have w:decide (i>=2 ^ 63)=false:=dF0 #[0];rw[p,w,Bool.or_false]) (by rw[h1];simpa using r) ⟨.str ⟨#[c]⟩,H,I.tok _,⟨_,rfl⟩,q⟩) hs
def rIx(K:J9):R2:=λx y H Q=>Xw K x y H Q\/Xx K x y H Q\/Xy x y H Q
def Qh:IxR X (rIx X.K):=Hs.or (Qg.or ix_str)
def RV(its:A0)(n j:Nat)(u:ń):Obj.mapSeq (·.setIfInBounds j u) {cls:=.type "list",data:=.seq its.toArray n}={cls:=.type "list",data:=.seq (its.set j u).toArray n}:=by simp[Obj.mapSeq]
def Inv.lst{pins:J5}{σ:St}{H:Hp}{s:Ń}{p:Addr}(I:↑2)(h:H p=some (.lst xs)):
  ∃(its:A0)(n:Nat),Vals xs its/\s.heap.get? p=some {cls:=.type "list",data:=.seq its.toArray n}/\xs.length<=sizeLine:=by
 obtain⟨z,its,n,r,e⟩:=I.hok p _ h;exact⟨its,n,r,e,z⟩
def Inv.lstUpd{pins:J5}{σ:St}{H:Hp}{s:Ń}{p:Addr}{ys:List V}{its its':A0}{n a:Nat}{f:Obj->Obj}(I:↑2)(h:H p=some (.lst xs))
  (ho:s.heap.get? p=some {cls:=.type "list",data:=.seq its.toArray n}) (hf:f {cls:=.type "list",data:=.seq its.toArray n}={cls:=.type "list",data:=.seq its'.toArray a}) (r:Vals ys its') (hz:ys.length<=sizeLine) (t:Nat):
  Inv X pins σ (wC H p (.lst ys)) {s with heap:=s.heap.update p f,toks:=t}:=by
 have e:(s.heap.update p f).get? p=some {cls:=.type "list",data:=.seq its'.toArray a}:=by rw[Heap.get?_update_self f ho (by rw[hf]<;>rfl),hf]
 refine I.write (by rw[h];trivial) (.inl rfl) (λb u c q=>(ý _ _ (Ne.symm c)).trans q) ⟨_,e⟩ ?_;exact⟨hz,its',a,r,e⟩
def Xz:V->V->V->Hp->(Hp->Prop)->Prop:=λo i v H Q=> ∃p xs k j,o=.ref p/\i=.int k/\H p=some (.lst xs)/\IF xs.length k=some j/\Q (wC H p (.lst (xs.set j v)))
theorem set_list:Hd X Xz:=by
 intro pins s σ H o i v ov F u Q I B A C h;obtain⟨p,xs,k,j,rfl,rfl,d,z,q⟩:=h;cases B;obtain⟨t,rfl⟩:=A;obtain⟨its,n,r,c,D⟩:=I.lst d;obtain⟨h1,G,m,w⟩:=KC z;have a:=r.length;have E:=sY
 have e:Inv X pins σ _ {s with heap:=s.heap.update p _}:=
  I.lstUpd d c (RV its n j u) (r.set C j) (by rw[Ą];exact D) s.toks
 by_cases y:0<=k
 .have b:=by rw[seqIndex_of y w]at h1;exact ä h1
  exact PySem.W.ki_setAt c y #[0] (by rw[sA0, <-a];exact w) (by rw[b];exact⟨_,e,q⟩)
 .have b:(k+(its.toArray.size:Int)).toNat=j:=by rw[seqIndex_neg #[0] m]at h1;rw[sA0, <-a];exact ä h1
  exact PySem.W.ki_setBack c #[0] (by rw[sA0, <-a];exact m) #[0] (by rw[b];exact⟨_,e,q⟩)
theorem KE(lo hi:J7)(n:Nat):(sliceBounds lo hi none n).1=((HT.sIx n 0 lo:Nat):Int)/\(sliceBounds lo hi none n).2.1=((HT.sIx n n hi:Nat):Int)/\(sliceBounds lo hi none n).2.2=1:=by
 refine⟨?_,?_,rfl⟩
 .cases lo with
  |none=>simp[sliceBounds,HT.sIx]
  |some i=>
   simp only[sliceBounds,HT.sIx,Option.getD_none,if_true];by_cases h:i<0
   .simp only[h,if_true]<;>lia
   .simp only[h,iF]<;>lia
 .cases hi with
  |none=>simp[sliceBounds,HT.sIx]
  |some i=>
   simp only[sliceBounds,HT.sIx,Option.getD_none,if_true];by_cases h:i<0
   .simp only[h,if_true]<;>lia
   .simp only[h,iF]<;>lia
theorem GX(its:A0)(lo hi:J7):slicePick its.toArray lo hi none=((its.drop (HT.sIx its.length 0 lo)).take (HT.sIx its.length its.length hi - HT.sIx its.length 0 lo)).toArray:=by obtain⟨h1,a,b⟩:=KE lo hi its.toArray.size;unfold slicePick;rw[h1,a,b];simp only[sliceRange_one,pick_run]<;>rfl
def rSlL(K:J9):V->Option Int->Option Int->Hp->VK->Prop:=λx lo hi H Q=> ∃a xs,x=.ref a/\SqL K H a xs/\ ∀p,H p=none->Q (.ref p) (wC H p (.lst (XZ xs lo hi)))
theorem Ht:SlR X (rSlL X.K):=by intro pins s σ H x v n p lo hi sl Q I e hs i m h;obtain⟨a,xs,rfl,j,q⟩:=h;cases e;obtain⟨its,r,d,k⟩:=I.list j;have c:=r.length;refine⟨_,_,slot_list_getitem.lookup,d.isList.typeIs,?_⟩;refine wpAny_getItem_list_slice d.isList hs i m .none (by simp) ?_ (by rw[sA0]<;>lia);rw[GX, <-c];refine⟨.ref ↑0,_,I.laid (λb o q=>hP0 _ q) (à _) ?_,rfl,q _ (I.hok.fresh (à _))⟩;exact⟨ø (BH xs lo hi) k,_,0,(r.drop _).take _,ã _ rfl⟩
noncomputable def mV:V->Bool
 |.non=>true
 |.bl _=>true
 |.int _=>true
 |.str _=>true
 |_=>false
noncomputable def Hu:V->V->Bool
 |.non,.non=>true
 |.bl a,.bl b=>a==b
 |.bl a,.int b=>(if a then 1 else 0)==b
 |.int a,.bl b=>a==(if b then 1 else 0)
 |.int a,.int b=>a==b
 |.str a,.str b=>a==b
 |_,_=>false
def Qi{A:Ņ}{s:Ń}{y x:V}{u v:ń}(d:RelV y u)(c:RelV x v)(h:mV y=true)(e:mV x=true):SeqAt.EqAt A s u v (Hu y x):=by
 cases y with
 |non=>
  cases d
  cases x with
  |non=>cases c;exact SeqAt.EqAt.same _
  |bl b=>cases c;exact SeqAt.EqAt.none_bool b
  |int b=>obtain⟨t,rfl⟩:=c;exact SeqAt.EqAt.none_int b t
  |str b=>obtain⟨t,rfl⟩:=c;exact SeqAt.EqAt.none_str b t
  |_=>exact absurd e xF0
 |bl a=>
  cases d
  cases x with
  |non=>cases c;exact SeqAt.EqAt.bool_none a
  |bl b=>cases c;exact SeqAt.EqAt.bool_bool a b
  |int b=>obtain⟨t,rfl⟩:=c;exact SeqAt.EqAt.bool_int a b t
  |str b=>obtain⟨t,rfl⟩:=c;exact SeqAt.EqAt.bool_str a b t
  |_=>exact absurd e xF0
 |int a=>
  obtain⟨t',rfl⟩:=d
  cases x with
  |non=>cases c;exact SeqAt.EqAt.int_none a t'
  |bl b=>cases c;exact SeqAt.EqAt.int_bool a t' b
  |int b=>obtain⟨t,rfl⟩:=c;exact SeqAt.EqAt.int_int a t' b t
  |str b=>obtain⟨t,rfl⟩:=c;exact SeqAt.EqAt.int_str a t' b t
  |_=>exact absurd e xF0
 |str a=>
  obtain⟨t',rfl⟩:=d
  cases x with
  |non=>cases c;exact SeqAt.EqAt.str_none a t'
  |bl b=>cases c;exact SeqAt.EqAt.str_bool a t' b
  |int b=>obtain⟨t,rfl⟩:=c;exact SeqAt.EqAt.str_int a t' b t
  |str b=>obtain⟨t,rfl⟩:=c;exact SeqAt.EqAt.str_str a t' b t
  |_=>exact absurd e xF0
 |_=>exact absurd h xF0
theorem KF:CallR X (.builtin "len") (λxs H Q=> ∃p ys,xs=[.ref p]/\(SqL X.K H p ys\/SqT X.K H p ys)/\Q (.int ys.length) H):=by
 intro pins s σ H xs us Q I r h;obtain⟨p,ys,rfl,b,q⟩:=h;obtain⟨u,rfl,e⟩:=vals1 r;cases e;have j:=sY;rcases b with b|b
 .obtain⟨its,c,d,i⟩:=I.list b;have a:=c.length;exact Calls.call_len_list d.isList (by simp only[sA0]<;>lia) ⟨.int ys.length,H,I.tok _,⟨_,by rw[sA0,a]⟩,q⟩
 .obtain⟨its,c,d,i⟩:=I.tuple b;have a:=c.length;exact len_tuple d (by simp only[sA0]<;>lia) ⟨.int ys.length,H,I.tok _,⟨_,by rw[sA0,a]⟩,q⟩
theorem KG:CallR X (.builtin "len") (λxs H Q=> ∃z,xs=[.str z]/\z.length<=sizeLine/\Q (.int z.length) H):=by intro pins s σ H xs us Q I r h;obtain⟨z,rfl,b,q⟩:=h;obtain⟨u,rfl,t,rfl⟩:=vals1 r;have a:=sY;exact len_str #[0] ⟨.int z.length,H,I.tok _,⟨_,rfl⟩,q⟩
def CallR.or{f:ń}{r a:List V->Hp->VK->Prop}(h:CallR X f r)(h':CallR X f a):CallR X f (λxs H Q=>r xs H Q\/a xs H Q):=by
 intro pins s σ H xs us Q I rs q;rcases q with q|q
 .exact h pins s σ H xs us Q I rs q
 .exact h' pins s σ H xs us Q I rs q
theorem KH:CallR X (.type "list") (λxs H Q=> ∃p ys,xs=[.ref p]/\(SqL X.K H p ys\/SqT X.K H p ys)/\ ∀l,H l=none->Q (.ref l) (wC H l (.lst ys))):=by
 intro pins s σ H xs us Q I r h;obtain⟨p,ys,rfl,c,q⟩:=h;obtain⟨u,rfl,y⟩:=vals1 r;cases y
 have fin: ∀(its:A0),Vals ys its->ys.length<=sizeLine-> ∀(h':Heap)(b:Nat),_->
   h'.get? ↑0=some {cls:=.type "list",dict:=none,data:=.seq its.toArray b,slots:=#[]}->EP X pins σ Q _ {s with heap:=h'}:=λits a j h' b d e=>
  ⟨.ref ↑0,_,I.laid d (à _) (show ObjOk X.prog X.w _ h' _ (.lst ys)from⟨j,its,b,a,e⟩),rfl,q _ (I.hok.fresh (à _))⟩
 rcases c with c|c
 .obtain⟨its,a,k,j⟩:=I.list c;have i:=a.length;obtain⟨o,m,v,n,hd⟩:=k.isList;exact call_list_seq p (.inl rfl) m v hd (λh' b d e=>fin its a j h' b d e) (by simp only[sA0]<;>lia)
 .obtain⟨its,a,k,j⟩:=I.tuple c;have i:=a.length;obtain⟨o,m,v,n,hd⟩:=k;exact call_list_seq p (.inr rfl) m v hd (λh' b d e=>fin its a j h' b d e) (by simp only[sA0]<;>lia)
theorem GY:CallR X (.type "tuple") (λxs H Q=> ∃p ys,xs=[.ref p]/\((SqL X.K H p ys/\ ∀l,H l=none->Q (.ref l) (wC H l (.tup ys)))\/(SqT X.K H p ys/\Q (.ref p) H))):=by
 intro pins s σ H xs us Q I r h;obtain⟨p,ys,rfl,h⟩:=h;obtain⟨u,rfl,j⟩:=vals1 r;cases j;rcases h with⟨hq,q⟩|⟨hq,q⟩
 .obtain⟨its,a,c,i⟩:=I.list hq;have d:=a.length;refine call_tuple_list c.isList (λh' m=>?_) (by simp only[sA0]<;>lia);have I1:Inv X pins σ H {s with heap:=h'}:=I.kept m
  have k:Inv X pins σ (wC H h'.objs.size (.tup ys)) {s with heap:=h'.push {cls:=.type "tuple",data:=.seq its.toArray}}:=
   I1.laid (λb o e=>hP0 _ e) (à _) (⟨i,its,a,IsTup.new _ _⟩)
  exact⟨.ref h'.objs.size,_,k,rfl,q _ (I1.hok.fresh (à _))⟩
 .obtain⟨its,a,c,i⟩:=I.tuple hq;exact call_tuple_same c ⟨.ref p,H,I,rfl,q⟩
def tyV(K:J9)(T:String)(x:V)(H:Hp):Prop:=match x with
 |.str _=>T="str"
 |.int _=>T="int"
 |.ref p=>(T="list"/\ ∃xs,SqL K H p xs)\/(T="tuple"/\ ∃o,K.lookup p=some o/\o.cls=.type "tuple"/\o.dict=none)\/
   (T="dict"/\((∃kvs,H p=some (.dK kvs))\/ ∃kvs,H p=some (.dT kvs)))\/(T="set"/\ ∃S n,H p=some (.set S n))
 |_=>False
def Qj{pins:J5}{σ:St}{H:Hp}{s:Ń}{T:String}{x:V}{v:ń}(I:↑2)(r:RelV x v)(b:tyV X.K T x H):
  s.TypeIs v T/\ ∀a,v=.ref a-> ∃j,s.heap.get? a=some j/\j.dict=none:=by
 cases x with
 |str z=>
  obtain⟨t,rfl⟩:=r;cases b;exact⟨typeIs_str s z t,λ_ e=>nomatch e⟩
 |int i=>
  obtain⟨t,rfl⟩:=r;cases b;exact⟨typeIs_int s i t,λ_ e=>nomatch e⟩
 |ref p=>
  cases r;rcases b with⟨rfl,xs,hq⟩|⟨rfl,o,hk,hc,hd⟩|⟨rfl,hk⟩|⟨rfl,S,n,hk⟩
  .obtain⟨its,_,h,_⟩:=I.list hq;refine⟨h.isList.typeIs,λa e=>?_⟩;cases e;obtain⟨o,n,e,c,hd,_⟩:=h;exact⟨o,e,hd⟩
  .refine⟨⟨o,I.kIn p o hk,hc⟩,λa e=>?_⟩;cases e;exact⟨o,I.kIn _ o hk,hd⟩
  .have z: ∃o,s.heap.get? p=some o/\o.ExactDict:=by
    rcases hk with⟨kvs,hk⟩|⟨kvs,hk⟩
    .obtain⟨_,_,_,_,o,_,_,e,ex,_⟩:=I.hok p _ hk;exact⟨o,e,ex⟩
    .obtain⟨_,_,_,_,o,_,_,e,ex,_⟩:=I.hok p _ hk;exact⟨o,e,ex⟩
   obtain⟨o,e,ex⟩:=z;refine⟨⟨o,e,ex.1⟩,λa d=>?_⟩;cases d;exact⟨o,e,ex.2.1⟩
  .obtain⟨o,_,_,_,e,ex,_⟩:=I.hok p _ hk;refine⟨⟨o,e,ex.1⟩,λa d=>?_⟩;cases d;exact⟨o,e,ex.2.1⟩
 |_=>exact False.elim b
def tBM(K:J9)(T:String)(r:V->List V->Hp->VK->Prop)(to:TE)(t:TA):TE:=λσ H Q=>to σ H λx H1=>tyV K T x H1/\t σ H1 λxs a=>r x xs a Q
variable{o e:Expr}{es:J8}{to:TE}{t:TA}{name:Str}{apos cpos:Pos}{T id:String}{r:V->List V->Hp->VK->Prop}
def Ya(i:PlainAttrs T)(a:Slot T name id)(b:typeOf (.builtin id)=pure (.type "method_descriptor"))(B:Hr X id r)(p:PE X o to)(n:PA X (e::es) t)
  (hbase:attributeBase o name X.env (eval o X.env)=eval o X.env:=by rfl)
  (hfew:((backTo cpos (starEach (e::es) X.env)).all (λx=>!x.1)&&(backToKw cpos (keywordEach [] X.env)).all (λx=>x.1.isSome)
   &&decide ↑3)=true:=by rfl)
  (hline:(apos.endLine==cpos.line)=true:=by rfl) (hs:q9 X e es:=by rfl) (hplain:(backTo cpos (starEach es X.env)).any (·.1)=false:=by rfl):
  PE X (.Call (.Attribute o name apos) (e::es) [] cpos) (tBM X.K T r to t):=by
 intro pins s σ H Q I h;refine wpAny_Call_method_late hbase hfew hline rfl (kY (p pins s σ H _ I h) λv w ⟨x,H1,I1,c,m,y⟩=>?_);obtain⟨h1,z⟩:=Qj I1 c m;refine⟨T,id,i,a,b,h1,z,?_⟩;have d:=n cpos pins w σ H1 _ I1 y;rw[hs]at d ⊢;refine Calls.callWith_builtin (by show(false || (backTo cpos _).any (·.1))=false;rw[hplain]<;>rfl) (Calls.evalArgs_plain ?_);exact kY d λus u ⟨vs,k,q,A,j⟩=>B pins u σ k x vs v us Q q c A j
end
def MtM(X:Cx)(id:String)(r:V->List V->Hp->VK->Prop):Prop:=
 ∀(pins:J5)(s:Ń)(σ:St)(H:Hp)(x:V)(xs:List V)(v:ń)(us:A0)(Q:VK),Inv X pins σ H s->RelV x v->Vals xs us->r x xs H Q->
  wpAny (model X.prog X.w) X.A (call (.builtin id) (v::us)) (EP X pins σ Q) X.xe s
def Vals.one: ∀{x:V}{us:A0},Vals [x] us-> ∃u,us=[u]/\RelV x u
 |_,_,.cons r .nil=>⟨_,rfl,r⟩
theorem Vals.zero: ∀{us:A0},Vals [] us->us=[]
 |_,.nil=>rfl
theorem Vals.eraseIdx: ∀{xs:List V}{us:A0}(i:Nat),Vals xs us->Vals (xs.eraseIdx i) (us.eraseIdx i)
 |_,_,_,.nil=>.nil
 |_,_,0,.cons _ t=>t
 |_,_,i+1,.cons r t=>.cons r (Vals.eraseIdx i t)
theorem Vals.rep{us:A0}(h:Vals xs us): ∀k:Nat,Vals (List.replicate k xs).flatten (List.replicate k us).flatten
 |0=>.nil
 |k+1=>by exact Vals.append h (Vals.rep h k)
theorem IG{α:Type}: ∀(l:List α)(i:Nat),(l.eraseIdx i).length<=l.length
 |[],_=>à _
 |_::_,0=>le_succ _
 |_::r,i+1=>Nat.succ_le_succ (IG r i)
theorem foldl_rep(its:A0): ∀(k:Nat)(a:A0),
  List.foldl (λd b=>d++b) a.toArray (List.replicate k its.toArray)=(a++(List.replicate k its).flatten).toArray
 |0,a=>by simp
 |k+1,a=>by
  have e:a.toArray++its.toArray=(a++its).toArray:=by simp
  have c:(a++its)++(List.replicate k its).flatten=a++(List.replicate (k+1) its).flatten:=by rw[Ĭ,flatten_cons,aA]
  rw[<-c, <-foldl_rep its k _, <-e,Ĭ,Ŀ]
section
variable{X:Cx}{pins:J5}{σ:St}{H:Hp}{s:Ń}{l:Addr}{xs ys:List V}
def Inv.lset{its its':A0}{n:Nat}{f:Array ń->Array ń}{t':Nat}(I:↑2)(a:H l=some (.lst xs))
  (e:s.heap.get? l=some {cls:=.type "list",data:=.seq its.toArray n}) (hf:f its.toArray=its'.toArray) (hv:Vals ys its') (hz:ys.length<=sizeLine):
  Inv X pins σ (wC H l (.lst ys)) {s with heap:=s.heap.update l (Obj.mapSeq f),toks:=t'}:=by
 have q:=PySem.IsL.update e f;rw[hf]at q;refine I.write (by rw[a];exact trivial) (.inl rfl) (λd u b c=>(ý s.heap _ (Ne.symm b)).trans c) ⟨_,q⟩ ?_;exact⟨hz,its',_,hv,q⟩
def Inv.lnew{its:A0}{t':Nat}(I:↑2)(a:Vals ys its)(hz:ys.length<=sizeLine):
  Inv X pins σ (wC H ↑0 (.lst ys)) {s with heap:=s.heap.push {cls:=.type "list",data:=.seq its.toArray},toks:=t'}:=
 I.laid (λ_ _ q=>hP0 _ q) (à _) ⟨hz,its,0,a,ã _ rfl⟩
def Inv.fresh(I:↑2):H ↑0=none:=I.hok.fresh (à _)
def Inv.lstM(I:↑2)(a:H l=some (.lst xs)):xs.length<=sizeLine/\ ∃(its:A0)(n:Nat),Vals xs its/\xs.length=its.length/\s.heap.get? l=some {cls:=.type "list",data:=.seq its.toArray n}:=by obtain⟨z,its,n,r,e⟩:=I.hok l _ a;exact⟨z,its,n,r,r.length,e⟩
theorem Ay{n:Nat}(h:n<=sizeLine):Builtin.List.listTooLong n=false:=by exact dF0 #[0]
end
section
variable{X:Cx}
def UO:V->List V->Hp->VK->Prop:=λx vs H Q=> ∃l xs y,x=.ref l/\vs=[y]/\H l=some (.lst xs)/\xs.length<sizeLine/\Q .non (wC H l (.lst (xs++[y])))
theorem YA:MtM X "list.append" UO:=by
 intro pins s σ H x vs v us Q I b c h;obtain⟨l,xs,y,rfl,rfl,a,j,q⟩:=h;cases b;obtain⟨u,rfl,d⟩:=c.one;obtain⟨z,its,n,r,i,e⟩:=I.lstM a;refine call_meets F.slot_list_append ⟨_,e,rfl⟩ F.entry_list_append (F.args_list_append_2 _ _) (PySem.list_append l its.toArray n u (by rw[sA0];lia)) ⟨e,?_⟩;refine⟨.non,_,I.lset a e (by simp) (r.append (.cons d .nil)) ?_,rfl,q⟩;rw[lA,lS]
 lia
def Az:V->List V->Hp->VK->Prop:=λx vs H Q=> ∃l xs i k y,x=.ref l/\vs=[.int i]/\H l=some (.lst xs)/\ -(2 ^ 63)<=i/\i<2 ^ 63/\seqIndex? i xs.length=some k/\xs[k]? =some y/\Q y (wC H l (.lst (xs.eraseIdx k)))
def Ba:MtM X "list.pop" Az:=by
 intro pins s σ H x vs v us Q I c o h;obtain⟨l,xs,i,k,y,rfl,rfl,b,h1,A,p,j,q⟩:=h;cases c;obtain⟨u,rfl,m⟩:=o.one;obtain⟨t,rfl⟩:=m;obtain⟨z,its,n,r,d,e⟩:=I.lstM b;obtain⟨w,hw,a⟩:=r.get j
 refine call_meets F.slot_list_pop ⟨_,e,rfl⟩ F.entry_list_pop (F.args_list_pop_2 _ _)
  (MeetsSeq.list_pop_at l its.toArray n i t k w (fitsIndex_both h1 A) (by rw[sA0, <-d];exact p) (by rw[<-ò];exact hw) (by rw[sA0];omega)) ⟨e,?_⟩
 refine⟨y,_,I.lset (its':=its.eraseIdx k) b e ?_ (r.eraseIdx k) ?_,a,q⟩
 .show its.toArray.eraseIdxIfInBounds k=(its.eraseIdx k).toArray;rw[List.eraseIdxIfInBounds_toArray]
 .have:=IG xs k;omega
def rCat:R2:=λx y H Q=> ∃l b xs a,x=.ref l/\y=.ref b/\H l=some (.lst xs)/\H b=some (.lst a)/\xs.length+a.length<=sizeLine/\ ∀p,H p=none->Q (.ref p) (wC H p (.lst (xs++a)))
theorem Qk:OpR X (binaryOp .Add) rCat:=by
 intro pins s σ H x y v u Q I c i h;obtain⟨l,b,xs,C,rfl,rfl,p,m,D,q⟩:=h;cases c;cases i;obtain⟨z,its,n,r,w,e⟩:=I.lstM p;obtain⟨A,a,B,o,j,k⟩:=I.lstM m;refine PySem.P.add_list e k ?_ (by rw[sA0,sA0];lia);have d:its.toArray++a.toArray=(its++a).toArray:=by simp
 rw[d];exact⟨.ref _,_,I.lnew (r.append o) (by rw[lA];lia),rfl,q _ I.fresh⟩
def rRep:R2:=λx y H Q=> ∃l k xs,x=.ref l/\y=.int k/\H l=some (.lst xs)/\ -(2 ^ 63)<=k/\k<2 ^ 63/\xs.length * k.toNat<=sizeLine/\
 ∀p,H p=none->Q (.ref p) (wC H p (.lst (List.replicate k.toNat xs).flatten))
def len_rep(xs:List α)(k:Nat):(List.replicate k xs).flatten.length=k * xs.length:=by
 induction k with
 |zero=>simp
 |succ k ih=>rw[Ĭ,flatten_cons,lA,ih,Nat.succ_mul,Nat.add_comm]
theorem Ql:OpR X (binaryOp .Mult) rRep:=by
 intro pins s σ H x y v u Q I A C h;obtain⟨l,k,xs,rfl,rfl,G,h1,E,w,q⟩:=h;cases A;obtain⟨t,rfl⟩:=C;obtain⟨z,its,n,r,B,e⟩:=I.lstM G;have i:its.toArray.size * k.toNat<=sizeLine:=by rw[sA0, <-B];exact w
 have c: ¬its.toArray.size * k.toNat>(2 ^ 63 - 1) / 8:=by
  have:(sizeLine:Nat)<=(2 ^ 63 - 1) / 8:=by decide
  lia
 have d: ¬(!Builtin.List.listFitsIndex k)=true:=by rw[fitsIndex_both h1 E];exact xF0
 have b: ¬Builtin.List.listTooLong (its.toArray.size * k.toNat)=true:=by rw[Ay i];exact xF0
 have j:List.foldl (λp o=>p++o) #[] (List.replicate (if its.toArray.isEmpty=true then 0 else k.toNat) its.toArray)=(List.replicate k.toNat its).flatten.toArray:=by
  have D: ∀m:Nat,List.foldl (λp o=>p++o) #[] _=(List.replicate m its).flatten.toArray:=λm=>by have:=foldl_rep its m [];exact this
  rw[D]
  cases its with
  |nil=>simp
  |cons a r'=>rw[iN (by simp)]
 refine wpAny_binaryOp_repeat_ref (by decide) ⟨_,e,rfl⟩ (λs'=>typeIs_int s' k t) noFill_list_mul F.fills_int_mul F.slot_int_rmul repeat_list F.slot_int_index.lookup
  (call_meets F.slot_int_rmul (typeIs_int s k t) F.entry_int_rmul (F.args_int_rmul_2 _ _) (int___rmul___int_list k t l its.toArray n)
   ⟨e,rfl,⟨_,e,rfl⟩,call_meets F.slot_list_mul ⟨_,e,rfl⟩ F.entry_list_mul (F.args_list_mul_2 _ _) (AutoListH.list___mul___list_int_3 l its.toArray n k t d c b) ⟨e,?_⟩⟩)
 rw[j];exact⟨.ref _,_,I.lnew (r.rep k.toNat) (by rw[len_rep,Nat.mul_comm];exact w),rfl,q _ I.fresh⟩
end
end L2
namespace Att
open PySem PySem.W PySem.Calls PyProof.Rows
def CO{P:Params}{h:Heap}: ∀(c:Za)(vs:A0),WellAll P h vs (c.map WData.int)->IntsAre vs c:=by
 intro c
 induction c with
 |nil=>
  intro vs w;cases w;exact .nil
 |cons n c ih=>
  intro vs w
  cases w with
  |cons a b=>
   cases a;exact .cons _ _ (ih _ b)
theorem YB{l:OpenLaw}{n:Nat}(m:l.most=some n){P:Params}{h:Heap}{args:List WData}{b:A0}
  (hpre:l.row.toRowW.claim.pre args=true) (hwl:WellAll P h b args):
  ∃a vs c,b=[Value.ref a]/\args=[WData.list (c.map WData.int)]/\h.get? a=some {cls:=.type "list",data:=.seq vs.toArray}/\IntsAre vs c/\c.length<=n:=by
 have j:=(pre_splitW hpre).1;have o:l.pre.holds [] {args:=args}=true:=(pre_splitW hpre).2;obtain⟨d,r,rfl,h1,p⟩:=hasAllW_cons j;obtain rfl:=hasAllW_nil p;obtain⟨xs,rfl,u⟩:=hasW_list h1;obtain⟨c,rfl⟩:=items_int u
 have e:c.length<=n:=by
  have i:=by have i:=(holds_andW o).1;rw[m]at i;exact i
  have k:=condW_of i (w_not (w_lt w_lit (w_len_list (w_arg rfl))));refine Nat.le_of_not_lt λq=>?_;have s:=by omega
  first
   |(rw[dT0 s]at k;exact absurd k (by decide))
   |(simp at k;lia)
 cases hwl with
 |cons w1 w2=>
  cases w2
  cases w1 with
  |list ho hall=>exact⟨_,_,c,rfl,rfl,ho,CO c _ hall,e⟩
theorem YC(l:OpenLaw)(args:List WData):l.row.toRowW.claim.post args (.bool true) args=true:=
 postW_of
  (by first |rfl|decide|simp[WShape.has,WShape.arms,WShape.armsAll])
  (w_eq_bool (w_res rfl) w_lit) rfl
def attach_call{l:OpenLaw}{n:Nat}{q:ņ}{c:C0}{B:(Str->Option ń)->Heap->Prop}{C:World->Heap->Prop}{d:DefRec}
  (hn:l.most=some n) (hdf:d.params.defaults=[])
  (call: ∀(w:World)(e b:Ń)(mg u:H9)(fa:Addr)(o:Obj)(s cd i:ń)(a:Addr)(vs:A0)(p:Za),
   Ground q c [] B w e mg u b.heap->C w b.heap->
   b.heap.get? fa=some o->o.data=.func (docDef d.name d.params d.body d.scope s cd i)->b.heap.CodeRec cd d.name->mg d.name=some (.ref fa)->
   b.heap.get? a=some {cls:=.type "list",data:=.seq vs.toArray}->IntsAre vs p->p.length<=n->b.gens=#[]->
   codeAny (model l.prog w) callerA (.call (.ref fa) ⟨[.ref a],[]⟩) (λr s'=>r=.ok (.ret (.bool true))/\OldK b.heap s'.heap/\s'.os=b.os/\AllBare s'.gens) b):
  WalkO q c B C l.row.toRowW d [] (λf vs=>PySem.call f vs):=by
 intro w e b mg u G Y fa o s cd i K kV P hd v A z H D F as j E O y I;obtain rfl:K=.none:=Dflts.none A hdf;obtain rfl:kV=.none:=Dflts.noKw A;obtain⟨a,vs,p,rfl,rfl,k,h,m⟩:=YB hn j y;refine enter_call (codeAny_mono (call w e b mg u fa o s cd i a vs p G Y P (fd_plain hd) v z k h m H) λr s' J=>?_);obtain⟨rfl,Q,L,N⟩:=J;exact⟨.inl ⟨_,_,[],rfl,λ_=>rfl,.bool true,YC l _,λ_=>⟨List.Pairwise.nil,λ_ M=>(nomatch M)⟩⟩,Q,L,N⟩
end Att
namespace L2
open PySem PySem.Spec PyProof.Rows
theorem IH: ∀{vs:A0}{a:Za},IntsAre vs a->Vals (a.map V.int) vs
 |_,_,.nil=>.nil
 |_,_,.cons n t h=>.cons ⟨t,rfl⟩ (IH h)
def Bb(H:Hp):Prop:= ∀b,H b=none\/ ∃o xs,H b=some (.frz o (.lst xs))
def Bc{P:ņ}{w:World}{K:J9}{mg N:H9}{CX:XU}{k:Nat}{fa a:Addr}{fd:FuncData}{x:Str}{sp:Sp}{c:Ń}{vs:A0}{I:Za}
  (KX:K.In c.heap) (hns:c.heap.Ns mainGlobals mg) (j:c.heap.Ns builtinsNs N) (hbb: ∀x:Str,x≠"__name__"->N x=bootBuiltins x) (hlim:c.heap.NoLimit) (hg:c.gens=#[])
  (ha:c.heap.get? a=some {cls:=.type "list",data:=.seq vs.toArray}) (hi:IntsAre vs I) (hl:I.length<=sizeLine) (hr:Room k callerA)
  (F: ∀base:Heap,K.In base->base.Ns mainGlobals mg->FnOk P w K mg base CX k fa fd [x] sp) (hbind: ∀(s:Ń)(u:ń),BindsTo s fd ⟨[u],[]⟩ [(x,u)])
  (hsp: ∀H:Hp,Bb H->SqL K H a (I.map V.int)->sp [.ref a] H (λv _=>v=.bl true) λ_ _ _=>False)
  (hCX: ∀H e s',CX [] H c (λ_ _ _=>False) e s'->False):
  codeAny (model P w) callerA (.call (.ref fa) ⟨[.ref a],[]⟩) (λr s'=>r=.ok (.ret (.bool true))/\OldK c.heap s'.heap/\s'.os=c.os/\AllBare s'.gens) c:=by
 have Q:=IH hi;have B:=hi.length
 have y: ∀H:Hp,Bb H->SqL K H a (I.map V.int)->HOk P w H c.heap->(∀b,H b≠none->b=a)->(H a≠none->K.lookup a=none)->
   codeAny (model P w) callerA (.call (.ref fa) ⟨[.ref a],[]⟩) (λr s'=>r=.ok (.ret (.bool true))/\OldK c.heap s'.heap/\s'.os=c.os/\AllBare s'.gens) c:=by
  intro H S X E O hK;have i: ∀{b:Addr}{o:Obj},c.heap.get? b=some o->H b=none->(XN c.heap H).get? b=some o:=λe n=>Al e n
  have L: ∀{b:Addr}{o:Obj}{es:Array DictEntry}{ep:Nat},c.heap.get? b=some o->o.data=.dict es ep->H b=none:=λ{b o es ep} e d=>by
   cases q:H b with
   |none=>rfl
   |some u=>
    have J:b=a:=O b (by rw[q];simp);subst J;rw[ha]at e;cases e;have W:Data.seq vs.toArray _=Data.dict es ep:=d;cases W
  have p: ∀{b:Addr}{m:H9},c.heap.Ns b m->(XN c.heap H).Ns b m:=λ{b m} ⟨o,es,ep,e,d,r⟩=>⟨o,es,ep,i e (L e d),d,r⟩
  have G:K.In _:=λb o e=>i (KX b o e) (by
   cases q:H b with
   |none=>rfl
   |some u=>
    have J:b=a:=O b (by rw[q];simp);subst J;rw[hK (by rw[q];simp)]at e;cases e)
  have hM:Mod K mg _:=⟨G,p hns,⟨N,p j,hbb⟩,let ⟨Z,h1,h2⟩:=hlim;⟨Z,p h1,h2⟩⟩
  have e0:Env0 P w K mg _ callerA [] c H:=⟨rfl,hM,λb o e=>Gv e,le_of_eq (XO _ _),trivial,λb j=>absurd (show b∈([]:B9)from j) (by simp),E,.of_eq hg⟩
  refine codeAny_mono ((F _ G (p hns)).run callerA [] c H ⟨_,[]⟩ [.ref a] [.ref a] _ _ hr e0 (hbind c (.ref a)) (.cons rfl .nil) (hsp H S X)) λr s' h=>?_
  cases r with
  |error e=>exact(hCX H e s' h).elim
  |ok fl=>
   cases fl with
   |next=>exact False.elim h
   |brk=>exact False.elim h
   |cont=>exact False.elim h
   |ret u=>
    obtain⟨v,H',os,D,un,A,U,q⟩:=h;have q':v=.bl true:=q;subst q';obtain rfl:u=Value.bool true:=U;refine⟨rfl,OldK.of_keep λb o e=>?_,os,D⟩
    cases q:H b with
    |none=>exact un.keep b o e q (by intro z;exact absurd (show b∈([]:B9)from z) (by simp)) (by simp)
    |some u=>
     rcases S b with z|⟨ob,xs,z⟩
     .rw[q]at z;cases z
     .have Y:=un.frzs b ob _ z;obtain⟨T,_⟩:=E b _ z;obtain⟨e2,_⟩:=A b _ Y;rw[e]at T;cases T;exact e2
 cases M:K.lookup a with
 |some o=>
  have e:=KX a o M;rw[ha]at e;cases e;refine y (λ_=>none) (λ_=>.inl rfl) (.inr ⟨_,_,_,M,rfl,rfl,rfl,by rw[sA0,B];exact hl,by simpa using Q⟩) (λb u z=>by have C:_=some u:=z;cases C) (λb z=>absurd rfl z) λz=>absurd rfl z
 |none=>
  refine y (λb=>if b=a then some _ else none) (λb=>?_) (.inl (.inr ⟨{cls:=.type "list",data:=.seq vs.toArray},iP rfl⟩)) (λb u z=>?_) (λb z=>?_) λ_=>M
  .by_cases j:b=a
   .exact .inr ⟨_,_,iP j⟩
   .exact .inl (iN j)
  .by_cases j:b=a
   .have C:=(iP j).symm.trans z;cases C;subst j;exact⟨ha,by rw[lM];exact hl,vs,_,Q,ha⟩
   .have C:=(iN j).symm.trans z;cases C
  .by_cases j:b=a
   .exact j
   .exact absurd (iN j) z
def walk_of{l:PySem.W.OpenLaw}{n k:Nat}{q:ņ}{i:C0}{D:(Str->Option ń)->Heap->Prop}{z:World->Heap->Prop}{d:DefRec}{K:Params->PySem.W.Frag}{CX:World->XU}{sp:World->Sp}{x:Str}
  (hn:l.most=some n) (hn2:n<=sizeLine) (hdf:d.params.defaults=[]) (hr:Room k callerA)
  (hY: ∀(w:World)(h:Heap),z w h->(K w.params).In h)
  (F: ∀(w:World)(mg:H9)(fa:Addr)(h:Heap),(K w.params).In h->h.Ns mainGlobals mg->mg d.name=some (.ref fa)->
   ∃fd:FuncData,(∀(s:Ń)(u:ń),BindsTo s fd ⟨[u],[]⟩ [(x,u)])/\
    ∀base:Heap,(K w.params).In base->base.Ns mainGlobals mg->FnOk l.prog w (K w.params) mg base (CX w) k fa fd [x] (sp w))
  (hsp: ∀(w:World)(H:Hp)(a:Addr)(r:Za),r.length<=n->Bb H->SqL (K w.params) H a (r.map V.int)->sp w [.ref a] H (λv _=>v=.bl true) λ_ _ _=>False)
  (hCX: ∀(w:World)(H:Hp)(s:Ń)(e:ń)(s':Ń),CX w [] H s (λ_ _ _=>False) e s'->False):
  PySem.W.WalkO q i D z l.row.toRowW d [] (λf vs=>PySem.call f vs):=by
 refine Att.attach_call hn hdf λw A m mg P fa o N cd J a vs r G Y O hd M y p j c B=>?_;have KX:=hY w _ Y;obtain⟨fd,C,L⟩:=F w mg fa _ KX G.T.g y;exact Bc KX G.T.g G.T.b G.T.builtins G.T.nolimit B p j (ø c hn2) hr L C (λH I E=>hsp w H a r c I E) λH e s'=>hCX w H m e s'
noncomputable def oO(s:Stmt):Arguments:=match s with
 |.FunctionDef _ a _ _ _ _ _ _ _ _=>a
 |_=>{posonlyargs:=[],args:=[],vararg:=none,kwonlyargs:=[],kw_defaults:=[],kwarg:=none,defaults:=[]}
noncomputable def gX(s:Stmt):List Stmt:=match s with
 |.FunctionDef _ _ b _ _ _ _ _ _ _=>b
 |_=>[]
noncomputable def zR(s:Stmt):Scope:=match s with
 |.FunctionDef _ _ _ _ _ _ sc _ _ _=>sc
 |_=>{kind:=.function,names:=[],isGenerator:=false,isCoroutine:=false}
abbrev EB:XU:=λ_ _ _ _ _ _=>False
abbrev E0:XK:=λ_ _ _=>False
def Yb{X:Cx}:RS EB X E0:=λ_ _ _ _ _ _ _ h=>h.elim
structure Fun(K:J9)(x qual:Str)(st:Stmt)(f:Addr)(fd:FuncData):Prop where
 ex: ∃(oc:ń)(od:Option Addr)(kV doc pm:ń)(an:Option Addr)(cdv ct:ń)(osl:Array (Option ń)),
  fd=PySem.W.fnOf x qual (oO st) (gX st) (zR st) .none kV doc pm an cdv ct/\K.lookup f=some ⟨oc,od,.func fd,osl⟩/\PySem.W.codeIn K cdv qual=true
 kp:PySem.W.keepIn K (.ref f)=true
section
variable{P:ņ}{w:World}{K:J9}{mg:H9}{base:Heap}
def Fun.ok{x qual:Str}{st:Stmt}{f:Addr}{fd:FuncData}{N ps:C0}{k:Nat}{sp:Sp}(F:Fun K x qual st f fd)(S:FnScope N ps (zR st))(len: ∀vs H Q E,sp vs H Q E->vs.length=ps.length)
  (hbody: ∀(b:ń)(A:Ņ)(a:List Env)(s:Ń)(H:Hp)(vs:List V)(Q:VK)(E:XK),Room k (A.deeper (envOfC qual (zR st) ↑0 f b))->sp vs H Q E->
   ∃t,PSs (KB EB P w K mg base N qual (zR st) f b A a s H E).nox (gX st) t/\t {nx:=λ_ H'=>Q .non H',rt:=Q} (start N vs) H):FnOk P w K mg base EB (k+1) f fd ps sp:=by
 obtain⟨p,od,kV,m,o,r,b,n,e,rfl,i,d⟩:=F.ex;refine Xs i d S len λA a s H vs Q E j c=>?_;obtain⟨t,h,q⟩:=hbody b A a s H vs Q E j c;exact⟨t,h.nox,q⟩
def Fun.binds{x qual:Str}{st:Stmt}{f:Addr}{fd:FuncData}{ps:C0}(F:Fun K x qual st f fd)
  (h: ∀(kV a c:ń)(d:Option Addr)(b ct:ń)(us:A0),us.length=ps.length->bindArgs (PySem.W.fnOf x qual (oO st) (gX st) (zR st) .none kV a c d b ct) ⟨us,[]⟩=pure (ps.zip us)):Binds K fd ps []:=by
 obtain⟨k,od,kV,a,c,d,b,ct,e,rfl,j,i⟩:=F.ex;exact .all (h kV a c d b ct)
def Qm{x qual:Str}{st:Stmt}{f:Addr}{i:ń}{od h:Option Addr}{d:Array (Option ń)}{kV b e a ct:ń}(l:K.lookup f=some ⟨i,od,.func (PySem.W.fnOf x qual (oO st) (gX st) (zR st) .none kV b e h a ct),d⟩)
  (c:PySem.W.codeIn K a qual=true) (k:PySem.W.keepIn K (.ref f)=true):Fun K x qual st f (PySem.W.fnOf x qual (oO st) (gX st) (zR st) .none kV b e h a ct):=⟨⟨i,od,kV,b,e,h,a,ct,d,rfl,l,c⟩,k⟩
end
section
variable{X:Cx}
def pv(i:Nat){x:Str}{pos:Pos}(b:X.N[i]? =some x:=by rfl)(a:Xa X.env.scope x:=by first |exact Or.inl rfl|exact Or.inr (Or.inl rfl)|exact Or.inr (Or.inr rfl))(hd:(x==("__debug__":Str))=false:=by decide)
  (hcd:(x==("__classdict__":Str))=false:=by decide):PE X (.Name x pos) (Xb i):=Pf b a hd hcd
end
end L2
set_option maxHeartbeats 4000000
namespace L2
open PySem PySem.Spec PyProof.Rows
variable{sc:Scope}{tg elt iter:Expr}{ifs:J8}{pos:Pos}
noncomputable def qF(a:Env)(l:List (Str×NameKind))(cs:List (Str×Addr)):List (Str×Addr):=
 l.foldl (λc y=>if y.2==.free then(y.1,(a.cells.lookup y.1).getD 0)::c else c) cs
def KI{α β:Type}{l:List α}{f:α->β->Sem (ForInStep β)}{g:β->α->β}: ∀(c:β),(∀x∈l, ∀c,f x c=pure (.yield (g c x)))->
  forIn l c f=pure (l.foldl g c):=by
 induction l with
 |nil=>intro c _;rfl
 |cons x l ih=>
  intro c h;rw[forIn_cons,h x mF0];exact ih _ λy a=>h y (mO _ a)
def GZ{b:Scope}{d:Env}(h: ∀y∈b.names,y.2=.free-> ∃c,d.cells.lookup y.1=some c):closureFor b d=pure (qF d b.names []):=by
 unfold closureFor qF;dsimp only;rw[KI [] ?_]
 .rfl
 .intro y o c;obtain⟨n,k⟩:=y;by_cases j:k=.free
  .subst j;obtain⟨a,m⟩:=h _ o rfl;have i:=m;simp[cellOf,i]
  .have e:=by simpa using j
   simp[e]
theorem BI{a:Env}: ∀(l:List (Str×NameKind))(cs:List (Str×Addr)),(∀y∈l,y.2=.free-> ∃c,a.cells.lookup y.1=some c)->(∀p∈cs,a.cells.lookup p.1=some p.2)->
  ∀p∈qF a l cs,a.cells.lookup p.1=some p.2
 |[],_,_,h=>h
 |(n,k)::l,cs,hl,h=>by
  refine BI l _ (λy j=>hl y (mO _ j)) λp d=>?_;by_cases i:k=.free
  .subst i;obtain⟨c,m⟩:=hl _ mF0 rfl;have e:=m;have b:p∈_::cs:=d;rcases mC.mp b with rfl|d
   .show a.cells.lookup n=some _;rw[e];rfl
   .exact h p d
  .have b:p∈(if _=true then _::cs else cs):=d;rw[iN (by simpa using i)]at b;exact h p b
theorem EC{a:Env}: ∀(l:List (Str×NameKind))(cs:List (Str×Addr))(p:Str×Addr),p∈cs->p∈qF a l cs
 |[],_,_,h=>h
 |_::l,cs,p,h=>by
  refine EC l _ p ?_;show p∈(if _=true then _::cs else cs);split
  .exact mO _ h
  .exact h
theorem qG{a:Env}: ∀(l:List (Str×NameKind))(cs:List (Str×Addr))(n:Str),(n,NameKind.free)∈l-> ∃c,(n,c)∈qF a l cs
 |[],_,_,h=>nomatch h
 |(m,k)::l,cs,n,h=>by
  rcases mC.mp h with e|h
  .have d:=congrArg Prod.fst e;have b:=congrArg Prod.snd e;subst d b;exact⟨_,EC l _ _ mF0⟩
  .exact qG l _ n h
theorem jL{β:Type}: ∀{l:List (Str×β)}{n:Str},(∃c,(n,c)∈l)-> ∃c,l.lookup n=some c
 |[],_,h=>let ⟨_,z⟩:=h;nomatch z
 |(m,b)::l,n,h=>by
  by_cases e:n=m
  .subst e;exact⟨b,by simp[ł]⟩
  .obtain⟨c,i⟩:=h;rcases mC.mp i with z|z
   .cases z;exact absurd rfl e
   .obtain⟨d,h'⟩:=jL ⟨c,z⟩;refine⟨d,?_⟩;have a:(n==m)=false:=by simpa using e
    simp[ł,a,h']
noncomputable def Bd(a b:Scope):List (Str×NameKind):=a.names.map λ(n,k)=>if(k==.free&&b.kind==.function&&b.names.lookup n==some .cell)then(n,.cell)else(n,k)
noncomputable def sD(a:Scope)(N:C0)(sc:Scope)(idx:Db):Bool:=
 decide (sc.kind=.function)&&sc.names.all (λy=>decide (sc.names.lookup y.1=some y.2))&&
 sc.names.all (λy=>decide (y.2≠.free) || decide (a.names.lookup y.1=some .cell) || decide (a.names.lookup y.1=some .free))&&
 idx.all (λi=>match N[i]? with
  |some y=>(decide (a.names.lookup y=some .cell) || decide (a.names.lookup y=some .free))&&decide (sc.names.lookup y=some .free)
  |none=>false)
abbrev Ai(a:Env)(sc:Scope)(C:Addr):List (Str×Addr):=cellsFrom (C+1) sc.names (qF a sc.names [])
theorem xM: ∀(l:List (Str×NameKind))(n:Nat)(a:List (Str×Addr)),cellsFrom n l a=cellsFrom n l []++a
 |[],n,a=>rfl
 |_::l,n,a=>by
  unfold cellsFrom;split
  .rw[xM l _ _,xM l _ [_],aA];rfl
  .exact xM l n a
theorem tZ: ∀(l:List (Str×NameKind))(n:Nat){x:Str}{c:Addr},(x,c)∈cellsFrom n l []->(x,NameKind.cell)∈l/\n<=c
 |[],n,x,c,h=>nomatch h
 |(y,k)::l,n,x,c,h=>by
  unfold cellsFrom at h;split at h
  .rename_i d;rw[xM]at h;rcases é.mp h with h|h
   .obtain⟨h1,b⟩:=tZ l _ h;exact⟨mO _ h1,by lia⟩
   .have e:=mS.mp h;cases e;have a:=by simpa using d
    subst a;exact⟨mF0,à _⟩
  .obtain⟨h1,b⟩:=tZ l n h;exact⟨mO _ h1,b⟩
def sZ{l:List (Str×NameKind)}{C:Nat}{x:Str}{c:Addr}(h:(x,c)∈cellsFrom (C+1) l []){n:Nat}(a:n<=C):n<c:=lt_of_le_of_lt a (tZ l _ h).2
theorem rH: ∀(l:List (Str×NameKind))(n:Nat){x:Str},(x,NameKind.cell)∈l-> ∃c,(x,c)∈cellsFrom n l []
 |[],n,x,h=>nomatch h
 |(y,k)::l,n,x,h=>by
  unfold cellsFrom;rcases mC.mp h with e|h
  .cases e;rw[xM];exact⟨n,ó _ mF0⟩
  .split
   .obtain⟨c,a⟩:=rH l _ h;rw[xM];exact⟨c,Ă _ a⟩
   .exact rH l n h
theorem own_apart: ∀(l:List (Str×NameKind))(n:Nat),(cellsFrom n l []).Pairwise λx y=>x.2≠y.2
 |[],n=>List.Pairwise.nil
 |_::l,n=>by
  unfold cellsFrom;split
  .rw[xM];refine ê.mpr ⟨own_apart l _,List.pairwise_singleton _ _,λa c b d e=>?_⟩;rw[mS.mp d]at e;have:=(tZ l _ c).2;exact ù this e
  .exact own_apart l n
theorem oP{β:Type}(x:Str): ∀(l m:List (Str×β)),(l++m).lookup x=(l.lookup x).or (m.lookup x)
 |[],m=>rfl
 |(y,b)::l,m=>by
  rw[Ğ,ł,ł]
  cases x==y with
  |true=>rfl
  |false=>exact oP x l m
theorem II{β:Type}{x:Str}: ∀{l:List (Str×β)},(∀c,(x,c)∉l)->l.lookup x=none
 |[],_=>rfl
 |(y,b)::l,h=>by
  rw[ł]
  cases e:x==y with
  |true=>rw[beq_iff_eq.mp e]at h;exact absurd mF0 (h b)
  |false=>exact II λc a=>h c (mO _ a)
def eY{a:Env}{C:Addr}{x:Str}{c:Addr}(e:(Ai a sc C).lookup x=some c):(x,c)∈cellsFrom (C+1) sc.names []\/(qF a sc.names []).lookup x=some c:=by
 unfold Ai at e;rw[xM,oP]at e
 cases z:(cellsFrom _ sc.names []).lookup x with
 |some c'=>rw[z]at e;cases e;exact .inl (PySem.mem_of_lookup z)
 |none=>rw[z]at e;exact .inr e
def Qn{a:Env}{C:Addr}{x:Str}{c:Addr}(h:(x,NameKind.cell)∈sc.names)(e:(Ai a sc C).lookup x=some c):(x,c)∈cellsFrom (C+1) sc.names []:=by unfold Ai at e;rw[xM,oP]at e;obtain⟨b,h'⟩:=jL (rH sc.names _ h);rw[h']at e;cases e;exact PySem.mem_of_lookup h'
theorem Hv{a:Env}{C:Addr}{x:Str}(h:(x,NameKind.cell)∉sc.names):(Ai a sc C).lookup x=(qF a sc.names []).lookup x:=by unfold Ai;rw[xM,oP,II λc b=>h (tZ _ _ b).1];rfl
noncomputable def vU(σ:St)(idx:Db):St:=idx.map λi=>(σ[i]?).join
def iT(σ:St)(idx:Db):(vU σ idx).length=idx.length:=by unfold vU;rw[lM]
def zN(X:Cx)(sc:Scope)(T:C0)(idx:Db)(C:Addr)(s₂:Ń)(H1:Hp)(fp:B9):Cx where
 prog:=X.prog
 w:=X.w
 K:=X.K
 mg:=X.mg
 base:=X.base
 A:=X.A
 N:=T++idx.map λi=>(X.N[i]?).getD Str.empty
 s₀:=s₂
 H₀:=H1
 env:=compEnvC sc (Ai X.env sc C) C X.env
 outer:=X.stack
 stack:=X.stack
 ex:=fp
 fn:=λx=>sc.names.lookup x==some .cell
 calm:=X.calm
 pn:=[]
 xe:=λ_ _=>False
def Be(k:TI)(g:TG)(n:Addr->Ń->Hp->List Addr->TT)(te:Addr->Ń->Hp->List Addr->TE)(nt:Nat)(idx:Db):TE:=λσ H Q=>k σ H λJ H1=> ∃W:Nat->Nat->List V->Hp->Prop,(∃m,W 0 m [] H1)/\ ∀i m ys c,W i m ys c->ys.length<=sizeLine/\
 ((J.stop i c/\ ∀D,c D=none->Q (.ref D) (wC c D (.lst ys)))\/
   (J.go i c/\ys.length<sizeLine/\ ∀x h,J.yld i c x h-> ∀τ:St,τ.length=nt->g x (τ++vU σ idx) h λa j=>(∃d,a=d++vU σ idx/\d.length=nt)/\
    ∀C s₂ fp,n C s₂ H1 fp a j λb H5=>if b=true then te C s₂ H1 fp a H5 λy H6=> ∃e,e<m/\W (i+1) e (ys++[y]) H6 else∃e,e<m/\W (i+1) e ys H5))
section
variable{prog:ņ}{w:World}{A:Ņ}{R:Result->Ń->Prop}{s:Ń}
def KL{a:Expr}{u:Scope}{it B:ń}{e:Env}(I:Nat->Ń->Prop)
  (turn: ∀n s,I n s->wpAny (model prog w) A (pyNext it) (λr b=>match r with
   |none=>R (.ok .next) b
   |some v=>wpAny (model prog w) A (letOwnedTupleGo a it v) (λ_ d=>wpAny (model prog w) A (assign a e v) (λ_ s₂=>
     wpAny (model prog w) A (forIn ifs true λc r=>if r=true then do let ok <-isTrue c e (eval c e);pure (ForInStep.yield ok)else pure (ForInStep.yield r)) (λok i=>
      if ok=true then wpAny (model prog w) A (eval elt e) (λx k=>
       wpAny (model prog w) A (call (.builtin "list.append") [B,x]) (λ_ j=> ∃m,m<n/\I m j) (λ_ _=>False) k) (λ_ _=>False) i
      else∃m,m<n/\I m i) (λ_ _=>False) s₂) (λ_ _=>False) d) (λ_ _=>False) b) (λ_ _=>False) s)
  (n:Nat) (h:I n s):codeAny (model prog w) A (.compLoop (.ListComp elt [⟨a,iter,ifs,0⟩] u pos) 0 it B e) R s:=by
 refine codeAny_loop rfl I (λn s G=>?_) n h;show wpAny _ A _ _ _ s;refine wpAny_noted ?_;have y: ∀{F:VP}(v:ń)(s':Ń),False->F v s':=λ_ _ z=>z.elim;refine wB (wpAny_standAt (wB (û (turn n s G) (λr b o=>?_) (y))))
 cases r with
 |none=>exact wP o
 |some v=>
  refine wB (û o (λ_ d q=>wB (û q (λ_ s₂ D=>wB (û D (λok i p=>?_) y)) y)) y)
  cases ok with
  |false=>exact wP ⟨rfl,p⟩
  |true=>
   exact wB (wB (û p (λx k E=>wB (û E (λ_ j C=>wP (wP ⟨rfl,C⟩)) y)) y))
end
def YD(X:Cx)(ifs:J8)(t:TT):Prop:=
 ∀(pins:J5)(s:Ń)(σ:St)(H:Hp)(Q:Bool->Hp->Prop),Inv X pins σ H s->t σ H Q->
  wpAny (model X.prog X.w) X.A (forIn ifs true λc r=>if r=true then do let ok <-isTrue c X.env (eval c X.env);pure (ForInStep.yield ok)else pure (ForInStep.yield r)) (TP X pins σ Q) X.xe s
def Yc:TT:=λ_ H Q=>Q true H
def Bf{X:Cx}:YD X [] Yc:=λ_ _ _ H _ I h=>wpAny_tests_nil ⟨H,I,h⟩
def Bg{X:Cx}{c:Expr}{t:TT}(h:PT X c t):YD X [c] t:=λpins s σ H Q I q=>wpAny_tests_one (h pins s σ H Q I q)
structure CompF(osc:Scope)(N:C0)(sc:Scope)(idx:Db):Prop where
 kind:sc.kind=.function
 uni: ∀y∈sc.names,sc.names.lookup y.1=some y.2
 frees: ∀y∈sc.names,y.2=.free->osc.names.lookup y.1=some .cell\/osc.names.lookup y.1=some .free
 cap: ∀i∈idx, ∃y,N[i]? =some y/\(osc.names.lookup y=some .cell\/osc.names.lookup y=some .free)/\sc.names.lookup y=some .free
def CompF.locs{a:Scope}{N:C0}{idx:Db}(F:CompF a N sc idx): ∀y∈sc.names,y.2=.local->sc.names.lookup y.1=some .local:=λy b e=>by rw[F.uni y b,e]
def Hw{a:Scope}{N:C0}{idx:Db}(h:sD a N sc idx=true):CompF a N sc idx:=by
 unfold sD at h;simp only[aE,ą,decide_eq_true_eq,Bool.or_eq_true]at h;obtain⟨⟨⟨h1,d⟩,c⟩,j⟩:=h;refine⟨h1,λy b=>d y b,λy b e=>?_,λi hi=>?_⟩
 .rcases c y b with(z|z)|z
  .exact absurd e z
  .exact .inl z
  .exact .inr z
 .have q:=j i hi
  cases e:N[i]? with
  |none=>rw[e]at q;cases q
  |some y=>
   rw[e]at q;simp only[aE,decide_eq_true_eq,Bool.or_eq_true]at q;exact⟨y,rfl,q.1,q.2⟩
def Bh{a:Scope}{x:Str}(h:(Bd sc a).lookup x=some .cell\/(Bd sc a).lookup x=some .free):(x,NameKind.free)∈sc.names\/(x,NameKind.cell)∈sc.names:=by
 have b: ∀c,(c=.cell\/c=.free)->(x,c)∈Bd sc a->(x,NameKind.free)∈sc.names\/(x,NameKind.cell)∈sc.names:=by
  intro c d m;obtain⟨⟨n,k⟩,i,e⟩:=mM.mp m;dsimp only at e;split at e
  .rename_i j;cases e;rw[aE,aE]at j;have:=by simpa using j.1.1
   subst this;exact .inl i
  .cases e;rcases d with rfl|rfl
   .exact .inr i
   .exact .inl i
 rcases h with h|h
 .exact b _ (.inl rfl) (PySem.mem_of_lookup h)
 .exact b _ (.inr rfl) (PySem.mem_of_lookup h)
theorem IK{a:Scope}{x:Str}: ∀{l:List (Str×NameKind)},l.lookup x=some .free->(l.map λ(n,k)=>if(k==NameKind.free&&a.kind==.function&&a.names.lookup n==some .cell)then(n,NameKind.cell)else(n,k)).lookup x=some .cell\/(l.map λ(n,k)=>if(k==NameKind.free&&a.kind==.function&&a.names.lookup n==some .cell)then(n,NameKind.cell)else(n,k)).lookup x=some .free
 |[],h=>by simp at h
 |(n,k)::l,h=>by
  have c:=@IK a x l;rw[ł]at h;rw[æ];by_cases d:(k==NameKind.free&&a.kind==.function&&a.names.lookup n==some .cell)=true
  .dsimp only;rw[iP d,ł]
   cases b:x==n with
   |true=>exact .inl rfl
   |false=>rw[b]at h;exact c h
  .dsimp only;rw[iN d,ł]
   cases b:x==n with
   |true=>rw[b]at h;exact .inr h
   |false=>rw[b]at h;exact c h
section
variable{X:Cx}{pins:J5}{σ:St}{H1:Hp}{s₂:Ń}{sc:Scope}{T:C0}{idx:Db}{C:Addr}{fp:B9}
def OG(I:Inv X pins σ H1 s₂)(F:CompF X.env.scope X.N sc idx): ∀y∈sc.names,y.2=.free-> ∃c,X.env.cells.lookup y.1=some c:=
 λy a e=>I.ok.has y.1 (F.frees y a e)
def jA(I:Inv X pins σ H1 s₂)(F:CompF X.env.scope X.N sc idx){x:Str}{c:Addr}(e:(qF X.env sc.names []).lookup x=some c):X.env.cells.lookup x=some c:=
 BI sc.names [] (OG I F) (λ_ z=>nomatch z) _ (PySem.mem_of_lookup e)
def Hx(I:Inv X pins σ H1 s₂)(F:CompF X.env.scope X.N sc idx){x:Str}{c:Addr}(a:(x,NameKind.free)∈sc.names)(e:X.env.cells.lookup x=some c):(qF X.env sc.names []).lookup x=some c:=by obtain⟨b,h'⟩:=jL (qG sc.names [] x a);rw[h'];rw[jA I F h']at e;exact e
def YE(I:Inv X pins σ H1 s₂)(F:CompF X.env.scope X.N sc idx)(hC:s₂.heap.objs.size<=C)(hfp: ∀b∈fp,oN X pins H1 b)(hlt: ∀b∈fp,b<s₂.heap.objs.size):(zN X sc T idx C s₂ H1 fp).Ok where
 mod:=I.ok.mod
 kind:=F.kind
 glob:=I.ok.glob
 blt:=I.ok.blt
 above:=hC
 inj:=λx y c h1 h2=>by
  have low: ∀z,(qF X.env sc.names []).lookup z=some c->c<s₂.heap.objs.size:=λz h=>let ⟨v,q⟩:=I.cell z c (jA I F h);q.lt;rcases eY h1 with z1|z1<;>rcases eY h2 with z2|z2
  .exact PySem.name_of_addr (own_apart sc.names (C+1)) z1 z2
  .exact absurd (low y z2) (Nat.not_lt.mpr (le_of_lt (sZ z1 hC)))
  .exact absurd (low x z1) (Nat.not_lt.mpr (le_of_lt (sZ z2 hC)))
  .exact I.ok.inj x y c (jA I F z1) (jA I F z2)
 has:=λx hx=>by
  have hx':(Bd sc X.env.scope).lookup x=some .cell\/(Bd sc X.env.scope).lookup x=some .free:=hx;show∃c,(Ai X.env sc C).lookup x=some c;unfold Ai;rw[xM];rcases Bh hx' with z|z
  .obtain⟨c,hc⟩:=qG sc.names [] x z;exact jL ⟨c,ó _ hc⟩
  .obtain⟨c,hc⟩:=rH sc.names (C+1) z;exact jL ⟨c,Ă _ hc⟩
 cab:=λx c h e=>by have h':sc.names.lookup x=some .cell:=beq_iff_eq.mp h;exact le_of_lt (sZ (Qn (PySem.mem_of_lookup h') e) hC)
 hd:=I.ok.hd
 frames:=I.ok.frames
 stk:=.inl rfl
 exf:=λb hb=>⟨ë (ç (hlt b hb) hC),λx c e=>by
  rcases eY e with z|z
  .exact ù (lt_trans (hlt b hb) (sZ z hC))
  .exact(hfp b hb).2.2.2.2.1 x c (jA I F z)⟩
 bs:=I.bs
 bsz:=ø I.ok.bsz I.sz
 noex:=λb o e hb=>by
  rcases (hfp b hb).2.2.2.1 with z|z
  .exact I.ok.noex b o e z
  .exact absurd (ç (â e) (ø I.ok.bsz z)) (Į _)
 exfs:=λb hb z=>by
  rcases mC.mp (I.stkSub b z)with e|e
  .exact(hfp b hb).2.1 e
  .exact(hfp b hb).2.2.1 e
 funs:=I.stack
 frf:=I.stkFree
theorem RW{d:Ń}{m:H9}(I:Inv X pins σ H1 s₂)(F:CompF X.env.scope X.N sc idx)(A:s₂.heap.objs.size<=C)(E: ∀b∈fp,oN X pins H1 b)(B: ∀b∈fp,b<s₂.heap.objs.size)
  (kp: ∀b o,s₂.heap.get? b=some o->d.heap.get? b=some o) (ho:d.os=s₂.os) (hg:d.gens=s₂.gens) (hn:d.heap.Ns C m) (hcl: ∀x c,(x,c)∈cellsFrom (C+1) sc.names []->d.heap.IsCell c none):
  Inv (zN X sc T idx C s₂ H1 fp) [] (T.map (λ_=>none)++vU σ idx) H1 d:=by
 have k: ∀c v,s₂.heap.IsCell c v->d.heap.IsCell c v:=λc v ⟨o,h1,S⟩=>⟨o,kp c o h1,S⟩
 refine⟨YE I F A E B,ho,by rw[hg];exact I.bare,Un.kept kp,⟨m,hn,λi x v Q h U=>?_⟩,λx c e=>?_,I.hok.fresh A,λx c e=>?_,λp K=>absurd (show p∈([]:List _)from K) (by simp),I.hok.kept kp,?_⟩
 .have n:(T++idx.map λi=>(X.N[i]?).getD Str.empty)[i]? =some x:=Q;by_cases hi:i<T.length
  .rw[á (by simpa using hi),ö]at h
   cases z:T[i]? with
   |none=>rw[z]at h;cases h
   |some y=>rw[z]at h;cases h
  .rw[å (by simpa using hi)]at h;rw[å #[0]]at n;rw[lM]at h;unfold vU at h;rw[ö]at n h
   cases z:idx[i - T.length]? with
   |none=>rw[z]at h;cases h
   |some j=>
    rw[z]at n h;have J:=è z;obtain⟨y,H,k1,k2⟩:=F.cap j J;have ex:=by have q:(X.N[j]?).getD Str.empty=x:=ä n;rw[H]at q;exact q
    subst ex
    have M:σ[j]? =some (some v):=by
     have q:(σ[j]?).join=some v:=ä h
     cases G:σ[j]? with
     |none=>rw[G]at q;cases q
     |some a=>rw[G]at q;have O:a=some v:=q;rw[O]
    obtain⟨W,P,w⟩:=I.loc;have D:Xa X.env.scope y:=k1.elim (λz=>.inr (.inl z)) λz=>.inr (.inr z);obtain⟨u,r,l⟩:=w j y v H M D;refine⟨u,r,?_⟩;rcases l with⟨kl,_⟩|⟨_,c,hc,q⟩
    .have s:X.env.scope.names.lookup y=some .local:=kl;rcases k1 with z|z<;>rw[z]at s<;>cases s
    .have L:(y,NameKind.cell)∉sc.names:=λz=>by have:=F.uni _ z;rw[k2]at this;cases this
     refine .inr ⟨IK k2,c,?_,k c _ q⟩;show(Ai X.env sc C).lookup y=some c;rw[Hv L];exact Hx I F (PySem.mem_of_lookup k2) hc
 .rcases eY e with z|z
  .exact⟨none,hcl x c z⟩
  .obtain⟨v,q⟩:=I.cell x c (jA I F z);exact⟨v,k c v q⟩
 .rcases eY e with z|z
  .exact I.hok.fresh (le_of_lt (sZ z A))
  .exact I.freeC x c (jA I F z)
 .show(T.map (λ_=>_)++vU σ idx).length=(T++idx.map λi=>(X.N[i]?).getD Str.empty).length;rw[lA,lA,lM,lM,iT]
def RX{m:St}{H':Hp}{s':Ń}{h':Heap}{D:Addr}{ys:List V}{its:A0}{n:Nat}(I:Inv X pins σ H1 s₂)(w:s₂.heap.objs.size<=C)(h: ∀b∈fp,oN X pins H1 b)
  (J:Inv (zN X sc T idx C s₂ H1 fp) [] m H' s') (hs:Heap.SameBut C s'.heap h') (hD:s₂.heap.objs.size<=D) (hDC:D≠C) (eD:s'.heap.get? D=some {cls:=.type "list",data:=.seq its.toArray n}) (nD:H' D=none) (r:Vals ys its) (hz:ys.length<=sizeLine):
  Inv X pins σ (wC H' D (.lst ys)) {s' with heap:=h'}:=by
 have old: ∀b o,s₂.heap.get? b=some o->b≠C/\b≠D:=λb o e=>⟨ë (ç (â e) w),ë (ç (â e) hD)⟩
 have d: ∀b u,H1 b=some u->b≠D:=λb u e=>ë (ç (I.hok.lt e) hD);have p:=J.free;have B:Un _ fp H1 H' s₂.heap s'.heap:=J.base;have k: ∀b o,b≠C->s'.heap.get? b=some o->h'.get? b=some o:=λb o a e=>(hs.2 b a).trans e;refine I.call' J.os ⟨λb o e q a i=>?_,λb o e q a i=>?_,λb o e q i=>?_,λb o e i=>?_,λb xs e=>?_,λb o u e=>?_,λb ps e=>?_⟩ ?_ J.bare λb a=>⟨(h b a).2.2.2.1,(h b a).2.1,(h b a).2.2.2.2.1,(h b a).2.2.2.2.2⟩
 .exact k b o (old b o e).1 (B.keep b o e q a i)
 .obtain⟨sl,z⟩:=B.slot b o e q a i;exact⟨sl,k b _ (old b o e).1 z⟩
 .rw[zL (old b o e).2];exact B.free b o e q i
 .obtain⟨o',z⟩:=B.there b o e i;exact⟨o',k b o' (old b o e).1 z⟩
 .rw[zL (d b _ e)];exact B.tups b xs e
 .rw[zL (d b _ e)];exact B.frzs b o u e
 .obtain⟨j,z⟩:=B.tbls b ps e;exact⟨j,by rw[zL (d b _ e)];exact z⟩
 .intro b u e;by_cases a:b=D
  .subst a;rw[zT]at e;cases e;exact⟨hz,its,n,r,k b _ hDC eD⟩
  .rw[zL a]at e;refine(J.hok b u e).stay (λc v s q=>k c v ?_ q) (λc q=>by rw[zL (zQ q nD)];exact q) λc xs q=>by rw[zL (zQ q nD)];exact q
   rcases s with z|z
   .rw[z];exact zQ e p
   .exact zQ z p
end
section
variable{X:Cx}
def HA{M:Model}{A:Ņ}{E:VP}{s:Ń}{a:Scope}{b:Addr}{c:List (Str×Addr)}{qual:Str}{d:Env}{Q:Env->Ń->Prop}
  (hQ:Q (newEnv a ↑0 b (cellsFrom (↑0+1) a.names c) qual none .none (some d) builtinsNs) {s with heap:=pushCells (s.heap.push {cls:=.type "dict",data:=.dict #[]}) a.names}):
  wpAny M A (newFunctionEnv a b c [] qual none .none (some d)) Q E s:=by
 simp only[newFunctionEnv,Option.isSome_some,if_true];refine wB (wpAny_alloc ?_);refine wB (wpAny_layCells _ (λname kind e=>by cases h:kind==NameKind.cell<;>simp[h]) _ _ _ _ ?_);rw[show({s with heap:=s.heap.push {cls:=.type "dict",data:=.dict #[]}}:Ń).heap.objs.size=↑0+1 from ĭ ..];exact wB (wP (wP hQ))
theorem OH{C:Cx->Prop}{wi:TI}{g:TG}{tc:Addr->Ń->Hp->List Addr->TT}{te:Addr->Ń->Hp->List Addr->TE}(T:C0)(idx:Db)
  (hi:Xj C X tg iter wi) (hCx: ∀c s₂ B fp pins σ,Inv X pins σ B s₂->C (zN X sc T idx c s₂ B fp)) (hB:sD X.env.scope X.N sc idx=true)
  (hg: ∀C s₂ H1 fp,PG (zN X sc T idx C s₂ H1 fp) tg g)
  (hc: ∀C s₂ H1 fp,YD (zN X sc T idx C s₂ H1 fp) ifs (tc C s₂ H1 fp))
  (he: ∀C s₂ H1 fp,PE (zN X sc T idx C s₂ H1 fp) elt (te C s₂ H1 fp))
  (hs: ∀x,foldedSetIterable iter X.env x=pure x:=by intro _;rfl)
  {pins:J5} {s:Ń} {σ:St} {H:Hp} {Q:VK} {use:Option (ń->Sem Unit)} {Q':VP} (I:↑2) (h:Be wi g tc te T.length idx σ H Q)
  (fin: ∀(D C:Addr)(G:Ń)(H':Hp)(r:_),(∀h',Heap.SameBut C G.heap h'->Inv X pins σ H' {G with heap:=h'})->oN X pins H' C->(∃m,G.heap.Ns C m)->Q (.ref D) H'->
   compPost (model X.prog X.w) X.A X.xe use Q' (.ref D) C (.ok r) G):
  wpAny (model X.prog X.w) X.A (comprehension (.ListComp elt [⟨tg,iter,ifs,0⟩] sc pos) sc X.env (firstIterPos [⟨tg,iter,ifs,0⟩] pos) (newList []) false (eval iter X.env) use) Q' X.xe s:=by
 have cf:=Hw hB;refine wpAny_comprehension_free rfl hs (GZ (OG I cf)) cf.kind cf.locs ?_;refine kY (hi pins s σ H _ I h) λv s1 h1=>kY h1 λa9 a h2=>?_;obtain⟨it,fp,tn,J,B,e,P,O,ah,f2,W,⟨m0,w0⟩,aw⟩:=h2;subst e;have aa: ∀b∈fp,b<a.heap.objs.size:=λb j=>let ⟨o,e,_⟩:=O.obj _ _ ah b j;â e;refine ć (HA ?_);dsimp only;generalize af:a.heap.push {cls:=.type "list",dict:=none,data:=.seq ([]:A0).toArray}=HH;generalize ab:pushCells (HH.push {cls:=.type "dict",data:=.dict #[]}) sc.names=h₁;have S:h₁.Ns HH.objs.size (λ_=>none):=ab▸(Heap.Ns.new HH (.type "dict")).keeps (pushCells_keeps _ _);have hC:HH.objs.size=a.heap.objs.size+1:=by rw[<-af,ĭ]
 have U:a.heap.objs.size≠HH.objs.size:=by rw[hC];exact ë (Nat.lt_succ_self _)
 have E:a.heap.objs.size<=HH.objs.size:=by rw[hC];exact le_succ _
 have au: ∀b o,HH.get? b=some o->h₁.get? b=some o:=λb o e=>ab▸pushCells_keeps _ _ b o (hP0 _ e);have old: ∀b o,a.heap.get? b=some o->h₁.get? b=some o:=λb o e=>au b o (af▸hP0 _ e);have a3:h₁.get? a.heap.objs.size=some {cls:=.type "list",data:=.seq ([]:A0).toArray 0}:=au _ _ (af▸ã _ rfl);have a0: ∀x c,(x,c)∈cellsFrom (HH.objs.size+1) sc.names []->h₁.IsCell c none:=λx c hm=>by have ok:=cellsFrom_ok sc.names (HH.push {cls:=.type "dict",data:=.dict #[]}) 0 [] ⟨λ_ _ hm=>(nomatch hm),List.Pairwise.nil⟩ (zero_le _);rw[ĭ,ab]at ok;exact(ok.empty x c hm).1
 have a7:B a.heap.objs.size=none:=P.hok.fresh (à _)
 have cD: ∀x c,(Ai X.env sc HH.objs.size).lookup x=some c->c≠a.heap.objs.size:=λx c e=>by
  rcases eY e with z|z
  .exact ù (sZ z E)
  .obtain⟨v,q⟩:=P.cell x c (jA P cf z);exact ë q.lt
 have Y: ∀G:Ń,G={a with heap:=h₁}->
   codeAny (model X.prog X.w) X.A (.compLoop (.ListComp elt [⟨tg,iter,ifs,0⟩] sc pos) 0 (.ref it) (.ref a.heap.objs.size) (compEnvC sc (Ai X.env sc HH.objs.size) HH.objs.size X.env))
    (compPost (model X.prog X.w) X.A X.xe use Q' (.ref a.heap.objs.size) HH.objs.size) G:=by
  rintro G rfl
  have J0:Inv (zN X sc T idx HH.objs.size a B fp) [] (T.map (λ_=>none)++vU σ idx) B {a with heap:=h₁}:=
   RW P cf E f2 aa old rfl rfl S a0
  refine KL (λk s'=> ∃(i:Nat)(ys:List V)(its:A0)(n:Nat)(H':Hp)(τ:St),Inv (zN X sc T idx HH.objs.size a B fp) [] (τ++vU σ idx) H' s'/\τ.length=T.length/\tn i s'.heap/\(∀b∈fp,H' b=none)/\
   s'.heap.get? a.heap.objs.size=some {cls:=.type "list",data:=.seq its.toArray n}/\H' a.heap.objs.size=none/\Vals ys its/\W i k ys H') ?_ m0
   ⟨0,[],[],0,B,_,J0,by rw[lM],O.keep _ _ _ ah λb _ o e=>old b o e,λb j=>(f2 b j).1,a3,a7,.nil,w0⟩
  rintro k s3 ⟨i,ys,its,n,H3,τ,I3,az,ao,ar,a5,ag,r3,w3⟩;obtain⟨hz,a6⟩:=aw i k ys H3 w3;have av:a.heap.objs.size∉(zN X sc T idx HH.objs.size a B fp).fs:=λz=>by obtain⟨_,o,ho,_⟩:=P.stack.mem (show a.heap.objs.size∈XQ X.stack from z);exact absurd (â ho) (Į _)
  have ak: ∀{H':Hp}{s':Ń},s'.heap.get? a.heap.objs.size=some {cls:=.type "list",data:=.seq its.toArray n}->H' a.heap.objs.size=none->
    ∀p∈[(a.heap.objs.size,({cls:=.type "list",data:=.seq its.toArray n}:Obj))],s'.heap.get? p.1=some p.2/\H' p.1=none/\p.1≠(zN X sc T idx HH.objs.size a B fp).env.locals/\p.1∉(zN X sc T idx HH.objs.size a B fp).fs/\ ∀v,p.2.data≠.cell v:=
   λ{H' s'} e1 e2 p M=>by
    have ep:p=(a.heap.objs.size,{cls:=.type "list",data:=.seq its.toArray n}):=by simpa using M
    subst ep;exact⟨e1,e2,U,av,λv z=>by cases z⟩
  have P3:Inv (zN X sc T idx HH.objs.size a B fp) [_] (τ++vU σ idx) H3 s3:=I3.pins_of (ak a5 ag)
  have K: ∀{H':Hp},(∀b∈fp,H' b=none)-> ∀b∈fp,oN (zN X sc T idx HH.objs.size a B fp) [_] H' b:=λ{H'} hn b j=>by
   have ai:=aa b j;refine⟨hn b j,ë (ç ai E),I3.ok.exfs b j,.inl j,λx c e=>?_,λp M=>?_⟩
   .rcases eY e with z|z
    .exact ù (lt_trans ai (sZ z E))
    .exact(f2 b j).2.2.2.2.1 x c (jA P cf z)
   have ep:p=(a.heap.objs.size,({cls:=.type "list",data:=.seq its.toArray n}:Obj)):=by simpa [zN]using M
   subst ep;exact ù ai
  rcases a6 with⟨stop,q⟩|⟨go,hl2,step⟩
  .refine kY (O.done (zN X sc T idx HH.objs.size a B fp) rfl rfl rfl (hCx _ _ _ _ _ _ P) i _ s3 _ H3 (λ_ _=>False) P3 (K ar) ao stop) λr G ⟨hr,I4⟩=>?_;subst hr;obtain⟨m,hn,_⟩:=id I4.loc;have a8:=(I4.pin (a.heap.objs.size,{cls:=.type "list",data:=.seq its.toArray n}) (by simp)).1;exact fin _ _ G _ _ (λh' ax=>RX P E f2 (I4.pins_of (λp M=>nomatch M)) ax (à _) U a8 ag r3 hz) (P.fpOk E (by rw[zL (Ne.symm U)];exact I4.free)) ⟨m,hn⟩ (q _ ag)
  .refine kY (O.item (zN X sc T idx HH.objs.size a B fp) rfl rfl rfl (hCx _ _ _ _ _ _ P) i _ s3 _ H3 (λ_ _=>False) P3 (K ar) ao go) λr G ⟨u,hr,h4⟩=>?_;subst hr;refine kY h4 λ_ s5 ⟨x,H5,I5,r5,y5,L,ay⟩=>?_;have a4:=I5.pinned (K ay) (O.obj _ _ L);refine kY (hg HH.objs.size a B fp _ s5 _ H5 x u _ a4 r5 (step x H5 y5 τ az)) λ_ s6 ⟨a',H6,I6,⟨Z,e6,l6⟩,q6⟩=>?_;subst e6;refine kY (hc HH.objs.size a B fp _ s6 _ H6 _ I6 (q6 HH.objs.size a fp)) λok s7 ⟨H7,I7,q7⟩=>?_
   have mD:(a.heap.objs.size,({cls:=.type "list",data:=.seq its.toArray n}:Obj))∈(zN X sc T idx HH.objs.size a B fp).pn++([(a.heap.objs.size,{cls:=.type "list",data:=.seq its.toArray n})]++sW fp s5.heap):=
    ó _ (Ă _ (by simp))
   have mF: ∀b∈fp, ∀o,s5.heap.get? b=some o->(b,o)∈(zN X sc T idx HH.objs.size a B fp).pn++([(a.heap.objs.size,{cls:=.type "list",data:=.seq its.toArray n})]++sW fp s5.heap):=λb j o e=>
    ó _ (ó _ (sX j e))
   cases ok with
   |false=>
    rw[iN xF0]at q7 ⊢;obtain⟨m',aj,w7⟩:=q7;refine⟨m',aj,i+1,ys,its,n,H7,Z,I7.pins_of (λp M=>nomatch M),l6,O.keep _ _ _ L λb j o e=>(I7.pin _ (mF b j o e)).1,λb j=>?_,(I7.pin _ mD).1,(I7.pin _ mD).2.1,r3,w7⟩;obtain⟨o,e,d⟩:=O.obj _ _ L b j;exact(I7.pin _ (mF b j o e)).2.1
   |true=>
    rw[iP rfl]at q7 ⊢;refine kY (he HH.objs.size a B fp _ s7 _ H7 _ I7 q7) λy s8 ⟨yv,H8,I8,r8,m',aj,w8⟩=>?_;have ae:=(I8.pin _ mD).1;have aq:=(I8.pin _ mD).2.1;have hl:=r3.length;have q:=PySem.IsL.update ae (λz=>z.push y);rw[show its.toArray.push y=(its++[y]).toArray by simp]at q;refine call_meets PySem.F.slot_list_append ⟨_,ae,rfl⟩ PySem.F.entry_list_append (PySem.F.args_list_append_2 _ _) (PySem.list_append a.heap.objs.size its.toArray n y (by rw[sA0];lia)) ⟨ae,?_⟩;have I9:Inv (zN X sc T idx HH.objs.size a B fp) [] (Z++vU σ idx) H8 s8:=I8.pins_of (λp M=>nomatch M);have up: ∀b o,b≠a.heap.objs.size->s8.heap.get? b=some o->(s8.heap.update a.heap.objs.size (Obj.mapSeq λz=>z.push y)).get? b=some o:=λb o j e=>(ý s8.heap _ (Ne.symm j)).trans e;refine⟨m',aj,i+1,_,_,_,H8,Z,I9.turned up aq U (.inr (à _)) cD (λp M=>nomatch M),l6,?_,λb j=>?_,q,aq,r3.append (.cons r8 .nil),w8⟩
    .exact O.keep _ _ _ L λb j o e=>up b o (ë (aa b j)) (I8.pin _ (mF b j o e)).1
    .obtain⟨o,e,d⟩:=O.obj _ _ L b j;exact(I8.pin _ (mF b j o e)).2.1
 exact codeAny_compStart_list (Y _ rfl) (O.self X.A 0 _ _ _ (O.keep _ _ _ ah λb _ o e=>old b o e) (Y _ rfl))
def Hy{C:Cx->Prop}{d:TI}{g:TG}{e:Addr->Ń->Hp->List Addr->TT}{te:Addr->Ń->Hp->List Addr->TE}(T:C0)(idx:Db)
  (hi:Xj C X tg iter d) (hCx: ∀c s₂ b fp pins σ,Inv X pins σ b s₂->C (zN X sc T idx c s₂ b fp)) (hB:sD X.env.scope X.N sc idx=true)
  (hg: ∀C s₂ H1 fp,PG (zN X sc T idx C s₂ H1 fp) tg g)
  (hc: ∀C s₂ H1 fp,YD (zN X sc T idx C s₂ H1 fp) ifs (e C s₂ H1 fp))
  (he: ∀C s₂ H1 fp,PE (zN X sc T idx C s₂ H1 fp) elt (te C s₂ H1 fp))
  (hs: ∀x,foldedSetIterable iter X.env x=pure x:=by intro _;rfl):
  PE X (.ListComp elt [⟨tg,iter,ifs,0⟩] sc pos) (Be d g e te T.length idx):=by
 intro pins s σ H Q I h;exact OH T idx hi hCx hB hg hc he hs I h λD C j H' r J _ ⟨m,i⟩ q=>⟨m,i,λh' a=>⟨.ref D,H',J h' a,rfl,q⟩⟩
end
noncomputable def cH(x:Db):Str:=⟨x.toArray⟩
def dE(x:Db):(cH x).length=x.length:=by simp[cH,Str.length]
def Hz(x:Db):(cH x).cps.toList=x:=by simp[cH]
def uA{x y:Db}(h:cH x=cH y):x=y:=by have:=congrArg (λs=>s.cps.toList) h;simpa [cH]using this
def Ia(x y:Db):cH x++cH y=cH (x++y):=by show Str.append _ _=_;simp[Str.append,cH]
theorem Ib(c:Nat):(⟨#[c]⟩:Str)=cH [c]:=rfl
def cE{α:Type}(xs:List α)(lo hi:J7):List α:=(xs.drop (HT.sIx xs.length 0 lo)).take (HT.sIx xs.length xs.length hi - HT.sIx xs.length 0 lo)
theorem strIdx(lo hi:J7)(n:Nat):Builtin.Str.strSliceIndices lo hi 1 n=(List.range (HT.sIx n n hi - HT.sIx n 0 lo)).map (HT.sIx n 0 lo+·):=by
 have b:(match lo with |none=>(if(1:Int)>0 then(0:Int)else(n:Int) - 1)|some i=>if(1:Int)>0 then max 0 (min (if i<0 then i+(n:Int)else i) (n:Int))else max (-1) (min (if i<0 then i+(n:Int)else i) ((n:Int) - 1)))=((HT.sIx n 0 lo:Nat):Int):=by
  cases lo with
  |none=>simp[HT.sIx]
  |some i=>
   simp only[HT.sIx,show(1:Int)>0 by decide,if_true];by_cases h:i<0
   .simp only[h,if_true];lia
   .simp only[h,iF];lia
 have a:(match hi with |none=>(if(1:Int)>0 then(n:Int)else -1)|some i=>if(1:Int)>0 then max 0 (min (if i<0 then i+(n:Int)else i) (n:Int))else max (-1) (min (if i<0 then i+(n:Int)else i) ((n:Int) - 1)))=((HT.sIx n n hi:Nat):Int):=by
  cases hi with
  |none=>simp[HT.sIx]
  |some i=>
   simp only[HT.sIx,show(1:Int)>0 by decide,if_true];by_cases h:i<0
   .simp only[h,if_true];lia
   .simp only[h,iF];lia
 rw[<-sliceRange_one];unfold Builtin.Str.strSliceIndices;rw[<-b, <-a];cases lo<;>cases hi<;>rfl
theorem YF(x:Db)(lo hi:J7):Txt.slice (cH x) lo hi=cH (cE x lo hi):=by
 unfold Txt.slice;rw[strIdx,dE];have c:=by have:=pick_run (cH x).cps (HT.sIx x.length 0 lo) (HT.sIx x.length x.length hi - HT.sIx x.length 0 lo);exact this
 rw[c];split
 .rename_i a;rw[aE]at a;have b:=by simpa using a.2
  have d:HT.sIx x.length x.length hi<=x.length:=HT.sIx_le _ _ (à _) _;have h:HT.sIx x.length 0 lo<=x.length:=HT.sIx_le _ _ (zero_le _) _;have e:HT.sIx x.length 0 lo=0:=by lia
  unfold cE;rw[b,e];simp
 .rfl
section
variable{X:Cx}
def rSlS:V->Option Int->Option Int->Hp->VK->Prop:=λx lo hi H Q=> ∃a,x=.str (cH a)/\a.length<=sizeLine/\Q (.str (cH (cE a lo hi))) H
def Qo:SlR X rSlS:=by
 intro pins s σ H x v r w lo hi sl Q I e hs m d h;obtain⟨n,rfl,p,q⟩:=h;obtain⟨t,rfl⟩:=e;have c:(Txt.slice (cH n) lo hi).length<=sizeLine:=ø (Txt.slice_le _ _ _) (by rw[dE];exact p);rw[<-YF]at q;refine⟨"str",_,slot_str_getitem.lookup,typeIs_str _ _ _,?_⟩;obtain⟨o,a,b,hd⟩:=hs
 cases m with
 |none=>
  cases d with
  |none=>exact ľ (l:=none) (u:=none) (st:=none) ⟨o,a,b,hd⟩ rfl (post_val_or_str ⟨c,λt' k=>⟨.str _,H,I.tok _,⟨_,rfl⟩,q⟩⟩)
  |int j uj=>exact ľ (l:=none) (u:=some (j,uj)) (st:=none) ⟨o,a,b,hd⟩ rfl (post_val_or_str ⟨c,λt' k=>⟨.str _,H,I.tok _,⟨_,rfl⟩,q⟩⟩)
 |int i ui=>
  cases d with
  |none=>exact ľ (l:=some (i,ui)) (u:=none) (st:=none) ⟨o,a,b,hd⟩ rfl (post_val_or_str ⟨c,λt' k=>⟨.str _,H,I.tok _,⟨_,rfl⟩,q⟩⟩)
  |int j uj=>exact ľ (l:=some (i,ui)) (u:=some (j,uj)) (st:=none) ⟨o,a,b,hd⟩ rfl (post_val_or_str ⟨c,λt' k=>⟨.str _,H,I.tok _,⟨_,rfl⟩,q⟩⟩)
noncomputable def HB(cs:Db)(k:Int):List Nat:=(List.replicate k.toNat cs).flatten
theorem vV(cs:Db): ∀(k:Nat)(a:Db),List.foldl (λc b=>c++b) a.toArray (List.replicate k cs.toArray)=(a++(List.replicate k cs).flatten).toArray
 |0,a=>by simp
 |k+1,a=>by rw[Ĭ,Ĭ,flatten_cons, <-aA, <-vV cs k _];simp
theorem RY:OpR X (binaryOp .Mult) (λx y H Q=> ∃a k,x=.str (cH a)/\y=.int k/\0<=k/\k<1000/\a.length<=1000/\Q (.str (cH (HB a k))) H):=by
 intro pins s σ H x y v u Q I r A h;obtain⟨a,k,rfl,rfl,E,h1,B,q⟩:=h;obtain⟨t,rfl⟩:=r;obtain⟨t',rfl⟩:=A;have hs:=ė;have m:a.length * k.toNat<=1000 * 1000:=mul_le_mul B #[0];have e: ∀b,Q (.str b) H->b=cH (HB a k)->True:=λ_ _ _=>trivial;refine PySem.P.mul_str (by rw[dF0 #[0],dF0 #[0]];rfl) (λF _=>?_) (λ_ _=>?_) ?_
 .rw[dE];have o:1<=k:=by lia
  have:(1000:Int)<=(2 ^ 63 - 1) / k:=by
   rw[Int.le_ediv_iff_mul_le #[0]]
   lia
  lia
 .rw[dE];unfold PySem.Builtin.Str.tooLong;exact dF0 #[0]
 .have d: ∀(z:Str),z=cH _->z.length<=sizeLine->(Made.str z).post (EP X pins σ Q) s:=λz D C=>⟨C,by rw[D];exact⟨.str _,H,I.tok _,⟨_,rfl⟩,q⟩⟩
  have i:(HB a k).length=k.toNat * a.length:=by unfold HB;rw[len_rep]
  by_cases p:k<1
  .rw[iP p];have o:k.toNat=0:=by lia
   refine d _ ?_ (by decide);unfold HB;rw[o];rfl
  .rw[iN p];by_cases c:(k==1 || (cH a).length==0)=true
   .rw[iP c];refine⟨.str _,H,I,⟨_,rfl⟩,?_⟩
    have:HB a k=a:=by
     unfold HB;rw[Bool.or_eq_true]at c;rcases c with c|c
     .have:k=1:=by simpa using c
      subst this;simp
     .rw[dE]at c;have:a=[]:=by cases a with |nil=>rfl|cons _ _=>simp at c
      subst this;simp
    rw[this]at q;exact q
   .rw[iN c];refine d _ ?_ ?_
    .unfold HB cH;have:=vV a k.toNat [];rw[İ]at this;exact congrArg Str.mk this
    .have w:(List.foldl (λn j=>n++j) #[] (List.replicate k.toNat (cH a).cps))=(HB a k).toArray:=by have:=vV a k.toNat [];rw[İ]at this;exact this
     show(List.foldl (λn j=>n++j) #[] _).size<=sizeLine;rw[w,sA0,i,Nat.mul_comm]
     lia
def Yd(x:Db):It:=⟨λi _=>i<x.length,λi H v H'=>H'=H/\ ∃c,x[i]? =some c/\v=.str (cH [c]),λi _=>x.length<=i⟩
def iStr(tl:TE):TI:=λσ H R=>tl σ H λv H1=> ∃x,v=.str (cH x)/\R (Yd x) H1
def OI{P:ņ}{w:World}{K:J9}(it:Addr)(ty:String)(x:Db)(t:Tok)(hty:ty="str_ascii_iterator"\/ty="str_iterator"):
  Turn P w K tg (Yd x) [it] it (λi h=>h.IsStrIter it ty (cH x) t i) where
 mem:=by simp
 obj:=λi h st b hb=>by
  have e:b=it:=by simpa using hb
  subst e;obtain⟨o,e,c,d⟩:=st;exact⟨o,e,λv z=>by rw[d]at z;cases z⟩
 keep:=λi h h' st k=>let ⟨o,ho,r⟩:=st;⟨o,k it (by simp) o ho,r⟩
 item:=by
  intro X hP hw hK hc i pins s σ H E I hf st hg;subst hP hw hK;obtain⟨f0,f1,f2,f3,f4,f5⟩:=hf it (by simp);have hi:i<x.length:=hg;have hxi:(cH x).cps[i]? =some x[i]:=by simp[cH,hi]
  have fin: ∀(h':Heap),h'.IsStrIter it ty (cH x) t (i+1)->Heap.SameBut it s.heap h'-> ∃u,some (Value.str ⟨#[x[i]]⟩ s.toks)=some u/\
    wpAny (model X.prog X.w) X.A (letOwnedTupleGo tg (.ref it) u) (λ_ s2=> ∃y H',Inv X pins σ H' s2/\RelV y u/\(Yd x).yld i H y H'/\s2.heap.IsStrIter it ty (cH x) t (i+1)/\ ∀b∈[it],H' b=none) E {s with heap:=h',toks:=s.toks+1}:=λh' st' sb=>by
   have I1:Inv X pins σ H {s with heap:=h',toks:=s.toks+1}:=I.turned (λb o hb e=>(sb.2 b hb).trans e) f0 f1 f3 f4 f5;obtain⟨o,e,c,d⟩:=id st';refine⟨_,rfl,UM (s:={s with heap:=h',toks:=s.toks+1}) e c d (by rcases hty with rfl|rfl<;>decide) ⟨.str (cH [x[i]]),H,I1,⟨_,rfl⟩,⟨rfl,x[i],by simp[hi],rfl⟩,st',λb hb=>(hf b hb).1⟩⟩
  rcases hty with rfl|rfl
  .exact wpAny_pyNext_ascii_item st hxi λh' st' sb=>fin h' st' sb
  .exact wpAny_pyNext_wide_item st hxi λh' st' sb=>fin h' st' sb
 done:=by
  intro X hP hw hK hc i pins s σ H E I hf st hg;subst hP hw hK;obtain⟨f0,f1,f2,f3,f4,f5⟩:=hf it (by simp);have hi:x.length<=i:=hg;have hxi:(cH x).cps[i]? =none:=by simp[cH,hi]
  rcases hty with rfl|rfl
  .exact wpAny_pyNext_ascii_end (I.ok.hd hc) st hxi λh' eb=>⟨rfl,I.turned (t':=s.toks) (λb o hb e=>eb b o hb e) f0 f1 f3 f4 f5⟩
  .exact wpAny_pyNext_wide_end (I.ok.hd hc) st hxi λh' eb=>⟨rfl,I.turned (t':=s.toks) (λb o hb e=>eb b o hb e) f0 f1 f3 f4 f5⟩
 self:=λ_ _ _ _ _ st h=>by
  rcases hty with rfl|rfl
  .exact wpAny_pyIter_striter_ascii st h
  .exact wpAny_pyIter_striter_wide st h
def Qp{l:Expr}{tl:TE}(m:PE X l tl):PI X tg l (iStr tl):=by
 intro pins s σ H R I h;refine kY (m pins s σ H _ I h) λv a ⟨x,H1,I1,j,k⟩=>?_;obtain⟨c,e,q⟩:=k;subst e;obtain⟨t,rfl⟩:=j
 have fp: ∀(o:Obj), ∀b∈[a.heap.objs.size],oN X pins H1 b:=λo b i=>by
  have e:b=a.heap.objs.size:=by simpa using i
  subst e;exact I1.fpOk (à _) (I1.hok.fresh (à _))
 cases d:(cH c).cps.all (· <128)
 .refine wpAny_pyIter_wide d ?_;exact⟨a.heap.objs.size,[a.heap.objs.size],_,_,H1,rfl,I1.kept (t':=a.toks) λb o e=>hP0 _ e,OI _ "str_iterator" c t (.inr rfl),⟨_,ã _ rfl,rfl,rfl⟩,fp default,q⟩
 .refine wpAny_pyIter_ascii d ?_;exact⟨a.heap.objs.size,[a.heap.objs.size],_,_,H1,rfl,I1.kept (t':=a.toks) λb o e=>hP0 _ e,OI _ "str_ascii_iterator" c t (.inl rfl),⟨_,ã _ rfl,rfl,rfl⟩,fp default,q⟩
end
section
variable{X:Cx}
def PU(X:Cx)(e:Expr)(t:TE):Prop:= ∀(i:Nat)(x:Str)(a pos:Pos),X.N.Nodup->X.N[i]? =some x->Loc X.env.scope x->(X.fn x=true\/X.env.scope.names.lookup x=some .local)->
 swapsWith e (some (.Name x a)) pos.line X.env=pure true->PS X (.Assign [.Name x a] e pos) (Pn t (Ao i))
def Ic{C:Cx->Prop}{A:TI}{g:TG}{z:Addr->Ń->Hp->List Addr->TT}{te:Addr->Ń->Hp->List Addr->TE}(T:C0)(idx:Db)
  (hi:Xj C X tg iter A) (hCx: ∀c s₂ w fp pins σ,Inv X pins σ w s₂->C (zN X sc T idx c s₂ w fp)) (hB:sD X.env.scope X.N sc idx=true)
  (hg: ∀C s₂ H1 fp,PG (zN X sc T idx C s₂ H1 fp) tg g)
  (hc: ∀C s₂ H1 fp,YD (zN X sc T idx C s₂ H1 fp) ifs (z C s₂ H1 fp))
  (he: ∀C s₂ H1 fp,PE (zN X sc T idx C s₂ H1 fp) elt (te C s₂ H1 fp))
  (hs: ∀x,foldedSetIterable iter X.env x=pure x:=by intro _;rfl):
  PU X (.ListComp elt [⟨tg,iter,ifs,0⟩] sc pos) (Be A g z te T.length idx):=by
 intro i x B y L v Q J p pins s σ H D I h;rw[exec_Assign_Name_used _ _ _ _ p];refine wB (wpAny_standAt (wB ?_));refine wB (kY (OH T idx hi hCx hB hg hc he hs I h λM C P H' _ O d r q=>?_) λ_ s' G=>wP (wP G));have K:=O P.heap (Heap.SameBut.refl _ _);refine wpAny_assign_Name (HY K L v Q (show RelV (.ref M) _ from rfl) (λs' F ⟨a,u,j⟩=>?_) J);obtain⟨m,r⟩:=r
 have n:C≠a:=by
  rintro rfl;rcases j with j|j
  .exact d.2.1 j
  .exact d.2.2.2.2.1 x _ j rfl
 refine⟨m,r.sameBut u n,λh' k=>⟨_,H',?_,q⟩⟩;exact F.turned (λb o E e=>(k.2 b E).trans e) d.1 d.2.1 d.2.2.2.1 d.2.2.2.2.1 d.2.2.2.2.2
end
end L2
namespace L2
namespace M
open PySem PySem.Spec PyProof.Rows
variable{v:ń}
def Bi{A:Ņ}{s:Ń}{y x:V}{u:ń}(d:RelV y u)(c:RelV x v)(h:mV y=true)(e:mV x=true):SeqAt.RcAt A s u v (Hu y x)/\SeqAt.RcNeAt A s u v (!Hu y x):=by
 cases y with
 |non=>
  cases d
  cases x with
  |non=>cases c;exact⟨.none_none,.none_none⟩
  |bl b=>cases c;exact⟨.none_bool b,.none_bool b⟩
  |int b=>obtain⟨t,rfl⟩:=c;exact⟨.none_int b t,.none_int b t⟩
  |str b=>obtain⟨t,rfl⟩:=c;exact⟨.none_str b t,.none_str b t⟩
  |_=>cases e
 |bl a=>
  cases d
  cases x with
  |non=>cases c;exact⟨.bool_none a,.bool_none a⟩
  |bl b=>cases c;exact⟨.bool_bool a b,.bool_bool a b⟩
  |int b=>obtain⟨t,rfl⟩:=c;exact⟨.bool_int a b t,.bool_int a b t⟩
  |str b=>obtain⟨t,rfl⟩:=c;exact⟨.bool_str a b t,.bool_str a b t⟩
  |_=>cases e
 |int a=>
  obtain⟨t',rfl⟩:=d
  cases x with
  |non=>cases c;exact⟨.int_none a t',.int_none a t'⟩
  |bl b=>cases c;exact⟨.int_bool a t' b,.int_bool a t' b⟩
  |int b=>obtain⟨t,rfl⟩:=c;exact⟨.int_int a t' b t,.int_int a t' b t⟩
  |str b=>obtain⟨t,rfl⟩:=c;exact⟨.int_str a t' b t,.int_str a t' b t⟩
  |_=>cases e
 |str a=>
  obtain⟨t',rfl⟩:=d
  cases x with
  |non=>cases c;exact⟨.str_none a t',.str_none a t'⟩
  |bl b=>cases c;exact⟨.str_bool a t' b,.str_bool a t' b⟩
  |int b=>obtain⟨t,rfl⟩:=c;exact⟨.str_int a t' b t,.str_int a t' b t⟩
  |str b=>obtain⟨t,rfl⟩:=c;exact⟨.str_str a t' b t,.str_str a t' b t⟩
  |_=>cases e
 |_=>cases h
abbrev Six(A:Around)(s:Shared)(u v:Value):Prop:=SeqAt.EqAt A s u v false/\SeqAt.EqAt A s v u false/\SeqAt.RcAt A s u v false/\SeqAt.RcAt A s v u false/\SeqAt.RcNeAt A s u v true/\SeqAt.RcNeAt A s v u true
def IL{A:Ņ}{s:Ń}{x:V}{l:Addr}{items:B0}(d:RelV x v)(e:mV x=true)(a:s.heap.IsList l items)(c:A.units<cLine):Six A s (.ref l) v:=by
 cases x with
 |non=>cases d;exact⟨.list_none a c,.none_list a c,.list_none a c,.none_list a c,.list_none a c,.none_list a c⟩
 |bl b=>cases d;exact⟨.list_bool b a c,.bool_list b a c,.list_bool b a c,.bool_list b a c,.list_bool b a c,.bool_list b a c⟩
 |int b=>obtain⟨t,rfl⟩:=d;exact⟨.list_int b t a c,.int_list b t a c,.list_int b t a c,.int_list b t a c,.list_int b t a c,.int_list b t a c⟩
 |str b=>obtain⟨t,rfl⟩:=d;exact⟨.list_str b t a c,.str_list b t a c,.list_str b t a c,.str_list b t a c,.list_str b t a c,.str_list b t a c⟩
 |_=>cases e
def BK{A:Ņ}{s:Ń}{x:V}{l:Addr}{items:B0}(d:RelV x v)(e:mV x=true)(a:s.heap.IsTuple l items)(c:A.units<cLine):Six A s (.ref l) v:=by
 cases x with
 |non=>cases d;exact⟨.tuple_none a c,.none_tuple a c,.tuple_none a c,.none_tuple a c,.tuple_none a c,.none_tuple a c⟩
 |bl b=>cases d;exact⟨.tuple_bool b a c,.bool_tuple b a c,.tuple_bool b a c,.bool_tuple b a c,.tuple_bool b a c,.bool_tuple b a c⟩
 |int b=>obtain⟨t,rfl⟩:=d;exact⟨.tuple_int b t a c,.int_tuple b t a c,.tuple_int b t a c,.int_tuple b t a c,.tuple_int b t a c,.int_tuple b t a c⟩
 |str b=>obtain⟨t,rfl⟩:=d;exact⟨.tuple_str b t a c,.str_tuple b t a c,.tuple_str b t a c,.str_tuple b t a c,.tuple_str b t a c,.str_tuple b t a c⟩
 |_=>cases e
def Bj{y:V}(h:mV y=true):Hu y y=true:=by cases y<;>first |rfl|(simp[Hu];done)|exact absurd h xF0
abbrev K3:=Option Key
inductive NK where
 |key (k:K3)|tup (ks:List NK)
instance:DecidableEq NK:=λ_ _=>Classical.propDecidable _
section
variable{prog:ņ}{w:World}(knd:KeyKind prog w K3)
mutual
def HC(h:Heap):NK->ń->Prop
 |.key k,v=>knd.is k v=true
 |.tup ks,v=> ∃a o b n,v=.ref a/\h.get? a=some o/\o.cls=.type "tuple"/\o.data=.seq b n/\qH h ks b.toList
def qH(h:Heap):List NK->List ń->Prop
 |[],vs=>vs=[]
 |k::ks,vs=> ∃v r,vs=v::r/\HC h k v/\qH h ks r
end
mutual
def uB:NK->Int
 |.key k=>knd.hash k
 |.tup ks=>reduceHash (Builtin.Tuple.tupleHashOf (ED ks))
def ED:List NK->List Int
 |[]=>[]
 |k::ks=>uB k::ED ks
end
mutual
def EE:NK->Nat
 |.key _=>1
 |.tup ks=>cI ks+1
def cI:List NK->Nat
 |[]=>0
 |k::ks=>EE k+cI ks
end
mutual
def lV:NK->Nat
 |.key _=>0
 |.tup ks=>sE ks+1
def sE:List NK->Nat
 |[]=>0
 |k::ks=>max (lV k) (sE ks)
end
variable{knd}
theorem xS{h:Heap}{k:K3}:HC knd h (.key k) v↔knd.is k v=true:=by unfold HC;exact Iff.rfl
def xI{h:Heap}{ks:List NK}:HC knd h (.tup ks) v↔ ∃a o b n,v=.ref a/\h.get? a=some o/\o.cls=.type "tuple"/\o.data=.seq b n/\qH knd h ks b.toList:=by
 conv=>lhs;unfold HC
theorem wD{h:Heap}{vs:A0}:qH knd h [] vs↔vs=[]:=by unfold qH;exact Iff.rfl
def yI{h:Heap}{k:NK}{ks:List NK}{vs:A0}:qH knd h (k::ks) vs↔ ∃v r,vs=v::r/\HC knd h k v/\qH knd h ks r:=by
 conv=>lhs;unfold qH
mutual
theorem KM{h:Heap}: ∀{x y:NK}{v:ń},HC knd h x v->HC knd h y v->x=y
 |.key k,.key k',v,hx,hy=>by rw[knd.inj v k k' (xS.mp hx) (xS.mp hy)]
 |.key k,.tup ks,v,hx,hy=>by obtain⟨a,o,b,n,rfl,_⟩:=xI.mp hy;have:=knd.byValue _ _ (xS.mp hx);simp[carriedByValue]at this
 |.tup ks,.key k,v,hx,hy=>by obtain⟨a,o,b,n,rfl,_⟩:=xI.mp hx;have:=knd.byValue _ _ (xS.mp hy);simp[carriedByValue]at this
 |.tup ks,.tup ks',v,hx,hy=>by
  obtain⟨a,o,b,n,e,p,_,hd,hi⟩:=xI.mp hx;obtain⟨r,o',d,q,m,j,_,c,i⟩:=xI.mp hy;rw[e]at m;cases m;obtain rfl:o=o':=ä (p.symm.trans j);rw[hd]at c;injection c with h1 _
  subst h1;rw[OJ hi i]
theorem OJ{h:Heap}: ∀{xs ys:List NK}{vs:A0},qH knd h xs vs->qH knd h ys vs->xs=ys
 |[],[],_,_,_=>rfl
 |[],y::ys,vs,hx,hy=>by obtain⟨v,r,e,_⟩:=yI.mp hy;rw[wD.mp hx]at e;cases e
 |x::xs,[],vs,hx,hy=>by obtain⟨v,r,e,_⟩:=yI.mp hx;rw[wD.mp hy]at e;cases e
 |x::xs,y::ys,vs,hx,hy=>by obtain⟨v,r,e,h1,d⟩:=yI.mp hx;obtain⟨j,i,c,a,b⟩:=yI.mp hy;rw[e]at c;cases c;rw[KM h1 a,OJ d b]
end
mutual
theorem EF{h h':Heap}(m: ∀a o b n,h.get? a=some o->o.data=.seq b n->h'.get? a=some o): ∀{x:NK}{v:ń},HC knd h x v->HC knd h' x v
 |.key k,v,hx=>xS.mpr (xS.mp hx)
 |.tup ks,v,hx=>by obtain⟨a,o,b,n,e,c,d,hd,hi⟩:=xI.mp hx;exact xI.mpr ⟨a,o,b,n,e,m a o b n c hd,d,hd,IM m hi⟩
theorem IM{h h':Heap}(m: ∀a o b n,h.get? a=some o->o.data=.seq b n->h'.get? a=some o): ∀{xs:List NK}{vs:A0},qH knd h xs vs->qH knd h' xs vs
 |[],vs,hx=>wD.mpr (wD.mp hx)
 |x::xs,vs,hx=>by obtain⟨v,r,e,h1,c⟩:=yI.mp hx;exact yI.mpr ⟨v,r,e,EF m h1,IM m c⟩
end
theorem EG: ∀a:List NK,ED knd a=a.map (uB knd)
 |[]=>by unfold ED;rfl
 |k::a=>by unfold ED;rw[EG a];rfl
def tD:cI []=0:=by rw[cI]
def qI(k:NK)(ks:List NK):cI (k::ks)=EE k+cI ks:=by rw[cI]
def tE(k:NK)(ks:List NK):sE (k::ks)=max (lV k) (sE ks):=by rw[sE]
def eZ(ks:List NK):lV (.tup ks)=sE ks+1:=by rw[lV]
theorem sF: ∀(xs ys:List NK),cI (xs++ys)=cI xs+cI ys
 |[],ys=>by rw[tD,İ,ă]
 |x::xs,ys=>by rw[Ğ,qI,qI,sF xs ys];lia
def uC{s:Ń}{ks:List NK}{a:Addr}(h:HC knd s.heap (.tup ks) (.ref a)):s.TypeIs (.ref a) "tuple":=by obtain⟨d,o,_,n,e,b,c,_⟩:=xI.mp h;cases e;exact⟨o,b,c⟩
theorem OK: ∀(n:Nat){A:Ņ}{E:VP}{s:Ń}{k:NK}{v:ń}{Q:Int->Ń->Prop},lV k<=n->A.units+n<cLine->HC knd s.heap k v->Q (uB knd k) {s with toks:=s.toks+EE k}->wpAny (model prog w) A (pyHash v) Q E s
 |n,A,E,s,.key k,v,Q,_,_,d,h=>knd.pyHash (xS.mp d) (by rw[uB,EE]at h;exact h)
 |0,A,E,s,.tup c,v,Q,hd,_,_,_=>by rw[eZ]at hd;lia
 |n+1,A,E,s,.tup c,v,Q,hdep,hu,d,h=>by
  obtain⟨a,o,_,m,rfl,z,C,hd,hi⟩:=xI.mp d;have p:s.TypeIs (.ref a) "tuple":=⟨o,z,C⟩
  rw[eZ]at hdep
  have u: ∀k∈c,lV k<=n:=by
   have: ∀c:List NK,sE c<=n-> ∀k∈c,lV k<=n:=by
    intro c
    induction c with
    |nil=>intro _ k d;simp at d
    |cons x xs ih=>
     intro D k d;rw[tE]at D;rcases mC.mp d with rfl|d
     .lia
     .exact ih #[0] k d
   exact this c #[0]
  rw[uB,EE,EG]at h;unfold pyHash
  first |unfold pyHashByItsType|skip
  first |refine wB (wpAny_cRoomFor_or (.inr #[0]) ?_)|skip
  refine wB (wpAny_specialOf p F.slot_tuple_hash.lookup ?_);show wpAny _ _ _ Q E s;rw[iN (by rw[beq_builtin_none];exact xF0)];refine wB (wpAny_specialOf p F.slot_tuple_hash.lookup ?_);show wpAny _ _ _ Q E s;refine wB (wpAny_callSpecialIfBoundUnlessNone?_slot p F.slot_tuple_hash (ì F.slot_tuple_hash p F.entry_tuple_hash ?_ (F.args_tuple_hash_1 _)));show wpAny _ _ (Builtin.Tuple.tupleItemsOf (.ref a) >>= _) _ _ s;refine wB (wpAny_tupleItemsOf z hd ?_);refine wB ?_;rw[<-Array.forIn_toList]
  refine wpAny_forIn_list _
   (λrest (b:Array Int) s'=> ∃done left,c=done++left/\qH knd s.heap left rest/\b.toList=done.map (uB knd)/\s'={s with toks:=s.toks+cI done})
   _ ?_ ?_ _ _ ⟨[],c,rfl,hi,rfl,by rw[tD];rfl⟩
  .rintro x rest b s' ⟨done,left,rfl,i,q,rfl⟩
   cases left with
   |nil=>rw[wD]at i;cases i
   |cons k ks'=>
    obtain⟨v,r,e,h1,y⟩:=yI.mp i;cases e;refine wB (OK n (u k (by simp)) (show A.units+1+n<cLine by lia) h1 ?_);have B:cI (done++[k])=cI done+EE k:=by rw[sF,qI,tD];rfl
    first
     |exact wP ⟨done++[k],ks',by simp,y,by simp[q],by simp[add_assoc,B]⟩
     |exact wB _
  .rintro b s' ⟨done,left,rfl,i,q,rfl⟩
   cases left with
   |cons k ks'=>obtain⟨v,r,e,_⟩:=yI.mp i;cases e
   |nil=>
    rw[aN]at h;show wpAny _ _ (retInt _) _ _ _;rw[q];refine wpAny_ret_mkInt ?_;show wpAny _ _ (if _=true then _ else _) Q E _;unfold reduceHash at h;by_cases j:(decide (-(2:Int) ^ 63<=Builtin.Tuple.tupleHashOf (done.map (uB knd)))&&decide (Builtin.Tuple.tupleHashOf (done.map (uB knd))<2 ^ 63))=true
    .rw[iP j];rw[iP j]at h;exact wP (by simpa [add_assoc]using h)
    .rw[iN j];rw[iN j]at h;exact wB (Ę (wP (by simpa [add_assoc]using h)))
end
section
variable{prog:ņ}{w:World}
def YG{A:Ņ}{E:VP}{s:Ń}{Q:Int->Ń->Prop}(h:Q 0xFCA86420 {s with toks:=s.toks+1}):wpAny (model prog w) A (pyHash .none) Q E s:=by
 have a:[Value.none].any Value.onHeap=false:=rfl;refine wB ?_;rw[cRoomFor];refine wP ?_;refine wB (wpAny_specialOf (typeIs_none s) F.slot_NoneType_hash.lookup ?_);show wpAny _ _ _ Q E s;refine wB (wpAny_specialOf (typeIs_none s) F.slot_NoneType_hash.lookup ?_);show wpAny _ _ _ Q E s
 refine wB (wpAny_callSpecialIfBoundUnlessNone?_slot (typeIs_none s) F.slot_NoneType_hash
  (ì F.slot_NoneType_hash (typeIs_none s) F.entry_NoneType_hash
   (wpAny_ret_mkInt ?_) (F.args_NoneType_hash_1 _)))
 show wpAny _ _ (if _=true then _ else _) Q E _;exact wP h
def Ye:K3->ń->Bool
 |some k,v=>mU k v
 |none,v=>v==.none
def mW: ∀{k:K3}{v:ń},Ye k v=true->(∃i t,k=some (.inl i)/\v=Value.int i t)\/(∃x t,k=some (.inr x)/\v=Value.str x t)\/(k=none/\v=.none)
 |some k,v,h=>by
  rcases yC h with⟨i,t,rfl,e⟩|⟨x,t,rfl,e⟩
  .exact .inl ⟨i,t,rfl,e⟩
  .exact .inr (.inl ⟨x,t,rfl,e⟩)
 |none,v,h=>.inr (.inr ⟨rfl,eq_of_beq h⟩)
def mk(prog:ņ)(w:World):KeyKind prog w K3 where
 is:=Ye
 hash:=λ|some k=>Wy w k|none=>0xFCA86420
 inj:=λv a b ha hb=>by rcases mW ha with⟨i,t,rfl,rfl⟩|⟨x,t,rfl,rfl⟩|⟨rfl,rfl⟩<;>rcases mW hb with⟨j,u,rfl,e⟩|⟨y,u,rfl,e⟩|⟨rfl,e⟩<;>first |(injection e with e1 _;rw[e1];done)|rfl|exact nomatch e
 byValue:=λk v h=>by rcases mW h with⟨i,t,rfl,rfl⟩|⟨x,t,rfl,rfl⟩|⟨rfl,rfl⟩<;>rfl
 pyHash:=λhv h=>by
  rcases mW hv with⟨i,t,rfl,rfl⟩|⟨x,t,rfl,rfl⟩|⟨rfl,rfl⟩
  .exact wpAny_pyHash_int h
  .exact wpAny_pyHash_str h
  .exact YG h
 eqBool:=λ{A} {E} {s} {a} {b} {u} {v} {Q} hu hv h=>by
  cases a with
  |some a=>
   cases b with
   |some b=>exact(kZ prog w).eqBool hu hv (by rw[show decide (some a=some b)=decide (a=b)from by simp]at h;exact h)
   |none=>
    cases eq_of_beq hv;rw[show decide (some a=none)=false from dF0 λz=>nomatch z]at h;rcases yC (show mU a u=true from hu)with⟨i,t,rfl,rfl⟩|⟨x,t,rfl,rfl⟩
    .exact SeqAt.EqAt.int_none i t _ _ _ _ h
    .exact SeqAt.EqAt.str_none x t _ _ _ _ h
  |none=>
   cases eq_of_beq hu
   cases b with
   |some b=>
    rw[show decide (none=some b)=false from dF0 λz=>nomatch z]at h;rcases yC (show mU b v=true from hv)with⟨i,t,rfl,rfl⟩|⟨x,t,rfl,rfl⟩
    .exact SeqAt.EqAt.none_int i t _ _ _ _ h
    .exact SeqAt.EqAt.none_str x t _ _ _ _ h
   |none=>
    cases eq_of_beq hv;rw[show decide ((none:K3)=none)=true from dT0 rfl]at h;exact SeqAt.EqAt.same _ _ _ _ _ h
 «strs»:=λk x t v h=>by
  rcases mW h with⟨i,u,rfl,e⟩|⟨y,u,rfl,e⟩|⟨rfl,e⟩
  .exact nomatch e
  .injection e with e1 _
   subst e1;cases v<;>rfl
  .exact nomatch e
def Id(a b:K3):decide (NK.key a=NK.key b)=decide (a=b):=by
 by_cases h:a=b
 .subst h;simp
 .rw[dF0 h,dF0 λz=>h (NK.key.inj z)]
def Qq(a:K3)(b:List NK):decide (NK.key a=NK.tup b)=false:=dF0 λz=>nomatch z
def Qr(a:K3)(b:List NK):decide (NK.tup b=NK.key a)=false:=dF0 λz=>nomatch z
def Qt(a b:List NK):decide (NK.tup a=NK.tup b)=decide (a=b):=by
 by_cases h:a=b
 .subst h;simp
 .rw[dF0 h,dF0 λz=>h (NK.tup.inj z)]
def OL{k:K3}(h:(mk prog w).is k v=true): ∃x:V,RelV x v/\mV x=true:=by
 rcases mW h with⟨i,t,rfl,rfl⟩|⟨x,t,rfl,rfl⟩|⟨rfl,rfl⟩
 .exact⟨.int i,⟨t,rfl⟩,rfl⟩
 .exact⟨.str x,⟨t,rfl⟩,rfl⟩
 .exact⟨.non,rfl,rfl⟩
def YH{A:Ņ}{E:VP}{s:Ń}{x y:List NK}{a b:Addr}{P:Fin->Ń->Prop}
  (he: ∀k1∈x, ∀k2 u v (Q:Bool->Ń->Prop),HC (mk prog w) s.heap k1 u->HC (mk prog w) s.heap k2 v->Q (decide (k1=k2)) s->wpAny (model prog w) A (eqBool u v) Q E s)
  (hx:HC (mk prog w) s.heap (.tup x) (.ref a)) (hy:HC (mk prog w) s.heap (.tup y) (.ref b)) (h:P (.done (.ret (.bool (decide (x=y))))) s):
  wpAny (model prog w) A (Builtin.«tuple.__eq__» ⟨[.ref a,.ref b],[]⟩) P E s:=by
 have S:=uC hy;obtain⟨_,oa,xs,na,e,U,_,M,O⟩:=xI.mp hx;cases e;obtain⟨_,Z,ys,nb,e,J,_,L,I⟩:=xI.mp hy;cases e;show wpAny _ _ (isInstance _ _ >>= _) _ _ s;refine wB (ğ S isSubtype_tuple_tuple ?_);simp only[Bool.not_true,fT,iF];refine wB (wpAny_tupleItemsOf U M ?_);refine wB (wpAny_tupleItemsOf J L ?_);refine wB ?_
 refine wpAny_forIn_list _
  (λrest r s'=>r.1=none/\s'=s/\ ∃C F n o,rest=List.zip n o/\(∀k∈C,k∈x)/\qH _ s.heap C n/\qH _ s.heap F o/\decide (C=F)=decide _/\(n.length==o.length)=(xs.size==ys.size))
  _ ?_ ?_ _ _ ⟨rfl,rfl,x,y,_,_,rfl,λk D=>D,O,I,rfl,by simp⟩
 .rintro⟨u,v⟩ rest r s' ⟨K,rfl,C,F,n,o,z,N,p,c,d,j⟩
  cases C with
  |nil=>rw[wD.mp p]at z;simp at z
  |cons k1 x''=>
   cases F with
   |nil=>rw[wD.mp c]at z;simp at z
   |cons k2 y''=>
    obtain⟨X,B,rfl,h1,q⟩:=yI.mp p;obtain⟨W,i,rfl,T,m⟩:=yI.mp c;simp only[Ĳ,List.cons.injEq,Prod.mk.injEq]at z;obtain⟨⟨rfl,rfl⟩,rfl⟩:=z;refine wB (he k1 (N k1 mF0) k2 _ _ _ h1 T ?_);by_cases D:k1=k2
    .subst D;rw[dT0 rfl];simp only[Bool.not_true,fT,iF];refine wP ⟨rfl,rfl,x'',y'',B,i,rfl,λk D=>N k (mO _ D),q,m,?_,by simpa using j⟩;rw[<-d];by_cases H:x''=y''
     .simp[H]
     .simp[H]
    .rw[dF0 D];simp only[Bool.not_false,if_true];have Y:decide (x=y)=false:=by rw[<-d];simp[D]
     rw[Y]at h;exact wB (wP (wP (wP h)))
 .rintro⟨r1,r2⟩ s' ⟨K,rfl,C,F,n,o,z,N,p,c,d,j⟩;simp only at K;subst K;refine wP ?_
  have G:(xs.size==ys.size)=decide (x=y):=by
   rw[<-d, <-j]
   cases C with
   |nil=>
    rw[wD.mp p]
    cases F with
    |nil=>rw[wD.mp c];simp
    |cons k2 y''=>obtain⟨W,i,rfl,T,m⟩:=yI.mp c;simp
   |cons k1 x''=>
    obtain⟨X,B,rfl,h1,q⟩:=yI.mp p
    cases F with
    |nil=>rw[wD.mp c];simp
    |cons k2 y''=>obtain⟨W,i,rfl,T,m⟩:=yI.mp c;simp at z
  show P (.done (.ret (.bool _))) s';rw[G];exact h
theorem EH{n:Nat}: ∀{ks:List NK},sE ks<=n-> ∀k∈ks,lV k<=n
 |[],_,k,hk=>by simp at hk
 |x::xs,hx,k,hk=>by
  rw[tE]at hx;rcases mC.mp hk with rfl|hk
  .lia
  .exact EH #[0] k hk
theorem OM: ∀(n:Nat){A:Ņ}{E:VP}{s:Ń}{x y:NK}{u v:ń}{Q:Bool->Ń->Prop},lV x<=n->A.units+n<cLine->HC (mk prog w) s.heap x u->HC (mk prog w) s.heap y v->Q (decide (x=y)) s->wpAny (model prog w) A (eqBool u v) Q E s
 |n,A,E,s,.key a,.key b,u,v,Q,_,_,hx,hy,h=>(mk prog w).eqBool (xS.mp hx) (xS.mp hy) (by rw[Id]at h;exact h)
 |n,A,E,s,.key a,.tup b,u,v,Q,_,hu,hx,hy,h=>by obtain⟨z,i,k⟩:=OL (xS.mp hx);obtain⟨l,o,_,m,rfl,j,p,hd,_⟩:=xI.mp hy;rw[Qq]at h;exact(BK i k ⟨o,j,p,m,hd⟩ #[0]).2.1 prog w E Q h
 |n,A,E,s,.tup a,.key b,u,v,Q,_,hu,hx,hy,h=>by obtain⟨z,i,k⟩:=OL (xS.mp hy);obtain⟨l,o,_,m,rfl,j,p,hd,_⟩:=xI.mp hx;rw[Qr]at h;exact(BK i k ⟨o,j,p,m,hd⟩ #[0]).1 prog w E Q h
 |0,A,E,s,.tup a,.tup b,u,v,Q,hd,_,hx,hy,h=>by rw[eZ]at hd;lia
 |n+1,A,E,s,.tup x,.tup y,u,v,Q,hd,hu,hx,hy,h=>by
  obtain⟨a,_,_,_,q,_⟩:=xI.mp hx;obtain⟨b,_,_,_,r,_⟩:=xI.mp hy;subst q r;rw[eZ]at hd;rw[Qt]at h;unfold eqBool
  try with_reducible refine ú ?_
  show wpAny _ _ _ Q E s;by_cases c:(Value.ref a==Value.ref b)=true
  .rw[iP c];have e:a=b:=by have:=eq_of_beq c;injection this
   subst e;have:x=y:=NK.tup.inj (KM hx hy);subst this;exact wB (Ę (wP (by simpa using h)))
  .rw[iN c]
   refine wB (wpAny_richCompare_same_room (uC hx) (uC hy) F.slot_tuple_eq
    (ì F.slot_tuple_eq (uC hx) F.entry_tuple_eq (YH (λk1 d k2 u v Q h1 B C=>OM n (EH #[0] k1 d) (show A.units+1+n<cLine by lia) h1 B C) hx hy ⟨_,rfl,(λe=>nomatch e),ĵ h⟩) (F.args_tuple_eq_2 _ _)) #[0])
theorem UP: ∀(n m:Nat){A:Ņ}{E:VP}{s:Ń}{x:NK}{u:ń}{Q:Bool->Ń->Prop},lV x<=n->n<m->HC (mk prog w) s.heap x u->Q true s->wpAny (model prog w) A (eqIsQuiet m u) Q E s
 |n,m,A,E,s,.key k,u,Q,_,_,hx,h=>by rw[eqIsQuiet_byValue m ((mk prog w).byValue _ _ (xS.mp hx))];exact wP h
 |0,m,A,E,s,.tup ks,u,Q,hd,_,hx,h=>by rw[eZ]at hd;lia
 |n+1,0,A,E,s,.tup ks,u,Q,hd,hm,hx,h=>by lia
 |n+1,m+1,A,E,s,.tup ks,u,Q,hdp,hm,hx,h=>by
  obtain⟨a,o,_,j,rfl,q,y,hd,hi⟩:=xI.mp hx;have p:s.TypeIs (.ref a) "tuple":=⟨o,q,y⟩
  rw[eZ]at hdp;unfold eqIsQuiet;refine wB (wpAny_specialOf p F.slot_tuple_eq.lookup ?_);show wpAny _ _ _ _ _ s;refine wB (ğ p isSubtype_tuple_tuple ?_);refine wB (č q hd ?_);refine wB ?_;show wpAny _ _ _ _ _ s;rw[<-Array.forIn_toList];refine wpAny_forIn_list _ (λrest r s'=>r.1=none/\s'=s/\ ∃left,(∀k∈left,k∈ks)/\qH _ s.heap left rest) _ ?_ ?_ _ _ ⟨rfl,rfl,ks,λk d=>d,hi⟩
  .rintro v rest r s' ⟨i,rfl,left,b,c⟩
   cases left with
   |nil=>rw[wD]at c;cases c
   |cons k left=>
    obtain⟨D,B,e,h1,z⟩:=yI.mp c;cases e;refine wB (UP n m (EH #[0] k (b k mF0)) #[0] h1 ?_);exact wP ⟨rfl,rfl,left,λk d=>b k (mO _ d),z⟩
  .rintro⟨C,G⟩ s' ⟨i,rfl,_⟩;subst i;exact wP h
end
def zW(prog:ņ)(w:World):HeapKind prog w NK where
 is:=λh k a=>HC (mk prog w) h k (.ref a)/\lV k<=4
 hash:=uB (mk prog w)
 draws:=EE
 room:=λA=>A.units+4<cLine
 inj:=λhx hy=>KM hx.1 hy.1
 keeps:=λx ho hd hs=>⟨EF (λa o' items n e q=>(hs.2 a λz=>by subst z;rw[ho]at e;cases e;rw[hd]at q;cases q).trans e) x.1,x.2⟩
 pyHash:=λhu hk h=>OK 4 hk.2 hu hk.1 h
 eqBool:=λhu hx hy h=>OM 4 hx.2 hu hx.1 hy.1 h
 quiet:=λhk h=>UP 4 8 hk.2 (by decide) hk.1 h
noncomputable def DN(P:ņ)(w:World)(a:Addr)(xs:List (NK×Addr×ń)):HO:=
 .ext λh=>xs.length<=sizeLine/\(a==sysModules)=false/\ ∃o es ep,h.get? a=some o/\o.ExactDict/\o.data=.dict es ep/\es.toList=xs.map (entryOfKey (zW P w))/\(xs.map (·.1)).Nodup
end M
end L2
namespace L2
open PySem PySem.Spec PyProof.Rows
def Fly(h:Heap)(e T:Addr)(cls:ń)(d:Option Addr)(c:ń):Prop:=
 ∃a vs b ts,h.get? e=some a/\a.cls=cls/\a.dict=d/\a.data=.fields vs/\vs[1]? =some (.ref T)/\T≠e/\h.get? T=some b/\b.data=.fields ts/\ts[3]? =some c/\vs[2]? =some .none
structure Mvd(fs:B9)(e T:Addr)(h h':Heap):Prop where
 keep: ∀b o,b≠e->b≠T->b∉fs->h.get? b=some o->h'.get? b=some o
 slot: ∀b o,b≠e->b≠T->h.get? b=some o-> ∃sl,h'.get? b=some {o with slots:=sl}
 there: ∀b o,h.get? b=some o-> ∃o',h'.get? b=some o'
def Mvd.new{fs:B9}{e T i:Addr}{h h1 d:Heap}(a:Mvd fs e T h h1)(n:h.get? i=none)(b:Mvd fs e i h1 d):Mvd fs e T h d:=by
 have ne: ∀c o,h.get? c=some o->c≠i:=λc o q z=>by rw[z,n]at q;cases q
 exact⟨λc o h1 d m q=>b.keep c o h1 (ne c o q) m (a.keep c o h1 d m q),λc o h1 d q=>by obtain⟨sl,j⟩:=a.slot c o h1 d q;obtain⟨k,p⟩:=b.slot c _ h1 (ne c o q) j;exact⟨k,p⟩,λc o q=>let ⟨o',j⟩:=a.there c o q;b.there c o' j⟩
def CXe(P:ņ)(w:World):XU:=λa H s E x s'=> ∃e T C d H',x=.ref e/\s'.os=s.os/\AllBare s'.gens/\Un (XQ a) [] H H' s.heap s'.heap/\HOk P w H' s'.heap/\Fly s'.heap e T (.ref C) d .none/\
 s.heap.get? e=none/\s.heap.get? T=none/\H' e=none/\H' T=none/\E (.ref C) d H'
noncomputable abbrev E8:List Value:=[.type "ValueError",.type "Exception",.type "BaseException",.type "object"]
noncomputable def qn:List Str:=["__class__","__getattribute__","__getattr__","__setattr__","place","number"]
end L2
namespace L2
namespace M
open PySem PySem.Spec PyProof.Rows
variable{H H' H0:Hp}{α α':B9}{v:V}{β γ τ:Type}{Q:VP}{xs:List V}{j:Nat}{its:B0}{o:HO}{es:J8}{tg:Expr}{σ:St}
inductive MV where
 |non|bl (b:Bool)|int (i:Int)|str (x:Db)|tup (ds:List MV)|scr (ds:List MV)|loc (l:Nat)|typ (n:String)|obj (c:Str) (ns:C0) (ds:List MV)
abbrev K1:=List MV
abbrev K2:=Option MV
abbrev K5:=List (Nat×List MV)
abbrev K6:=List (MV×MV)
variable{kvs:K6}
abbrev K7:=List (List MV)
instance:Inhabited MV:=⟨.non⟩
inductive MO where
 |lst (ds:K1)|dic (kvs:K6)|ins (c:Str) (fs:List (Str×MV))|rcd (c:Str) (fs:List (Str×MV))|fdc (kvs:K6)
abbrev Sto:=List MO
variable{S T S':Sto}
def SqF(K:J9)(H:Hp)(a:Addr)(xs:List V):Prop:=
 (∃o,H a=some (.frz o (.lst xs)))\/
  ∃(o:Obj)(its:B0)(n:Nat),K.lookup a=some o/\o.cls=.type "list"/\o.dict=none/\o.data=.seq its n/\its.size<=sizeLine/\Vals xs its.toList
def SqF.l{K:J9}{a:Addr}(h:SqF K H a xs):SqL K H a xs:=by
 rcases h with⟨o,h⟩|h
 .exact .inl (.inr ⟨o,h⟩)
 .exact .inr h
mutual
def Den(K:J9)(α:B9)(H:Hp):MV->V->Prop
 |.non,v=>v=.non
 |.bl b,v=>v=.bl b
 |.int i,v=>v=.int i
 |.str x,v=>v=.str (cH x)
 |.tup ds,v=> ∃a vs,v=.ref a/\SqT K H a vs/\DenL K α H ds vs
 |.scr ds,v=> ∃a vs,v=.ref a/\SqF K H a vs/\DenL K α H ds vs
 |.loc l,v=> ∃a,v=.ref a/\α[l]? =some a
 |.typ n,v=>v=.ty n
 |.obj c ns ds,v=> ∃a C d vs o,v=.ref a/\H a=some (.frz o (.ins C d (ns.zip vs)))/\PySem.W.nsIn K mainGlobals c=some (some (.ref C))/\(PySem.W.clsIn K C).map (·.name)=some c/\ns.length=vs.length/\DenL K α H ds vs
def DenL(K:J9)(α:B9)(H:Hp):List MV->List V->Prop
 |[],vs=>vs=[]
 |d::ds,vs=> ∃v r,vs=v::r/\Den K α H d v/\DenL K α H ds r
end
structure Ex0(α:B9)(H:Hp)(α':B9)(H':Hp):Prop where
 pre: ∃t,α'=α++t
 tup: ∀b xs,H b=some (.tup xs)->H' b=some (.tup xs)
 frz: ∀b o u,H b=some (.frz o u)->H' b=some (.frz o u)
structure Ext(α:B9)(H:Hp)(α':B9)(H':Hp):Prop extends Ex0 α H α' H' where
 new: ∀b∈α',b∈α\/H b=none
 keep: ∀b o,H b=some o->b∉α->H' b=some o
 has: ∀b o,H b=some o-> ∃o',H' b=some o'
section
variable{K:J9}{α α' α'':B9}{H H' H'':Hp}
def Ext.refl(α:B9)(H:Hp):Ext α H α H:=⟨⟨⟨[],by simp⟩,λ_ _ h=>h,λ_ _ _ h=>h⟩,λb h=>.inl h,λ_ _ h _=>h,λ_ o h=>⟨o,h⟩⟩
def Ex0.grow(α t:B9)(H:Hp):Ex0 α H (α++t) H:=⟨⟨t,rfl⟩,λ_ _ h=>h,λ_ _ _ h=>h⟩
def Ext.free(x:Ext α H α' H'){b:Addr}(h:H' b=none):H b=none:=by
 cases e:H b with
 |none=>rfl
 |some o=>obtain⟨o',h'⟩:=x.has b o e;rw[h]at h';cases h'
def Ext.out(x:Ext α H α' H'){b:Addr}(h:H b=some o)(n:b∉α):b∉α':=λz=>by
 rcases x.new b z with z|z
 .exact n z
 .rw[h]at z;cases z
def Ext.trans(x:Ext α H α' H')(y:Ext α' H' α'' H''):Ext α H α'' H'' where
 pre:=by obtain⟨t,rfl⟩:=x.pre;obtain⟨u,rfl⟩:=y.pre;exact⟨_,by rw[aA]⟩
 new:=λb h=>(y.new b h).elim (x.new b) λz=>.inr (x.free z)
 keep:=λb o h n=>y.keep b o (x.keep b o h n) (x.out h n)
 has:=λb o h=>let ⟨o',h'⟩:=x.has b o h;y.has b o' h'
 tup:=λb xs h=>y.tup b xs (x.tup b xs h)
 frz:=λb o u h=>y.frz b o u (x.frz b o u h)
def Ex0.at(x:Ex0 α H α' H'){l:Nat}{a:Addr}(h:α[l]? =some a):α'[l]? =some a:=by obtain⟨t,rfl⟩:=x.pre;rw[á (gS.mp h).1];exact h
def Ex0.sqT(x:Ex0 α H α' H'){a:Addr}{vs:List V}(q:SqT K H a vs):SqT K H' a vs:=by
 rcases q with(q|⟨o,q⟩)|q
 .exact .inl (.inl (x.tup a vs q))
 .exact .inl (.inr ⟨o,x.frz a o _ q⟩)
 .exact .inr q
def Ex0.sqF(x:Ex0 α H α' H'){a:Addr}{vs:List V}(q:SqF K H a vs):SqF K H' a vs:=by
 rcases q with⟨o,q⟩|q
 .exact .inl ⟨o,x.frz a o _ q⟩
 .exact .inr q
mutual
theorem Den.ex0(x:Ex0 α H α' H'): ∀{d:MV}{v:V},Den K α H d v->Den K α' H' d v
 |.non,_,q=>by unfold Den at q ⊢; exact q
 |.bl _,_,q=>by unfold Den at q ⊢; exact q
 |.int _,_,q=>by unfold Den at q ⊢; exact q
 |.str _,_,q=>by unfold Den at q ⊢; exact q
 |.typ _,_,q=>by unfold Den at q ⊢; exact q
 |.obj c ns ds,_,q=>by unfold Den at q ⊢;obtain⟨a,C,i,vs,o,e,h,j,k,b,l⟩:=q;exact⟨a,C,i,vs,o,e,x.frz a _ _ h,j,k,b,DenL.ex0 x l⟩
 |.loc _,_,q=>by unfold Den at q ⊢;obtain⟨a,e,h⟩:=q;exact⟨a,e,x.at h⟩
 |.tup ds,_,q=>by unfold Den at q ⊢;obtain⟨a,vs,e,s,l⟩:=q;exact⟨a,vs,e,x.sqT s,DenL.ex0 x l⟩
 |.scr ds,_,q=>by unfold Den at q ⊢;obtain⟨a,vs,e,s,l⟩:=q;exact⟨a,vs,e,x.sqF s,DenL.ex0 x l⟩
theorem DenL.ex0(x:Ex0 α H α' H'): ∀{ds:K1}{vs:List V},DenL K α H ds vs->DenL K α' H' ds vs
 |[],_,q=>by unfold DenL at q ⊢; exact q
 |d::ds,_,q=>by unfold DenL at q ⊢;obtain⟨v,r,e,a,l⟩:=q;exact⟨v,r,e,Den.ex0 x a,DenL.ex0 x l⟩
end
def Den.ext(x:Ext α H α' H'){d:MV}(q:Den K α H d v):Den K α' H' d v:=q.ex0 x.toEx0
def DenL.ext(x:Ext α H α' H'){d:K1}{v:List V}(q:DenL K α H d v):DenL K α' H' d v:=q.ex0 x.toEx0
theorem uD:Den K α H .non .non:=by unfold Den;rfl
theorem fA(b:Bool):Den K α H (.bl b) (.bl b):=by unfold Den;rfl
theorem wL(i:Int):Den K α H (.int i) (.int i):=by unfold Den;rfl
theorem iU(x:Db):Den K α H (.str x) (.str (cH x)):=by unfold Den;rfl
theorem UQ(n:String):Den K α H (.typ n) (.ty n):=by unfold Den;rfl
def aM{ds:K1}{a:Addr}{vs:List V}(s:SqT K H a vs)(l:DenL K α H ds vs):Den K α H (.tup ds) (.ref a):=by unfold Den;exact⟨a,vs,rfl,s,l⟩
def UR{ds:K1}{a:Addr}{vs:List V}(s:SqF K H a vs)(l:DenL K α H ds vs):Den K α H (.scr ds) (.ref a):=by unfold Den;exact⟨a,vs,rfl,s,l⟩
def oQ{l:Nat}{a:Addr}(h:α[l]? =some a):Den K α H (.loc l) (.ref a):=by unfold Den;exact⟨a,rfl,h⟩
def nP(d:Den K α H .non v):v=.non:=by unfold Den at d;exact d
def pV{b:Bool}(d:Den K α H (.bl b) v):v=.bl b:=by unfold Den at d;exact d
def xN{i:Int}(d:Den K α H (.int i) v):v=.int i:=by unfold Den at d;exact d
def xO{x:Db}(d:Den K α H (.str x) v):v=.str (cH x):=by unfold Den at d;exact d
def Ie{c:Str}{b:C0}{ds:K1}{a C d:Addr}{vs:List V}{o:Obj}(h:H a=some (.frz o (.ins C d (b.zip vs))))(i:PySem.W.nsIn K mainGlobals c=some (some (.ref C)))(j:(PySem.W.clsIn K C).map (·.name)=some c)(e:b.length=vs.length)(l:DenL K α H ds vs):Den K α H (.obj c b ds) (.ref a):=by unfold Den;exact⟨a,C,d,vs,o,rfl,h,i,j,e,l⟩
def cJ{c:Str}{b:C0}{ds:K1}(d:Den K α H (.obj c b ds) v): ∃a C e vs o,v=.ref a/\H a=some (.frz o (.ins C e (b.zip vs)))/\PySem.W.nsIn K mainGlobals c=some (some (.ref C))/\(PySem.W.clsIn K C).map (·.name)=some c/\b.length=vs.length/\DenL K α H ds vs:=by unfold Den at d;exact d
def nQ{n:String}(d:Den K α H (.typ n) v):v=.ty n:=by unfold Den at d;exact d
def yR{ds:K1}(d:Den K α H (.tup ds) v): ∃a vs,v=.ref a/\SqT K H a vs/\DenL K α H ds vs:=by unfold Den at d;exact d
def cK{ds:K1}(d:Den K α H (.scr ds) v): ∃a vs,v=.ref a/\SqF K H a vs/\DenL K α H ds vs:=by unfold Den at d;exact d
def gY{l:Nat}(d:Den K α H (.loc l) v): ∃a,v=.ref a/\α[l]? =some a:=by unfold Den at d;exact d
theorem zZ:DenL K α H [] []:=by unfold DenL;rfl
def zS{d:MV}{ds:K1}{vs:List V}(a:Den K α H d v)(l:DenL K α H ds vs):DenL K α H (d::ds) (v::vs):=by unfold DenL;exact⟨v,vs,rfl,a,l⟩
def DenL.uncons{d:MV}{ds:K1}{vs:List V}(l:DenL K α H (d::ds) vs): ∃v r,vs=v::r/\Den K α H d v/\DenL K α H ds r:=by unfold DenL at l;exact l
def DenL.isnil{vs:List V}(l:DenL K α H [] vs):vs=[]:=by unfold DenL at l;exact l
theorem DenL.length: ∀{ds:K1}{vs:List V},DenL K α H ds vs->vs.length=ds.length
 |[],_,q=>by rw[q.isnil];rfl
 |d::ds,_,q=>by obtain⟨v,r,rfl,_,l⟩:=q.uncons;rw[lC,lC,DenL.length l]
theorem DenL.append: ∀{ds es:K1}{vs us:List V},DenL K α H ds vs->DenL K α H es us->DenL K α H (ds++es) (vs++us)
 |[],_,_,_,q,l=>by rw[q.isnil];exact l
 |d::ds,_,_,_,q,l=>by obtain⟨v,r,rfl,a,b⟩:=q.uncons;exact zS a (DenL.append b l)
theorem DenL.drop: ∀{ds:K1}{vs:List V}(n:Nat),DenL K α H ds vs->DenL K α H (ds.drop n) (vs.drop n)
 |_,_,0,q=>q
 |[],_,n+1,q=>by rw[q.isnil];exact zZ
 |d::ds,_,n+1,q=>by obtain⟨v,r,rfl,_,l⟩:=q.uncons;exact DenL.drop n l
theorem DenL.take: ∀{ds:K1}{vs:List V}(n:Nat),DenL K α H ds vs->DenL K α H (ds.take n) (vs.take n)
 |_,_,0,q=>zZ
 |[],_,n+1,q=>by rw[q.isnil];exact zZ
 |d::ds,_,n+1,q=>by obtain⟨v,r,rfl,a,l⟩:=q.uncons;exact zS a (DenL.take n l)
theorem DenL.set{d:MV}(a:Den K α H d v): ∀{ds:K1}{vs:List V}(n:Nat),DenL K α H ds vs->DenL K α H (ds.set n d) (vs.set n v)
 |[],_,_,q=>by rw[q.isnil];exact zZ
 |e::ds,_,0,q=>by obtain⟨c,r,rfl,b,l⟩:=q.uncons;exact zS a l
 |e::ds,_,n+1,q=>by obtain⟨c,r,rfl,b,l⟩:=q.uncons;exact zS b (DenL.set a n l)
theorem DenL.get: ∀{ds:K1}{vs:List V}{i:Nat}{v:V},DenL K α H ds vs->vs[i]? =some v-> ∃d,ds[i]? =some d/\Den K α H d v
 |[],_,_,_,q,e=>by rw[q.isnil]at e;simp at e
 |d::ds,_,0,_,q,e=>by obtain⟨v,r,rfl,a,l⟩:=q.uncons;simp at e;subst e;exact⟨d,rfl,a⟩
 |d::ds,_,i+1,_,q,e=>by obtain⟨v,r,rfl,a,l⟩:=q.uncons;obtain⟨c,h1,b⟩:=DenL.get l (by simpa using e);exact⟨c,by simpa using h1,b⟩
def DenL.at{ds:K1}{vs:List V}{i:Nat}{d:MV}(q:DenL K α H ds vs)(e:ds[i]? =some d): ∃v,vs[i]? =some v/\Den K α H d v:=by
 have hi:=(gS.mp e).1;have a:i<vs.length:=by rw[q.length];exact hi
 obtain⟨c,h1,b⟩:=q.get (gE a);rw[e]at h1;cases h1;exact⟨_,gE a,b⟩
def DenL.cut{ds:K1}{vs:List V}(q:DenL K α H ds vs)(lo hi:J7):DenL K α H (cE ds lo hi) (XZ vs lo hi):=by unfold cE XZ;rw[q.length];exact(q.drop _).take _
theorem IO: ∀(a:Za),DenL K α H (a.map MV.int) (a.map V.int)
 |[]=>zZ
 |b::bs=>zS (wL b) (IO bs)
end
structure Gm where
 K:PySem.W.Frag
 mg:Str->Option ń
 P:ņ
 w:World
abbrev _root_.L2.Cx.g(X:Cx):Gm:=⟨X.K,X.mg,X.prog,X.w⟩
inductive DenF(K:J9)(α:B9)(H:Hp):List (Str×MV)->List (Str×V)->Prop
 |nil:DenF K α H [] []
 |cons {x:Str} {d:MV} {v:V} {fs gs}:Den K α H d v->DenF K α H fs gs->DenF K α H ((x,d)::fs) ((x,v)::gs)
theorem DenF.ex0{K:J9}(x:Ex0 α H α' H'): ∀{fs gs},DenF K α H fs gs->DenF K α' H' fs gs
 |_,_,.nil=>.nil
 |_,_,.cons a l=>.cons (a.ex0 x) (DenF.ex0 x l)
def KeyD:MV->Key->Prop
 |.int i,k=>k=.inl i
 |.str x,k=>k=.inr (cH x)
 |_,_=>False
inductive DenK(K:J9)(α:B9)(H:Hp):List (MV×MV)->List (Key×V)->Prop
 |nil:DenK K α H [] []
 |cons {k:MV} {k':Key} {d:MV} {v:V} {fs gs}:KeyD k k'->Den K α H d v->DenK K α H fs gs->DenK K α H ((k,d)::fs) ((k',v)::gs)
theorem DenK.ex0{K:J9}(x:Ex0 α H α' H'): ∀{fs gs},DenK K α H fs gs->DenK K α' H' fs gs
 |_,_,.nil=>.nil
 |_,_,.cons k a l=>.cons k (a.ex0 x) (DenK.ex0 x l)
mutual
def xD:MV->Option NK
 |.non=>some (.key none)
 |.int i=>some (.key (some (.inl i)))
 |.str x=>some (.key (some (.inr (cH x))))
 |.tup ds=>(jH ds).map .tup
 |_=>none
def jH:List MV->Option (List NK)
 |[]=>some []
 |d::ds=>(xD d).bind λk=>(jH ds).map (k::·)
end
inductive DenN(K:J9)(α:B9)(H:Hp):List (MV×MV)->List (NK×Addr×ń)->Prop
 |nil:DenN K α H [] []
 |cons {k:MV} {nk:NK} {a:Addr} {d:MV} {v:V} {u:ń} {fs xs}:xD k=some nk->lV nk<=4->Den K α H k (.ref a)->Den K α H d v->RelV v u->DenN K α H fs xs->DenN K α H ((k,d)::fs) ((nk,a,u)::xs)
theorem DenN.ex0{K:J9}(x:Ex0 α H α' H'): ∀{fs xs},DenN K α H fs xs->DenN K α' H' fs xs
 |_,_,.nil=>.nil
 |_,_,.cons k e a d r l=>.cons k e (a.ex0 x) (d.ex0 x) r (DenN.ex0 x l)
def ObD(g:Gm)(α:B9)(H:Hp)(a:Addr):MO->Prop
 |.lst ds=> ∃vs,H a=some (.lst vs)/\DenL g.K α H ds vs
 |.dic kvs=>(∃e,H a=some (.dK e)/\DenK g.K α H kvs e)\/ ∃xs,H a=some (DN g.P g.w a xs)/\DenN g.K α H kvs xs
 |.ins c fs=> ∃C gs,g.mg c=some (.ref C)/\DenF g.K α H fs gs/\
   ∃b,H a=some (.frz b (.ext λh=>h.get? a=some b))/\b.cls=.ref C/\(fs=[]\/ ∃d od,b.dict=some d/\H d=some (.frz od (.xd gs))/\ ∃vs,b.data=.fields vs)
 |.rcd c fs=> ∃C d gs,PySem.W.nsIn g.K mainGlobals c=some (some (.ref C))/\H a=some (.ins C d gs)/\DenF g.K α H fs gs
 |.fdc kvs=> ∃b xs,H a=some (.frz b (DN g.P g.w a xs))/\DenN g.K α H kvs xs
def ObD.there{g:Gm}{a:Addr}{o:MO}(h:ObD g α H a o): ∃b,H a=some b/\(∀xs,b≠.tup xs)/\ ∀e u,b=.frz e u-> ∃d,u=.ext d:=by
 cases o with
 |lst ds=>obtain⟨vs,h,_⟩:=h;exact⟨_,h,(λxs z=>by cases z),λ_ _ z=>by cases z⟩
 |dic ds=>
  rcases h with⟨vs,h,_⟩|⟨vs,h,_⟩
  .exact⟨_,h,(λxs z=>by cases z),λ_ _ z=>by cases z⟩
  .exact⟨_,h,(λxs z=>by cases z),λ_ _ z=>by cases z⟩
 |ins c ds=>
  obtain⟨_,_,_,_,_,h,_⟩:=h;exact⟨_,h,(λxs z=>by cases z),λ_ _ z=>by cases z;exact⟨_,rfl⟩⟩
 |rcd c ds=>obtain⟨_,_,_,_,h,_⟩:=h;exact⟨_,h,(λxs z=>by cases z),λ_ _ z=>by cases z⟩
 |fdc kvs=>obtain⟨_,_,h,_⟩:=h;exact⟨_,h,(λxs z=>by cases z),λ_ _ z=>by cases z;exact⟨_,rfl⟩⟩
def ObD.move{g:Gm}{a:Addr}{o:MO}(h:ObD g α H a o)(x:Ex0 α H α' H')(e:H' a=H a):ObD g α' H' a o:=by
 cases o with
 |lst ds=>obtain⟨vs,h,l⟩:=h;exact⟨vs,e.trans h,l.ex0 x⟩
 |dic ds=>
  rcases h with⟨vs,h,l⟩|⟨vs,h,l⟩
  .exact .inl ⟨vs,e.trans h,l.ex0 x⟩
  .exact .inr ⟨vs,e.trans h,l.ex0 x⟩
 |ins c ds=>
  obtain⟨C,gs,m,l,d,h,i,k⟩:=h;exact⟨C,gs,m,l.ex0 x,d,e.trans h,i,k.imp id λ⟨b,od,h1,j,n⟩=>⟨b,od,h1,x.frz _ _ _ j,n⟩⟩
 |rcd c ds=>obtain⟨C,b,gs,m,h,l⟩:=h;exact⟨C,b,gs,m,e.trans h,l.ex0 x⟩
 |fdc kvs=>obtain⟨d,xs,h,l⟩:=h;exact⟨d,xs,e.trans h,l.ex0 x⟩
structure Wd(g:Gm)(α:B9)(S:Sto)(H:Hp):Prop where
 len:α.length=↑1
 nd:α.Nodup
 obj: ∀(l:Nat)(a:Addr)(o:MO),α[l]? =some a->S[l]? =some o->ObD g α H a o
section
variable{g:Gm}{α:B9}{S:Sto}{H:Hp}
def Wd.at(w:Wd g α S H){l:Nat}{o:MO}(h:S[l]? =some o): ∃a,α[l]? =some a/\ObD g α H a o:=by
 have b:l<α.length:=by rw[w.len];exact(gS.mp h).1
 exact⟨α[l],gE b,w.obj l _ o (gE b) h⟩
def Wd.of(w:Wd g α S H){l:Nat}{a:Addr}(h:α[l]? =some a): ∃o,S[l]? =some o/\ObD g α H a o:=by
 have b:l<S.length:=by rw[<-w.len];exact(gS.mp h).1
 exact⟨S[l],gE b,w.obj l a _ h (gE b)⟩
def Wd.mem(w:Wd g α S H){a:Addr}(h:a∈α): ∃b,H a=some b/\(∀xs,b≠.tup xs)/\ ∀e u,b=.frz e u-> ∃d,u=.ext d:=by obtain⟨l,c⟩:=getElem?_of_mem h;obtain⟨o,_,q⟩:=w.of c;exact q.there
def Wd.newx(w:Wd g α S H){p:Addr}(hp:H p=none):Ext α H α (wC H p o) where
 pre:=⟨[],by simp⟩
 new:=λb h=>.inl h
 keep:=λb o h _=>by rw[zL (zQ h hp)];exact h
 has:=λb o h=>⟨o,by rw[zL (zQ h hp)];exact h⟩
 tup:=λb o h=>by rw[zL (zQ h hp)];exact h
 frz:=λb o u h=>by rw[zL (zQ h hp)];exact h
def Wd.fresh(w:Wd g α S H){p:Addr}(a:H p=none):p∉α:=λz=>by obtain⟨_,h,_⟩:=w.mem z;rw[a]at h;cases h
def Wd.new(w:Wd g α S H){p:Addr}(b:H p=none):Wd g α S (wC H p o):=
 ⟨w.len,w.nd,λl a d h1 c=>(w.obj l a d h1 c).move (w.newx b).toEx0 (zL λz=>w.fresh b (by rw[<-z];exact è h1))⟩
def Gh{c:HO}{a:Addr}(h:H a=some c)(n: ∀b u,c≠.frz b u:=by intro _ _ z;cases z): ∀b u,H a≠some (.frz b u):=λb u z=>n b u (ä (h.symm.trans z))
def Wd.writex(w:Wd g α S H){l:Nat}{a:Addr}(h:α[l]? =some a)(nf: ∀ob u,H a≠some (.frz ob u)):Ext α H α (wC H a o) where
 pre:=⟨[],by simp⟩
 new:=λb h=>.inl h
 keep:=λb o e n=>by rw[zL λz=>n (by rw[z];exact è h)];exact e
 has:=λb o e=>by
  by_cases z:b=a
  .subst z;exact⟨_,zT⟩
  .exact⟨o,by rw[zL z];exact e⟩
 tup:=λb xs e=>by obtain⟨ho,h1,h2,_⟩:=w.mem (è h);rw[zL λz=>h2 xs (by subst z;rw[e]at h1;exact(ä h1).symm)];exact e
 frz:=λb ob u e=>by rw[zL λz=>nf ob u (by rw[<-z];exact e)];exact e
def Wd.ne(w:Wd g α S H){l m:Nat}{a b:Addr}(h:α[l]? =some a)(h':α[m]? =some b)(n:l≠m):a≠b:=by rintro rfl;obtain⟨h1,d⟩:=gS.mp h;obtain⟨e,c⟩:=gS.mp h';exact n ((getElem_inj w.nd).mp (d.trans c.symm))
def Wd.write(w:Wd g α S H){l:Nat}{a:Addr}{ob:MO}(h:α[l]? =some a)(nf: ∀ob u,H a≠some (.frz ob u))(q:ObD g α (wC H a o) a ob):Wd g α (S.set l ob) (wC H a o) where
 len:=by rw[Ą];exact w.len
 nd:=w.nd
 obj:=λm b ob' h1 h2=>by
  by_cases e:l=m
  .subst e;rw[h]at h1;have hl:l<S.length:=by rw[<-w.len];exact(gS.mp h).1
   rw[ę hl]at h2;rw[<-ä h1, <-ä h2];exact q
  .rw[ĥ e]at h2;exact(w.obj m b ob' h1 h2).move (w.writex h nf).toEx0 (zL (w.ne h1 h λz=>e z.symm))
def Wd.enterx(w:Wd g α S H){α0:B9}(x:Ext α0 H0 α H){b:Addr}(h0:H0 b=none)(n:b∉α):Ext α0 H0 (α++[b]) H where
 pre:=let ⟨t,e⟩:=x.pre;⟨_,by rw[e,aA]⟩
 new:=λc hc=>(é.mp hc).elim (x.new c) λz=>.inr (by rw[mS.mp z];exact h0)
 keep:=x.keep
 has:=x.has
 tup:=x.tup
 frz:=x.frz
theorem Wd.enter(w:Wd g α S H){b:Addr}{ds:K1}{vs:List V}(h:H b=some (.lst vs))(n:b∉α)(l:DenL g.K α H ds vs):Wd g (α++[b]) (S++[.lst ds]) H where
 len:=by rw[lA,lA,w.len];rfl
 nd:=į.mpr ⟨w.nd,by simp,λa ha c hc=>by rw[mS.mp hc];rintro rfl;exact n ha⟩
 obj:=λm a o h1 h2=>by
  by_cases hm:m<α.length
  .rw[á hm]at h1;rw[á (by rw[<-w.len];exact hm)]at h2;exact(w.obj m a o h1 h2).move (Ex0.grow α [b] H) rfl
  .have hm':m=α.length:=by
    have:=(gS.mp h1).1;rw[lA,lS]at this
    lia
   subst hm';rw[å (à _),sub_self]at h1;rw[å (by rw[w.len];exact à _),w.len,sub_self]at h2;cases h1;cases h2;exact⟨vs,h,l.ex0 (Ex0.grow α [b] H)⟩
end
inductive R(β:Type) where
 |ok (b:β) (S:Sto)|exc (c:Str) (fs:List (Str×MV)) (S:Sto)|no
def R.bind:R β->(β->Sto->R γ)->R γ
 |.ok b S,k=>k b S
 |.exc c fs S,_=>.exc c fs S
 |.no,_=>.no
theorem R.bind_ok(b:β)(S:Sto)(k:β->Sto->R γ):(R.ok b S).bind k=k b S:=rfl
inductive Er where
 |val (d:MV)|new (ds:K1)
variable{rs:List Er}
instance:Inhabited Er:=⟨.val .non⟩
def DenX(K:J9)(α:B9)(H:Hp):Er->V->Prop
 |.val d,v=>Den K α H d v
 |.new ds,v=> ∃b vs,v=.ref b/\H b=some (.lst vs)/\b∉α/\DenL K α H ds vs
def DenE(K:J9)(H:Hp)(α':B9)(H':Hp)(r:Er)(v:V):Prop:=DenX K α' H' r v/\match r with |.new _=> ∀a,v=.ref a->H a=none|_=>True
section
variable{K:J9}{α α':B9}{H H0 H':Hp}
def DenX.ext(x:Ext α H α' H'): ∀{r:Er}{v:V},DenX K α H r v->DenX K α' H' r v
 |.val d,_,q=>Den.ext x q
 |.new ds,_,⟨b,vs,e,h,n,l⟩=>⟨b,vs,e,x.keep b _ h n,x.out h n,l.ext x⟩
def DenE.val{d:MV}(q:Den K α' H' d v):DenE K H α' H' (.val d) v:=⟨q,trivial⟩
def DenE.back(c: ∀b,H b=none->H0 b=none){r:Er}(q:DenE K H α' H' r v):DenE K H0 α' H' r v:=by
 refine⟨q.1,?_⟩
 cases r with
 |new ds=>exact λa e=>c a (q.2 a e)
 |_=>trivial
def DenE.ext{α'':B9}{H'':Hp}(x:Ext α' H' α'' H''){r:Er}(q:DenE K H α' H' r v):DenE K H α'' H'' r v:=⟨q.1.ext x,q.2⟩
end
section
variable{K:J9}{α:B9}{H:Hp}{v:V}
def vW(d:DenX K α H (.val .non) v):v=.non:=nP (K:=K) (α:=α) (H:=H) d
def IP{b:Bool}(d:DenX K α H (.val (.bl b)) v):v=.bl b:=pV (K:=K) (α:=α) (H:=H) d
def yV{b:Int}(d:DenX K α H (.val (.int b)) v):v=.int b:=xN (K:=K) (α:=α) (H:=H) d
def cL{b:Db}(d:DenX K α H (.val (.str b)) v):v=.str (cH b):=xO (K:=K) (α:=α) (H:=H) d
def Bk{b:String}(d:DenX K α H (.val (.typ b)) v):v=.ty b:=nQ (K:=K) (α:=α) (H:=H) d
def Qu{c:Str}{b:C0}{ds:K1}(d:DenX K α H (.val (.obj c b ds)) v): ∃a C e vs o,v=.ref a/\H a=some (.frz o (.ins C e (b.zip vs)))/\PySem.W.nsIn K mainGlobals c=some (some (.ref C))/\(PySem.W.clsIn K C).map (·.name)=some c/\b.length=vs.length/\DenL K α H ds vs:=cJ d
def nR{ds:K1}(d:DenX K α H (.val (.tup ds)) v): ∃a vs,v=.ref a/\SqT K H a vs/\DenL K α H ds vs:=yR d
def EI{ds:K1}(d:DenX K α H (.val (.scr ds)) v): ∃a vs,v=.ref a/\SqF K H a vs/\DenL K α H ds vs:=cK d
def fB{l:Nat}(d:DenX K α H (.val (.loc l)) v): ∃a,v=.ref a/\α[l]? =some a:=gY (K:=K) (H:=H) d
end
noncomputable def BL:List Er->List V->List Addr
 |.new _::rs,.ref b::vs=>b::BL rs vs
 |_::rs,_::vs=>BL rs vs
 |_,_=>[]
inductive ArgsE(K:J9)(H:Hp)(α':B9)(H':Hp):List Er->List V->Prop
 |nil:ArgsE K H α' H' [] []
 |cons {r v rs vs}:DenE K H α' H' r v->(∀ds b,r=.new ds->v=.ref b->b∉BL rs vs)->ArgsE K H α' H' rs vs->ArgsE K H α' H' (r::rs) (v::vs)
theorem ArgsE.nones{K:J9}: ∀{rs vs},ArgsE K H α' H' rs vs-> ∀b∈BL rs vs,H b=none
 |_,_,.nil=>λb h=>by simp[BL]at h
 |.val d::_,v::_,.cons a n l=>λb h=>ArgsE.nones l b (by simpa [BL]using h)
 |.new ds::_,v::_,.cons a n l=>λb h=>by
  obtain⟨c,vs,rfl,_⟩:=a.1;rcases mC.mp h with rfl|h
  .exact a.2 _ rfl
  .exact ArgsE.nones l b h
theorem ArgsE.back{K:J9}(c: ∀b,H b=none->H0 b=none): ∀{rs vs},ArgsE K H α' H' rs vs->ArgsE K H0 α' H' rs vs
 |_,_,.nil=>.nil
 |_,_,.cons a n l=>.cons (a.back c) n (ArgsE.back c l)
theorem ArgsE.length{K:J9}: ∀{rs vs},ArgsE K H α' H' rs vs->vs.length=rs.length
 |_,_,.nil=>rfl
 |_,_,.cons _ _ l=>by rw[lC,lC,ArgsE.length l]
class Dn (β:Type) (τ:outParam Type) where
 d:Gm->Hp->List Addr->Sto->Hp->β->τ->Prop
 back: ∀{g:Gm}{H H0:Hp}{α':B9}{S':Sto}{H':Hp}{b:β}{u:τ},(∀b,H b=none->H0 b=none)->d g H α' S' H' b u->d g H0 α' S' H' b u
instance:Dn Er V:=⟨λg H α' _ H' r v=>DenE g.K H α' H' r v,λa q=>q.back a⟩
instance:Dn Bool Bool:=⟨λ_ _ _ _ _ b u=>u=b,λ_ q=>q⟩
instance:Dn (List Er) (List V):=⟨λg H α' _ H' r v=>ArgsE g.K H α' H' r v,λa q=>q.back a⟩
instance:Dn (Option Int) (Option Int):=⟨λ_ _ _ _ _ b u=>u=b,λ_ q=>q⟩
abbrev XW:=Str->List (Str×MV)->Sto->List Addr->Hp->Prop
abbrev W0:XW:=λ_ _ _ _ _=>False
def Post[Dn β τ](g:Gm)(W:XW)(α:B9)(H:Hp):R β->(τ->Hp->Prop)->Prop
 |.ok b S,Q=> ∀u α' H',Ext α H α' H'->Wd g α' S H'->Dn.d g H α' S H' b u->Q u H'
 |.exc c fs S,_=> ∀α' H',Ext α H α' H'->Wd g α' S H'->W c fs S α' H'
 |.no,_=>False
section
variable{β τ γ υ:Type}[Dn β τ][Dn γ υ]{g:Gm}{W:XW}{α α':B9}{H H':Hp}
def Post.shift(x:Ext α H α' H'): ∀{m:R β}{Q:τ->Hp->Prop},Post g W α H m Q->Post g W α' H' m Q
 |.ok b S,Q,q=>λu a e d i j=>q u a e (x.trans d) i (Dn.back (λb h=>x.free h) j)
 |.exc c fs S,_,q=>λa e d i=>q a e (x.trans d) i
 |.no,_,q=>q
def Post.bind{m:R β}{k:β->Sto->R γ}{Q:υ->Hp->Prop}{e:τ->Hp->Prop}(q:Post g W α H (m.bind k) Q)
  (f: ∀u b S1 a H1,m=.ok b S1->Ext α H a H1->Wd g a S1 H1->Dn.d g H a S1 H1 b u->Post g W α H (k b S1) Q->e u H1):Post g W α H m e:=by
 cases m with
 |ok b S=>exact λu a H1 x w d=>f u b S a H1 rfl x w d q
 |exc c fs S=>exact q
 |no=>exact q
def Post.here{b:β}{Q:τ->Hp->Prop}{u:τ}(q:Post g W α H (.ok b S) Q)(w:Wd g α S H)(d:Dn.d g H α S H b u):Q u H:=q u α H (Ext.refl α H) w d
end
def Post.val{g:Gm}{W:XW}{d:MV}{Q:VK}(q:Post g W α H (.ok (Er.val d) S) Q)(w:Wd g α S H)(k:Den g.K α H d v):Q v H:=q.here w (DenE.val k)
def Post.newl{g:Gm}{W:XW}{ds:K1}{Q:VK}{vs:List V}{p:Addr}(q:Post g W α H (.ok (Er.new ds) S) Q)(w:Wd g α S H)(b:H p=none)(l:DenL g.K α H ds vs):Q (.ref p) (wC H p (.lst vs)):=
 q _ α _ (w.newx b) (w.new b) ⟨⟨p,vs,rfl,zT,w.fresh b,l.ext (w.newx b)⟩,λa e=>by cases e;exact b⟩
def Post.newt{g:Gm}{W:XW}{ds:K1}{Q:VK}{vs:List V}{p:Addr}(q:Post g W α H (.ok (Er.val (.tup ds)) S) Q)(w:Wd g α S H)(a:H p=none)(l:DenL g.K α H ds vs):Q (.ref p) (wC H p (.tup vs)):=
 q _ α _ (w.newx a) (w.new a) (.val (aM (.of zT) (l.ext (w.newx a))))
abbrev Rho:=List (Option MV)
variable{gf:MV->Rho->Sto->R Rho}{ρ:Rho}{g2:List MV->Rho->Sto->R Rho}
structure Slots(K:J9)(α:B9)(H:Hp)(ρ:Rho)(σ:St):Prop where
 len:σ.length=ρ.length
 slot: ∀(i:Nat)(d:MV),ρ[i]? =some (some d)-> ∃v,σ[i]? =some (some v)/\Den K α H d v
section
variable{K:J9}{α α':B9}{H H':Hp}{ρ:Rho}{σ:St}
def Slots.ex0(q:Slots K α H ρ σ)(x:Ex0 α H α' H'):Slots K α' H' ρ σ:=⟨q.len,λi d e=>let ⟨v,h1,a⟩:=q.slot i d e;⟨v,h1,a.ex0 x⟩⟩
def Slots.ext(q:Slots K α H ρ σ)(x:Ext α H α' H'):Slots K α' H' ρ σ:=q.ex0 x.toEx0
theorem Ig{α:Type}{l:List α}{i:Nat}{x y:α}(h:(l.set i x)[j]? =some y):(j=i/\y=x/\i<l.length)\/(j≠i/\l[j]? =some y):=by
 by_cases a:i=j
 .subst a;by_cases b:i<l.length
  .rw[ę b]at h;exact .inl ⟨rfl,(ä h).symm,b⟩
  .rw[getElem?_eq_none (by rw[Ą];lia)]at h;cases h
 .rw[ĥ a]at h;exact .inr ⟨λz=>a z.symm,h⟩
def Slots.set(q:Slots K α H ρ σ){i:Nat}{d:MV}(h:Den K α H d v):Slots K α H (ρ.set i (some d)) (σ.set i (some v)):=by
 refine⟨by rw[Ą,Ą];exact q.len,λj e z=>?_⟩;rcases Ig z with⟨rfl,e',hl⟩|⟨hj,e'⟩
 .cases e';exact⟨v,by rw[ę (by rw[q.len];exact hl)],h⟩
 .obtain⟨u,h1,a⟩:=q.slot j e e';exact⟨u,by rw[ĥ (Ne.symm hj)];exact h1,a⟩
end
def Jd(X:Cx)(W:XW)[Dn β τ](P:(St->Hp->(τ->Hp->Prop)->Prop)->Prop)(f:Rho->Sto->R β):Prop:=
 ∃t,P t/\ ∀α ρ S σ H Q,Wd X.g α S H->Slots X.K α H ρ σ->Post X.g W α H (f ρ S) Q->t σ H Q
abbrev zP(X:Cx)(W:XW)(e:Expr)(f:Rho->Sto->R Er):Prop:=Jd X W (PE X e) f
abbrev tW(X:Cx)(W:XW)(e:Expr)(f:Rho->Sto->R Bool):Prop:=Jd X W (PT X e) f
abbrev Nz(X:Cx)(W:XW)(e:Expr)(f:Rho->Sto->R Bool):Prop:=Jd X W (PW X e) f
abbrev EK(X:Cx)(W:XW)(es:J8)(f:Rho->Sto->R (List Er)):Prop:=Jd X W (PA X es) f
abbrev Ih(X:Cx)(W:XW)(e:Option Expr)(f:Rho->Sto->R (Option Int)):Prop:=Jd X W (PO X e) f
section
variable{X:Cx}{W:XW}{a b c:Expr}{f g h:Rho->Sto->R Er}{pos:Pos}
noncomputable def Ii:Option (Option MV)->Sto->R Er
 |some (some d),S=>.ok (.val d) S
 |_,_=>.no
def Qv(i:Nat){x:Str}(e:X.N[i]? =some x:=by rfl)(c:Xa X.env.scope x:=by first |exact Or.inl rfl|exact Or.inr (Or.inl rfl)|exact Or.inr (Or.inr rfl))(hd:(x==("__debug__":Str))=false:=by decide)
  (hcd:(x==("__classdict__":Str))=false:=by decide):zP X W (.Name x pos) (λρ S=>Ii (ρ[i]?) S):=by
 refine⟨_,pv i e c hd hcd,λα ρ S σ H Q b sl q=>?_⟩;dsimp only at q
 cases z:ρ[i]? with
 |none=>rw[z]at q;exact q.elim
 |some o=>
  cases o with
  |none=>rw[z]at q;exact q.elim
  |some d=>
   rw[z]at q;obtain⟨v,h1,a⟩:=sl.slot i d z;exact⟨v,h1,Post.val q b a⟩
def Qw{i:Int}:zP X W (.Constant (.int i) j pos) (λ_ S=>.ok (.val (.int i)) S):=⟨_,RM,λα ρ S σ H Q a sl q=>Post.val q a (wL i)⟩
def Yf{i:Bool}:zP X W (.Constant (.bool i) j pos) (λ_ S=>.ok (.val (.bl i)) S):=⟨_,Xc,λα ρ S σ H Q a sl q=>Post.val q a (fA i)⟩
def Qx:zP X W (.Constant .none j pos) (λ_ S=>.ok (.val .non) S):=⟨_,Pg,λα ρ S σ H Q a sl q=>Post.val q a uD⟩
def Qy{x:Str}(cs:Db)(b:x=cH cs:=by rfl):zP X W (.Constant (.str x) j pos) (λ_ S=>.ok (.val (.str cs)) S):=
 ⟨_,Ph,λα ρ S σ H Q a sl q=>Post.val q a (by rw[b];exact iU cs)⟩
def Ij{x:Str}{i:Int}{t:Tok}(a:Gl X x)(c:X.mg x=some (.int i t))(hd:(x==("__debug__":Str))=false:=by decide):zP X W (.Name x pos) (λ_ S=>.ok (.val (.int i)) S):=
 ⟨_,Gx (v:=.int i) a c ⟨t,rfl⟩ hd,λα ρ S σ H Q b sl q=>Post.val q b (wL i)⟩
def Yg{x:Str}{T:String}(a:Gl X x)(e:X.mg x=none)(c:bootBuiltins x=some (.type T))(d:x≠"__name__":=by decide)(hd:(x==("__debug__":Str))=false:=by decide):zP X W (.Name x pos) (λ_ S=>.ok (.val (.typ T)) S):=
 ⟨_,Gy (v:=.ty T) a e c rfl d hd,λα ρ S σ H Q b sl q=>Post.val q b (UQ T)⟩
def Qz{i:Int}{b:Pos}:zP X W (.UnaryOp .USub (.Constant (.int i) j b) pos) (λ_ S=>.ok (.val (.int (-i))) S):=
 ⟨_,Ny Ar RM,λα ρ S σ H Q a sl q=>⟨i,rfl,Post.val q a (wL (-i))⟩⟩
def US(X:Cx)(W:XW)(r:R2)(F:Er->Er->Sto->R Er):Prop:= ∀p q x y α S H Q,Wd X.g α S H->DenX X.K α H p x->DenX X.K α H q y->Post X.g W α H (F p q S) Q->r x y H Q
def two{r:R2}{F:Er->Er->Sto->R Er}(m:US X W r F){ta tb:TE}(fa: ∀α ρ S σ H Q,Wd X.g α S H->Slots X.K α H ρ σ->Post X.g W α H (f ρ S) Q->ta σ H Q)
  (fb: ∀α ρ S σ H Q,Wd X.g α S H->Slots X.K α H ρ σ->Post X.g W α H (g ρ S) Q->tb σ H Q) {α:B9} {ρ:Rho} {S:Sto} {σ:St} {H:Hp} {Q:VK} (wd:Wd X.g α S H) (sl:Slots X.K α H ρ σ)
  (q:Post X.g W α H ((f ρ S).bind λp S1=>(g ρ S1).bind λq S2=>F p q S2) Q):ta σ H λx H1=>tb σ H1 λy a=>r x y a Q:=
 fa α ρ S σ H _ wd sl (q.bind λu p S1 b H1 v d j o n=>fb b ρ S1 σ H1 _ j (sl.ext d) ((n.shift d).bind λi p2 S2 c a w e k s h=>
  m p p2 u i c S2 a Q k (o.1.ext e) s.1 (h.shift e)))
def BM{e:Operator}{r:R2}{F:Er->Er->Sto->R Er}(h:OpR X (binaryOp e) r)(j:US X W r F)(c:zP X W a f)(d:zP X W b g):zP X W (.BinOp a e b pos) (λρ S=>(f ρ S).bind λp S1=>(g ρ S1).bind λq S2=>F p q S2):=by obtain⟨ta,c,fa⟩:=c;obtain⟨tb,d,fb⟩:=d;exact⟨_,Xm h c d,λα ρ S σ H Q i sl q=>two j fa fb i sl q⟩
def Ra{e:CmpOp}{r:R2}{F:Er->Er->Sto->R Er}(h:OpR X (compareOp e) r)(j:US X W r F)(c:zP X W a f)(d:zP X W b g)(k:behindInMarks e b=false:=by first |exact As _|with_unfolding_all rfl):
  zP X W (.Compare a [e] [b] pos) (λρ S=>(f ρ S).bind λp S1=>(g ρ S1).bind λq S2=>F p q S2):=by
 obtain⟨ta,c,fa⟩:=c;obtain⟨tb,d,fb⟩:=d;exact⟨_,Hi h c d k,λα ρ S σ H Q i sl q=>two j fa fb i sl q⟩
def Oa{r:R2}{F:Er->Er->Sto->R Er}(e:IxR X r)(i:US X W r F)(c:zP X W a f)(d:zP X W b g)(hs:CW b:=by exact λ_ _=>rfl):
  zP X W (.Subscript a b pos) (λρ S=>(f ρ S).bind λp S1=>(g ρ S1).bind λq S2=>F p q S2):=by
 obtain⟨ta,c,fa⟩:=c;obtain⟨tb,d,fb⟩:=d;exact⟨_,Xv e c d hs,λα ρ S σ H Q h sl q=>two i fa fb h sl q⟩
noncomputable def nO:Er->Sto->R Bool
 |.val (.bl b),S=>.ok b S
 |_,_=>.no
def Bl{p:Er}{Q:Bool->Hp->Prop}(q:Post X.g W α H (nO p S) Q): ∃k,p=.val (.bl k)/\Post X.g W α H (.ok k S) Q:=by
 unfold nO at q;split at q
 .exact⟨_,rfl,q⟩
 .exact q.elim
def tF{e:CmpOp}{r:R2}{F:Er->Er->Sto->R Er}(i:OpR X (compareOp e) r)(n:US X W r F)(c:zP X W a f)(d:zP X W b g)(y:behindInMarks e b=false:=by first |exact As _|with_unfolding_all rfl):
  tW X W (.Compare a [e] [b] pos) (λρ S=>((f ρ S).bind λp S1=>(g ρ S1).bind λq S2=>F p q S2).bind nO):=by
 obtain⟨ta,c,fa⟩:=c;obtain⟨tb,d,fb⟩:=d;refine⟨_,Hj i c d y,λα ρ S σ H Q j sl q=>?_⟩;refine two n fa fb j sl (q.bind λu p S1 v H1 z o m w s=>?_);obtain⟨k,rfl,h⟩:=Bl (s.shift o);exact⟨k,IP w.1,h.here m rfl⟩
def chF(F G:Er->Er->Sto->R Er)(p q:Er)(S:Sto)(k:Sto->R Er):R Er:=(F p q S).bind λz S1=>(nO z S1).bind λc S2=>if c=true then(k S2).bind λr S3=>G q r S3 else .ok (.val (.bl false)) S2
noncomputable def EL:Er->Sto->R Bool
 |.val .non,S=>.ok false S
 |.val (.bl b),S=>.ok b S
 |.val (.int i),S=>.ok (i !=0) S
 |.val (.str x),S=>if x.length<=sizeLine then .ok (!x.isEmpty) S else .no
 |.val (.tup ds),S=>.ok (!ds.isEmpty) S
 |.val (.scr ds),S=>.ok (!ds.isEmpty) S
 |.val (.loc l),S=>match S[l]? with
  |some (.lst ds)=>.ok (!ds.isEmpty) S
  |_=>.no
 |.val (.typ _),_=>.no
 |.val (.obj _ _ _),_=>.no
 |.new ds,S=>.ok (!ds.isEmpty) S
def rK{ds:K1}{vs:List V}{K:J9}(l:DenL K α H ds vs):(!vs.isEmpty)= !ds.isEmpty:=by have:=l.length;cases ds<;>cases vs<;>simp_all
theorem Bm{p:Er}{x:V}{Q:Bool->Hp->Prop}(j:Wd X.g α S H)(d:DenX X.K α H p x)(q:Post X.g W α H (EL p S) Q): ∃k,Pz X.K x H k/\Q k H:=by
 match p,d,q with
 |.val .non,d,q=>cases vW d;exact⟨_,rfl,q.here j rfl⟩
 |.val (.bl b),d,q=>cases IP d;exact⟨_,rfl,q.here j rfl⟩
 |.val (.int i),d,q=>cases yV d;exact⟨_,rfl,q.here j rfl⟩
 |.val (.typ n),d,q=>exact q.elim
 |.val (.obj _ _ _),d,q=>exact q.elim
 |.val (.str z),d,q=>
  cases cL d;have e:Post X.g W α H (if z.length<=sizeLine then R.ok _ S else R.no) Q:=q;split at e
  .rename_i u;refine⟨_,⟨by rw[dE];exact u,?_⟩,e.here j rfl⟩;rw[dE]
   cases z with
   |nil=>rfl
   |cons c r=>
    have m:((r.length:Int)+1)≠0:=by lia
    simp[m]
  .exact e.elim
 |.val (.tup ds),d,q=>
  obtain⟨a,vs,rfl,s,l⟩:=nR d;exact⟨_,.inr (.inl ⟨vs,s,(rK l).symm⟩),q.here j rfl⟩
 |.val (.scr ds),d,q=>
  obtain⟨a,vs,rfl,s,l⟩:=EI d;exact⟨_,.inl ⟨vs,s.l,(rK l).symm⟩,q.here j rfl⟩
 |.val (.loc n),d,q=>
  obtain⟨a,rfl,h⟩:=fB d;obtain⟨o,h1,v⟩:=j.of h;have e:Post X.g W α H (match S[n]? with |some (.lst ds)=>R.ok _ S|_=>R.no) Q:=q;rw[h1]at e
  cases o with
  |lst ds=>
   obtain⟨vs,w,l⟩:=v;exact⟨_,.inl ⟨vs,.of w,(rK l).symm⟩,e.here j rfl⟩
  |dic ds=>exact e.elim
  |ins c fs=>exact e.elim
  |rcd c fs=>exact e.elim
  |fdc _=>exact e.elim
 |.new ds,⟨a,vs,ex,s,n,l⟩,q=>subst ex;exact⟨_,.inl ⟨vs,.of s,(rK l).symm⟩,q.here j rfl⟩
def Bn(c:zP X W a f)(m: ∀b,isTrue a X.env b=(do let v <-b;standAt a.pos;holding [v] (truthy v)):=by intro _;rfl):tW X W a (λρ S=>(f ρ S).bind EL):=by obtain⟨ta,c,fa⟩:=c;exact⟨_,Au c m,λα ρ S σ H Q d sl q=>fa α ρ S σ H _ d sl (q.bind λu p S1 j H1 n h e k i=>Bm e k.1 (i.shift h))⟩
end
section
variable{X:Cx}{W:XW}{a b c:Expr}{es:J8}{f g h:Rho->Sto->R Er}{tf tg:Rho->Sto->R Bool}{pos:Pos}
def andF(p:Er)(S:Sto)(k:Sto->R Er):R Er:=(nO p S).bind λc S1=>if c=true then k S1 else .ok (.val (.bl false)) S1
def orF(p:Er)(S:Sto)(k:Sto->R Er):R Er:=(nO p S).bind λc S1=>if c=true then .ok (.val (.bl true)) S1 else k S1
def Yh(m:tW X W c tf)(i:zP X W a f)(j:zP X W b g):zP X W (.IfExp c a b pos) (λρ S=>(tf ρ S).bind λk S1=>if k=true then f ρ S1 else g ρ S1):=by
 obtain⟨w,m,o⟩:=m;obtain⟨ta,i,fa⟩:=i;obtain⟨tb,j,fb⟩:=j;refine⟨_,Am m i j,λα ρ S σ H Q r sl q=>o α ρ S σ H _ r sl (q.bind λu p S1 d H1 v e n s h=>?_)⟩;cases s
 cases u with
 |true=>rw[iP rfl]at h ⊢; exact fa d ρ S1 σ H1 _ n (sl.ext e) (h.shift e)
 |false=>rw[iN xF0]at h ⊢; exact fb d ρ S1 σ H1 _ n (sl.ext e) (h.shift e)
def Ik(b:tW X W a tf):Nz X W (.BoolOp .And [a] pos) tf:=let ⟨t,h,k⟩:=b;⟨t,Gz h,k⟩
def Rb(b:tW X W a tf):Nz X W (.BoolOp .Or [a] pos) tf:=let ⟨t,h,k⟩:=b;⟨t,Pi h,k⟩
theorem Re(d:tW X W a tf)(e:Nz X W (.BoolOp .And (b::es) pos) tg):Nz X W (.BoolOp .And (a::b::es) pos) (λρ S=>(tf ρ S).bind λk S1=>if k=true then tg ρ S1 else .ok false S1):=by
 obtain⟨ta,d,fa⟩:=d;obtain⟨tb,e,fb⟩:=e;refine⟨_,Pj d e,λα ρ S σ H Q m sl q=>fa α ρ S σ H _ m sl (q.bind λu p S1 i H1 o h j n c=>?_)⟩;cases n
 cases u with
 |true=>rw[iP rfl]at c ⊢; exact fb i ρ S1 σ H1 _ j (sl.ext h) (c.shift h)
 |false=>rw[iN xF0]at c ⊢; exact(c.shift h).here j rfl
def Yi(d:tW X W a tf)(e:Nz X W (.BoolOp .Or (b::es) pos) tg):Nz X W (.BoolOp .Or (a::b::es) pos) (λρ S=>(tf ρ S).bind λk S1=>if k=true then .ok true S1 else tg ρ S1):=by
 obtain⟨ta,d,fa⟩:=d;obtain⟨tb,e,fb⟩:=e;refine⟨_,Xd d e,λα ρ S σ H Q m sl q=>fa α ρ S σ H _ m sl (q.bind λu p S1 i H1 o h j n c=>?_)⟩;cases n
 cases u with
 |true=>rw[iP rfl]at c ⊢; exact(c.shift h).here j rfl
 |false=>rw[iN xF0]at c ⊢; exact fb i ρ S1 σ H1 _ j (sl.ext h) (c.shift h)
def Yj(h:Nz X W a tf):tW X W a tf:=let ⟨t,h,k⟩:=h;⟨t,h.pt,k⟩
theorem Rf(b:tW X W a tf):tW X W (.UnaryOp .Not a pos) (λρ S=>(tf ρ S).bind λk S1=>.ok (!k) S1):=by obtain⟨ta,b,fa⟩:=b;refine⟨_,Pk b,λα ρ S σ H Q c sl q=>fa α ρ S σ H _ c sl (q.bind λu p S1 i H1 m e d j h=>?_)⟩;cases j;exact(h.shift e).here d rfl
end
section
variable{K:J9}{H0:Hp}
noncomputable def zE:List Er->Sto->List MV×Sto
 |[],S=>([],S)
 |.val d::rs,S=>((d::(zE rs S).1),(zE rs S).2)
 |.new xs::rs,S=>((.loc S.length::(zE rs (S++[.lst xs])).1),(zE rs (S++[.lst xs])).2)
def ArgsE.grow{H0:Hp}{b:Addr}{vs:List V}(q:ArgsE K H0 α H rs vs)(n:b∉BL rs vs):ArgsE K H0 (α++[b]) H rs vs:=by
 induction q with
 |nil=>exact .nil
 |@cons r v rs vs a m l ih=>
  cases r with
  |val d=>exact .cons ⟨Den.ex0 (Ex0.grow α [b] H) a.1,trivial⟩ m (ih (by simpa [BL]using n))
  |new ds=>
   obtain⟨⟨c,us,rfl,h1,i,j⟩,h⟩:=a;have e:=n;refine .cons ⟨⟨c,us,rfl,h1,λz=>?_,j.ex0 (Ex0.grow α [b] H)⟩,h⟩ m (ih λz=>e (mO _ z));rcases é.mp z with z|z
   .exact i z
   .exact e (by rw[mS.mp z];exact mF0)
theorem qK{g:Gm}{H0:Hp}{i:B9}{H:Hp}: ∀{rs:List Er}{vs:List V}{α:B9}{S:Sto},Wd g α S H->Ext i H0 α H->ArgsE g.K H0 α H rs vs->
  ∃α',Ext i H0 α' H/\Ex0 α H α' H/\Wd g α' (zE rs S).2 H/\DenL g.K α' H (zE rs S).1 vs
 |_,_,α,S,w,x,.nil=>⟨α,x,⟨⟨[],by simp⟩,λ_ _ h=>h,λ_ _ _ h=>h⟩,w,zZ⟩
 |.val d::rs,v::vs,α,S,w,x,.cons a n l=>by obtain⟨α',k,b,j,m⟩:=qK w x l;exact⟨α',k,b,j,zS (Den.ex0 b a.1) m⟩
 |.new ds::rs,v::vs,α,S,w,x,.cons a n l=>by
  obtain⟨⟨c,us,rfl,h1,o,q⟩,p⟩:=a;obtain⟨α',k,b,j,m⟩:=qK (w.enter h1 o q) (w.enterx x (p c rfl) o) (l.grow (n ds c rfl rfl));refine⟨α',k,⟨?_,b.tup,b.frz⟩,j,zS (oQ (b.at ?_)) m⟩
  .obtain⟨t,e⟩:=b.pre;exact⟨_,by rw[e,aA]⟩
  .rw[<-w.len,å (à _),sub_self];rfl
theorem vX: ∀(rs:List Er)(S:Sto),(zE rs S).1.length=rs.length
 |[],S=>rfl
 |.val d::rs,S=>by show(d::(zE rs S).1).length=_;rw[lC,vX rs S];rfl
 |.new ds::rs,S=>by show(_::(zE rs _).1).length=_;rw[lC,vX rs _];rfl
end
section
variable{X:Cx}{W:XW}{a b c e:Expr}{es:J8}{f g h:Rho->Sto->R Er}{af:Rho->Sto->R (List Er)}{pos:Pos}
def Rg:EK X W [] (λ_ S=>.ok [] S):=⟨_,Qb,λα ρ S σ H Q a sl q=>q.here a .nil⟩
def Il(m:zP X W a f)(n:EK X W es af)(hs:q9 X a es:=by rfl):EK X W (a::es) (λρ S=>(f ρ S).bind λp S1=>(af ρ S1).bind λps S2=>.ok (p::ps) S2):=by
 obtain⟨ta,m,fa⟩:=m;obtain⟨G,n,w⟩:=n;refine⟨_,Hk m n hs,λα ρ S σ H Q y sl q=>fa α ρ S σ H _ y sl (q.bind λu p S1 r H1 I j D s E=>w r ρ S1 σ H1 _ D (sl.ext j) ?_)⟩;have d:Post X.g W α H _ Q:=E
 cases z:af ρ S1 with
 |ok ps S2=>
  rw[z]at d;intro vs e k i o v;refine d _ e k (j.trans i) o (ArgsE.cons (DenE.ext i s) (λds b B C A=>?_) (ArgsE.back (λb h=>j.free h) v));subst B C;obtain⟨⟨c,us,F,h1,_⟩,_⟩:=s;cases F;have:=ArgsE.nones v _ A;rw[h1]at this;cases this
 |exc c fs S2=>rw[z]at d;exact λe k i o=>d e k (j.trans i) o
 |no=>rw[z]at d;exact d
def jM(rs:List Er)(S:Sto):R Er:=if rs.length<=sizeLine then .ok (.val (.tup (zE rs S).1)) (zE rs S).2 else .no
def wF(rs:List Er)(S:Sto):R Er:=if rs.length<=sizeLine then .ok (.new (zE rs S).1) (zE rs S).2 else .no
def Rh{b}(h:EK X W es af):zP X W (.Tuple es b pos) (λρ S=>(af ρ S).bind jM):=by
 obtain⟨t,h,k⟩:=h;refine⟨_,Qc h,λα ρ S σ H Q d sl q=>k α ρ S σ H _ d sl (q.bind λvs rs S1 o H1 u b i c n=>?_)⟩;have a:Post X.g W α H (if rs.length<=sizeLine then R.ok _ (zE rs S1).2 else R.no) Q:=n;split at a
 .rename_i r;obtain⟨s,m,y2,j,l2⟩:=qK i b c;exact⟨by rw[ArgsE.length c];exact r,λp e=>(a.shift m).newt j e l2⟩
 .exact a.elim
def Ri(h:EK X W es af):zP X W (.List es pos) (λρ S=>(af ρ S).bind wF):=by
 obtain⟨t,h,k⟩:=h;refine⟨_,Qd h,λα ρ S σ H Q c sl q=>k α ρ S σ H _ c sl (q.bind λvs rs S1 o H1 u j e b n=>?_)⟩;have a:Post X.g W α H (if rs.length<=sizeLine then R.ok _ (zE rs S1).2 else R.no) Q:=n;split at a
 .rename_i r;obtain⟨s,m,y2,i,l2⟩:=qK e j b;exact⟨by rw[ArgsE.length b];exact r,λp d=>(a.shift m).newl i d l2⟩
 .exact a.elim
inductive ArgsX(K:J9)(α:B9)(H:Hp):List Er->List V->Prop
 |nil:ArgsX K α H [] []
 |cons {r v rs vs}:DenX K α H r v->ArgsX K α H rs vs->ArgsX K α H (r::rs) (v::vs)
theorem ArgsE.x{K:J9}: ∀{rs vs},ArgsE K H0 α H rs vs->ArgsX K α H rs vs
 |_,_,.nil=>.nil
 |_,_,.cons a _ l=>.cons a.1 (ArgsE.x l)
def sG(X:Cx)(W:XW)(r:List V->Hp->VK->Prop)(F:List Er->Sto->R Er):Prop:= ∀rs vs α S H Q,Wd X.g α S H->ArgsX X.K α H rs vs->Post X.g W α H (F rs S) Q->r vs H Q
def ON{id:String}{r:List V->Hp->VK->Prop}{F:List Er->Sto->R Er}{x:Str}{p:Pos}(n:CallR X (.builtin id) r)(j:sG X W r F)(c:Gl X x)(u:X.mg x=none)(h:bootBuiltins x=some (.builtin id))(a:EK X W (e::es) af)
  (hn:x≠"__name__":=by decide) (hdb:(x==("__debug__":Str))=false:=by decide)
  (he:q9 X e es:=by rfl) (hpl:Q1 X pos es:=by rfl):zP X W (.Call (.Name x p) (e::es) [] pos) (λρ S=>(af ρ S).bind F):=by
 obtain⟨t,a,k⟩:=a;exact⟨_,Av n c u h a hn hdb he hpl,λα ρ S σ H Q d sl q=>k α ρ S σ H _ d sl (q.bind λvs rs S1 b H1 v m i s o=>j rs vs b S1 H1 Q i (ArgsE.x s) (o.shift m))⟩
def eS{T:String}{r:List V->Hp->VK->Prop}{F:List Er->Sto->R Er}{x:Str}{p:Pos}(n:CallR X (.type T) r)(j:sG X W r F)(c:Gl X x)(u:X.mg x=none)(h:bootBuiltins x=some (.type T))(a:EK X W (e::es) af)
  (hn:x≠"__name__":=by decide) (hdb:(x==("__debug__":Str))=false:=by decide)
  (he:q9 X e es:=by rfl) (hpl:Q1 X pos es:=by rfl):zP X W (.Call (.Name x p) (e::es) [] pos) (λρ S=>(af ρ S).bind F):=by
 obtain⟨t,a,k⟩:=a;exact⟨_,XY n c u h a hn hdb he hpl,λα ρ S σ H Q d sl q=>k α ρ S σ H _ d sl (q.bind λvs rs S1 b H1 v m i s o=>j rs vs b S1 H1 Q i (ArgsE.x s) (o.shift m))⟩
def RZ(X:Cx)(W:XW)(r:V->List V->Hp->VK->Prop)(F:Er->List Er->Sto->R Er):Prop:= ∀p rs x vs α S H0 H Q a,Wd X.g α S H->Ext a H0 α H->DenX X.K α H p x->ArgsE X.K H0 α H rs vs->Post X.g W a H0 (F p rs S) Q->r x vs H Q
def TyM(X:Cx)(T:String)(a:Er->Sto->Bool):Prop:= ∀p x α S H,Wd X.g α S H->DenX X.K α H p x->a p S=true->tyV X.K T x H
def UT{T:String}{name:Str}{id:String}{r:V->List V->Hp->VK->Prop}{F:Er->List Er->Sto->R Er}{n:Er->Sto->Bool}{apos:Pos}(y:PlainAttrs T)(c:Slot T name id)(h:typeOf (.builtin id)=pure (.type "method_descriptor"))(C:Hr X id r)(I:RZ X W r F)(B:TyM X T n)
  (i:zP X W a f) (d:EK X W (e::es) af)
  (hbase:attributeBase a name X.env (eval a X.env)=eval a X.env:=by rfl)
  (hfew:((backTo pos (starEach (e::es) X.env)).all (λx=>!x.1)&&(backToKw pos (keywordEach [] X.env)).all (λx=>x.1.isSome)
   &&decide ↑3)=true:=by rfl)
  (hline:(apos.endLine==pos.line)=true:=by rfl) (hs:q9 X e es:=by rfl) (hplain:Q1 X pos es:=by rfl):
  zP X W (.Call (.Attribute a name apos) (e::es) [] pos) (λρ S=>(f ρ S).bind λp S1=>if n p S1=true then(af ρ S1).bind λrs S2=>F p rs S2 else .no):=by
 obtain⟨to,i,E⟩:=i;obtain⟨t,d,k⟩:=d;refine⟨_,Ya y c h C i d hbase hfew hline hs hplain,λα ρ S σ H Q A sl q=>E α ρ S σ H _ A sl (q.bind λu p S1 b H1 L v s w j=>?_)⟩;split at j
 .rename_i J;exact⟨B p u b S1 H1 s w.1 J,k b ρ S1 σ H1 _ s (sl.ext v) ((j.shift v).bind λvs rs S2 m z M o G K D=>I p rs u vs m S2 H1 z Q b G o (w.1.ext o) K D)⟩
 .exact j.elim
def Im:Ih X W none (λ_ S=>.ok none S):=⟨_,Hn,λα ρ S σ H Q a sl q=>q.here a rfl⟩
noncomputable def UU:Er->Sto->R (Option Int)
 |.val (.int i),S=>.ok (some i) S
 |_,_=>.no
def Io(c:zP X W a f):Ih X W (some a) (λρ S=>(f ρ S).bind UU):=by
 obtain⟨ta,c,fa⟩:=c;refine⟨_,Ho c,λα ρ S σ H Q d sl q=>fa α ρ S σ H _ d sl (q.bind λu p S1 i H1 k h e j b=>?_)⟩;unfold UU at b;split at b
 .exact⟨_,yV j.1,(b.shift h).here e rfl⟩
 .exact b.elim
def Sl3(X:Cx)(W:XW)(r:V->Option Int->Option Int->Hp->VK->Prop)(F:Er->Option Int->Option Int->Sto->R Er):Prop:= ∀p lo hi x α S H Q,Wd X.g α S H->DenX X.K α H p x->Post X.g W α H (F p lo hi S) Q->r x lo hi H Q
def Bo{lo hi:Option Expr}{r:V->Option Int->Option Int->Hp->VK->Prop}{F:Er->Option Int->Option Int->Sto->R Er}{lf n:Rho->Sto->R (Option Int)}{p2:Pos}(z:SlR X r)(K:Sl3 X W r F)(b:zP X W a f)(e:Ih X W lo lf)(c:Ih X W hi n):
  zP X W (.Subscript a (.Slice lo hi none p2) pos) (λρ S=>(f ρ S).bind λp S1=>(lf ρ S1).bind λl S2=>(n ρ S2).bind λu S3=>F p l u S3):=by
 obtain⟨ta,b,fa⟩:=b;obtain⟨tl,e,G⟩:=e;obtain⟨th,c,C⟩:=c
 refine⟨_,Ax z b e c,λα ρ S σ H Q w sl q=>fa α ρ S σ H _ w sl (q.bind λu p S1 j H1 T i I M L=>G j ρ S1 σ H1 _ I (sl.ext i) ((L.shift i).bind λv l S2 k s U h J N A=>
  C k ρ S2 σ s _ J ((sl.ext i).ext h) ((A.shift h).bind λE m S3 d y P o O B D=>?_)))⟩
 cases N;cases B;exact K p v E u d S3 y Q O ((M.1.ext h).ext o) (D.shift o)
end
inductive Fl where
 |next (ρ:Rho)|ret (r:Er)|brk (ρ:Rho)|cont (ρ:Rho)
abbrev AX:=Rho->Sto->R Er
abbrev AY:=Rho->Sto->R Fl
abbrev AZ:=Rho->Sto->R Bool
def PostS(g:Gm)(W:XW)(α:B9)(H:Hp)(D:Ends):R Fl->Prop
 |.ok (.next ρ) S=> ∀σ α' H',Ext α H α' H'->Wd g α' S H'->Slots g.K α' H' ρ σ->D.nx σ H'
 |.ok (.ret r) S=> ∀v α' H',Ext α H α' H'->Wd g α' S H'->DenE g.K H α' H' r v->D.rt v H'
 |.ok (.brk ρ) S=> ∀σ α' H',Ext α H α' H'->Wd g α' S H'->Slots g.K α' H' ρ σ->D.bk σ H'
 |.ok (.cont ρ) S=> ∀σ α' H',Ext α H α' H'->Wd g α' S H'->Slots g.K α' H' ρ σ->D.ct σ H'
 |.exc c fs S=> ∀α' H',Ext α H α' H'->Wd g α' S H'->W c fs S α' H'
 |.no=>False
section
variable{g:Gm}{W:XW}{α α':B9}{H H':Hp}{D D':Ends}
def PostS.shift(x:Ext α H α' H'): ∀{m:R Fl},PostS g W α H D m->PostS g W α' H' D m
 |.ok (.next ρ) S,q=>λσ a e d i j=>q σ a e (x.trans d) i j
 |.ok (.ret r) S,q=>λv a e d i k=>q v a e (x.trans d) i (k.back λb h=>x.free h)
 |.ok (.brk ρ) S,q=>λσ a e d i j=>q σ a e (x.trans d) i j
 |.ok (.cont ρ) S,q=>λσ a e d i j=>q σ a e (x.trans d) i j
 |.exc c fs S,q=>λa e d i=>q a e (x.trans d) i
 |.no,q=>q
def PostS.expr[Dn β τ]{m:R β}{k:β->Sto->R Fl}{e:τ->Hp->Prop}(q:PostS g W α H D (m.bind k))
  (f: ∀u b S1 a H1,m=.ok b S1->Ext α H a H1->Wd g a S1 H1->Dn.d g H a S1 H1 b u->PostS g W α H D (k b S1)->e u H1):Post g W α H m e:=by
 cases m with
 |ok b S=>exact λu a H1 x w d=>f u b S a H1 rfl x w d q
 |exc c fs S=>exact q
 |no=>exact q
def PostS.stmt{m:R Fl}{k:Fl->Sto->R Fl}(q:PostS g W α H D (m.bind k))
  (hn: ∀ρ S σ a H1,m=.ok (.next ρ) S->Ext α H a H1->Wd g a S H1->Slots g.K a H1 ρ σ->PostS g W α H D (k (.next ρ) S)->D'.nx σ H1)
  (hr: ∀r S v a H1,m=.ok (.ret r) S->Ext α H a H1->Wd g a S H1->DenE g.K H a H1 r v->PostS g W α H D (k (.ret r) S)->D'.rt v H1)
  (hb: ∀ρ S σ a H1,m=.ok (.brk ρ) S->Ext α H a H1->Wd g a S H1->Slots g.K a H1 ρ σ->PostS g W α H D (k (.brk ρ) S)->D'.bk σ H1)
  (hc: ∀ρ S σ a H1,m=.ok (.cont ρ) S->Ext α H a H1->Wd g a S H1->Slots g.K a H1 ρ σ->PostS g W α H D (k (.cont ρ) S)->D'.ct σ H1):PostS g W α H D' m:=by
 cases m with
 |ok fl S=>
  cases fl with
  |next ρ=>exact λσ a H1 x w s=>hn ρ S σ a H1 rfl x w s q
  |ret r=>exact λv a H1 x w d=>hr r S v a H1 rfl x w d q
  |brk ρ=>exact λσ a H1 x w s=>hb ρ S σ a H1 rfl x w s q
  |cont ρ=>exact λσ a H1 x w s=>hc ρ S σ a H1 rfl x w s q
 |exc c fs S=>exact q
 |no=>exact q
end
def OO(X:Cx)(W:XW)(st:Stmt)(F:AY):Prop:=
 ∃t,PS X st t/\ ∀α ρ S σ H D,Wd X.g α S H->Slots X.K α H ρ σ->PostS X.g W α H D (F ρ S)->t D σ H
def vY(X:Cx)(W:XW)(st:List Stmt)(F:AY):Prop:=
 ∃t,PSs X st t/\ ∀α ρ S σ H D,Wd X.g α S H->Slots X.K α H ρ σ->PostS X.g W α H D (F ρ S)->t D σ H
noncomputable def zI(F G:AY):AY:=λρ S=>(F ρ S).bind λa S1=>match a with
 |.next ρ'=>G ρ' S1
 |.ret r=>.ok (.ret r) S1
 |.brk ρ'=>.ok (.brk ρ') S1
 |.cont ρ'=>.ok (.cont ρ') S1
section
variable{X:Cx}{W:XW}{st:Stmt}{sts as bs:List Stmt}{F G:AY}{f g:AX}{tf:AZ}{e c:Expr}{pos:Pos}
def Rj:vY X W [] (λρ S=>.ok (.next ρ) S):=⟨_,Ha,λα ρ S σ H D a sl q=>q σ α H (Ext.refl α H) a sl⟩
def SC(h:OO X W st F):vY X W [st] F:=let ⟨t,h,k⟩:=h;⟨t,Hb h,k⟩
def KN(h1:OO X W st F)(j:vY X W sts G):vY X W (st::sts) (zI F G):=by
 obtain⟨t,h1,k1⟩:=h1;obtain⟨u,j,k2⟩:=j;refine⟨_,An h1 j,λα ρ S σ H D k sl q=>k1 α ρ S σ H _ k sl (q.stmt ?_ ?_ ?_ ?_)⟩
 .intro ρ1 S1 b a H1 e d c i h;exact k2 a ρ1 S1 b H1 D c i (PostS.shift d h)
 .intro r S1 v a H1 e d c m h;exact h v a H1 d c m
 .intro ρ1 S1 b a H1 e d c i h;exact h b a H1 d c i
 .intro ρ1 S1 b a H1 e d c i h;exact h b a H1 d c i
def Rk(b:zP X W e f):OO X W (.Return (some e) pos) (λρ S=>(f ρ S).bind λr S1=>.ok (.ret r) S1):=by obtain⟨t,b,k⟩:=b;exact⟨_,Pl b,λα ρ S σ H D c sl q=>k α ρ S σ H _ c sl (q.expr λu r S1 a H1 e h d j i=>i u a H1 h d j)⟩
def Ip(b:zP X W e f)(hs:swapsWith e none pos.line X.env=pure false:=by rfl):OO X W (.Expr e pos) (λρ S=>(f ρ S).bind λ_ S1=>.ok (.next ρ) S1):=by obtain⟨t,b,k⟩:=b;exact⟨_,Hc b hs,λα ρ S σ H D d sl q=>k α ρ S σ H _ d sl (q.expr λu r S1 a H1 e c h j i=>i σ a H1 c h (sl.ext c))⟩
def Yk(j:tW X W c tf)(h:vY X W as F)(i:vY X W bs G):OO X W (.If c as bs pos) (λρ S=>(tf ρ S).bind λk S1=>if k=true then F ρ S1 else G ρ S1):=by
 obtain⟨w,j,n⟩:=j;obtain⟨ta,h,o⟩:=h;obtain⟨tb,i,v⟩:=i;refine⟨_,Xg j h i,λα ρ S σ H D r sl q=>n α ρ S σ H _ r sl (q.expr λu p S1 a H1 e b m s d=>?_)⟩;cases s
 cases u with
 |true=>rw[iP rfl]at d ⊢; exact o a ρ S1 σ H1 D m (sl.ext b) (PostS.shift b d)
 |false=>rw[iN xF0]at d ⊢; exact v a ρ S1 σ H1 D m (sl.ext b) (PostS.shift b d)
instance:Dn Rho St:=⟨λg _ α' _ H' ρ σ=>Slots g.K α' H' ρ σ,λ_ q=>q⟩
def YI(X:Cx)(W:XW)(tg:Expr)(gf:MV->Rho->Sto->R Rho):Prop:=
 ∃t,PG X tg t/\ ∀α ρ S σ H d v Q,Wd X.g α S H->Slots X.K α H ρ σ->Den X.K α H d v->Post X.g W α H (gf d ρ S) Q->t v σ H Q
def Bp(X:Cx)(W:XW)(a:J8)(gf:List MV->Rho->Sto->R Rho):Prop:=
 ∃t,Wo X a t/\ ∀α ρ S σ H ds vs Q,Wd X.g α S H->Slots X.K α H ρ σ->DenL X.K α H ds vs->Post X.g W α H (gf ds ρ S) Q->t vs σ H Q
noncomputable def yD(i:Nat):MV->Rho->Sto->R Rho:=λd ρ S=>.ok (ρ.set i (some d)) S
def Iq(i:Nat){x:Str}(e:X.N.Nodup)(hi:X.N[i]? =some x:=by rfl)(h:Loc X.env.scope x:=by first |exact Or.inl rfl|exact Or.inr rfl)(b:Q2 X x:=by first |exact .inl rfl|exact .inr rfl|assumption):
  YI X W (.Name x pos) (yD i):=⟨_,UK e hi h b,λα ρ S σ H d v Q c sl a q=>Post.here q c (sl.set a)⟩
noncomputable def yL:List MV->Rho->Sto->R Rho
 |[],ρ,S=>.ok ρ S
 |_,_,_=>.no
noncomputable def zC(a:MV->Rho->Sto->R Rho)(g2:List MV->Rho->Sto->R Rho):List MV->Rho->Sto->R Rho
 |d::ds,ρ,S=>(a d ρ S).bind λρ1 S1=>g2 ds ρ1 S1
 |_,_,_=>.no
def Rl:Bp X W [] yL:=⟨_,UL,λα ρ S σ H ds vs Q b sl a q=>by
 cases ds with
 |nil=>exact⟨a.isnil,Post.here q b sl⟩
 |cons d ds=>exact q.elim⟩
def Ir{h:MV->Rho->Sto->R Rho}(h1:YI X W e h)(c:Bp X W es g2)(hs:(assignEach (e::es) X.env).map (·.2)=assign e X.env::(assignEach es X.env).map (·.2):=by rfl):Bp X W (e::es) (zC h g2):=by
 obtain⟨s,h1,k1⟩:=h1;obtain⟨w,c,k2⟩:=c;refine⟨_,OC h1 c hs,λα ρ S σ H ds vs Q j sl k q=>?_⟩
 cases ds with
 |nil=>exact q.elim
 |cons d ds=>
  obtain⟨v,r,rfl,a,l⟩:=k.uncons;refine⟨v,r,rfl,k1 α ρ S σ H d v _ j sl a (Post.bind q λu p S1 b H1 e i m o n=>k2 b p S1 u H1 ds r Q m o (l.ext i) (n.shift i))⟩
noncomputable def oR(n:Nat)(g2:List MV->Rho->Sto->R Rho):MV->Rho->Sto->R Rho
 |.tup ds,ρ,S=>if ds.length=n then g2 ds ρ S else .no
 |_,_,_=>.no
def Rm{k n:Nat}(c:X.calm=true)(h:Bp X W es g2)
  (hn:(assignEach es X.env).length=n:=by rfl) (hst:(assignEach es X.env).findIdx? (·.1)=none:=by rfl):YI X W (.Tuple es k pos) (oR n g2):=by
 obtain⟨t,h,k⟩:=h;refine⟨_,Ap c h hn hst,λα ρ S σ H d v Q b sl i q=>?_⟩;unfold oR at q;split at q
 .split at q
  .rename_i e;obtain⟨a,vs,rfl,s,l⟩:=yR i;exact⟨a,vs,rfl,s,by rw[l.length];exact e,k α ρ S σ H _ vs Q b sl l q⟩
  .exact q.elim
 .exact q.elim
noncomputable def kC(r:Er)(S:Sto):R MV:=match r with
 |.val d=>.ok d S
 |.new ds=>.ok (.loc S.length) (S++[.lst ds])
def cM{g:Gm}{a:B9}{r:Er}(w:Wd g α S H)(x:Ext a H0 α H)(d:DenE g.K H0 α H r v):
  ∃b S' α',kC r S=.ok b S'/\Ext a H0 α' H/\Ex0 α H α' H/\Wd g α' S' H/\Den g.K α' H b v:=by
 cases r with
 |val b=>exact⟨b,S,α,rfl,x,⟨⟨[],by simp⟩,λ_ _ h=>h,λ_ _ _ h=>h⟩,w,d.1⟩
 |new ds=>
  obtain⟨⟨c,us,rfl,h1,e,j⟩,i⟩:=d;exact⟨_,_,_,rfl,w.enterx x (i c rfl) e,Ex0.grow α [c] H,w.enter h1 e j,oQ (by rw[<-w.len,å (à _),sub_self];rfl)⟩
def EM(ρ:Rho)(i:Nat)(r:Er)(S:Sto):R Fl:=(kC r S).bind λd S1=>.ok (.next (ρ.set i (some d))) S1
def Ro(i:Nat){x:Str}{a:Pos}(y:X.N.Nodup)(c:zP X W e f)(hi:X.N[i]? =some x:=by rfl)(p:Loc X.env.scope x:=by first |exact Or.inl rfl|exact Or.inr rfl)
  (hs:swapsWith e (some (.Name x a)) pos.line X.env=pure false:=by rfl) (hf:Q2 X x:=by first |exact .inl rfl|exact .inr rfl|assumption):
  OO X W (.Assign [.Name x a] e pos) (λρ S=>(f ρ S).bind (EM ρ i)):=by
 obtain⟨t,c,k⟩:=c;refine⟨_,Pp y hi p c hs hf,λα ρ S σ H D m sl q=>k α ρ S σ H _ m sl (q.expr λu r S1 v H1 e d o w b=>?_)⟩;obtain⟨A,S',α',n,j,z,h,s⟩:=cM o d w;unfold EM at b;rw[n]at b;exact b _ α' H1 j h (((sl.ext d).ex0 z).set s)
def Iu(gf:MV->Rho->Sto->R Rho)(ρ:Rho)(r:Er)(S:Sto):R Fl:=(kC r S).bind λd S1=>(gf d ρ S1).bind λρ' S2=>.ok (.next ρ') S2
def Rp(c:zP X W e f)(b:YI X W tg gf)(hs:swapsWithSole [tg] e pos.line X.env=pure false:=by rfl)(hw:swappedStores [tg] e X.env=pure none:=by rfl)
  (h1:(assignEach [tg] X.env).map (·.2)=[assign tg X.env]:=by rfl):OO X W (.Assign [tg] e pos) (λρ S=>(f ρ S).bind (Iu gf ρ)):=by
 obtain⟨t,c,k⟩:=c;obtain⟨v,b,I⟩:=b;refine⟨_,Po c b hs hw h1,λα ρ S σ H D p sl q=>k α ρ S σ H _ p sl (q.expr λu r S1 E H1 e j A G a=>?_)⟩;obtain⟨i,S',α',z,o,F,n,w⟩:=cM A j G;unfold Iu at a;rw[z]at a;have a:PostS X.g W α H D ((gf i ρ S').bind λρ' S2=>.ok _ S2):=a;exact I α' ρ S' σ H1 i u _ n ((sl.ext j).ex0 F) w ((PostS.shift o a).expr λd J S2 h m K s B C y=>y d h m s B C)
structure Wk where
 ds:List MV
 gs:List (Nat×List MV)
def stay(gs:K5)(S:Sto):Prop:= ∀p∈gs,S[p.1]? =some (.lst p.2)
def Yl(g:Gm)(J:It)(P:List Addr->Sto->Hp->Prop)(ds:K1):Prop:= ∀i α S H,P α S H->Wd g α S H->(i<ds.length->J.go i H/\ ∀x H',J.yld i H x H'->Ext α H α H'/\Wd g α S H'/\P α S H'/\ ∃d,ds[i]? =some d/\Den g.K α H' d x)/\(ds.length<=i->J.stop i H)
structure WkD(g:Gm)(α:B9)(S:Sto)(H:Hp)(k:Wk)(J:It)(P:List Addr->Sto->Hp->Prop):Prop where
 it:Yl g J P k.ds
 here:P α S H
 stays: ∀α1 S1 H1 α2 S2 H2,P α1 S1 H1->Ext α1 H1 α2 H2->Wd g α2 S2 H2->stay k.gs S2->P α2 S2 H2
 st:stay k.gs S
instance:Dn Wk It:=⟨λg _ α S H k J=> ∃P,WkD g α S H k J P,λ_ q=>q⟩
abbrev GT(X:Cx)(W:XW)(tg iter:Expr)(f:Rho->Sto->R Wk):Prop:=Jd X W (PI X tg iter) f
variable{tg iter:Expr}
theorem uE{a:Addr}{ds:K1}:Yl X.g (E3 X.K a) (λα S H=> ∃vs,SqL X.K H a vs/\DenL X.K α H ds vs) ds:=by
 intro i α S H ⟨vs,s,l⟩ w;have e:=l.length;refine⟨λhi=>?_,λhi=>⟨vs,s,by lia⟩⟩;have b:i<vs.length:=by lia
 refine⟨⟨vs,_,s,gE b⟩,λx H' y=>?_⟩;obtain⟨rfl,y⟩:=y;obtain⟨d,h1,c⟩:=l.get (y vs s);exact⟨Ext.refl _ _,w,⟨vs,s,l⟩,d,h1,c⟩
theorem UV{a:Addr}{ds:K1}:Yl X.g (E4 X.K a) (λα S H=> ∃vs,SqT X.K H a vs/\DenL X.K α H ds vs) ds:=by
 intro i α S H ⟨vs,s,l⟩ w;have e:=l.length;refine⟨λhi=>?_,λhi=>⟨vs,s,by lia⟩⟩;have b:i<vs.length:=by lia
 refine⟨⟨vs,_,s,gE b⟩,λx H' y=>?_⟩;obtain⟨rfl,y⟩:=y;obtain⟨d,h1,c⟩:=l.get (y vs s);exact⟨Ext.refl _ _,w,⟨vs,s,l⟩,d,h1,c⟩
def Iv{x:Db}:Yl X.g (Yd x) (λ_ _ _=>True) (x.map λc=>.str [c]):=by intro i α S H _ w;refine⟨λhi=>⟨show i<x.length by simpa using hi,λv H' y=>?_⟩,λhi=>by show x.length<=i;simpa using hi⟩;obtain⟨rfl,c,h1,a⟩:=y;refine⟨Ext.refl _ _,w,trivial,.str [c],by rw[ö,h1];rfl,?_⟩;rw[a];exact iU [c]
def YJ{lo:Int}{n:Nat}:Yl X.g (E5 lo n) (λ_ _ _=>True) ((List.range n).map λk=>.int (lo+(k:Nat))):=by
 intro i α S H _ w;refine⟨λhi=>⟨show i<n by simpa using hi,λv H' y=>?_⟩,λhi=>by show n<=i;simpa using hi⟩;obtain⟨rfl,y⟩:=y;have a:=by simpa using hi
 refine⟨Ext.refl _ _,w,trivial,_,by rw[ö,List.getElem?_range a];rfl,?_⟩;rw[y];exact wL _
noncomputable def CY:Er->Sto->R Wk
 |.new ds,S=>.ok ⟨ds,[]⟩ S
 |.val (.scr ds),S=>.ok ⟨ds,[]⟩ S
 |.val (.loc l),S=>match S[l]? with
  |some (.lst ds)=>.ok ⟨ds,[(l,ds)]⟩ S
  |_=>.no
 |_,_=>.no
def jN:stay [] S:=λp h=>by simp at h
def Iw(M:zP X W iter f):GT X W tg iter (λρ S=>(f ρ S).bind CY):=by
 obtain⟨t,M,k⟩:=M;refine⟨_,He M,λα ρ S σ H Rc Z sl q=>k α ρ S σ H _ Z sl (q.bind λu p S1 aa H1 e x1 J L w=>?_)⟩
 replace w:=w.shift x1
 unfold CY at w;split at w
 .rename_i T ds;obtain⟨⟨b,vs,rfl,h1,O,I⟩,h4⟩:=L;refine⟨b,rfl,⟨vs,.of h1⟩,w.here J ⟨λd S2 m=> ∃vs,SqL X.K m b vs/\DenL X.K d m ds vs/\m b=some (.lst vs)/\b∉d,?_,⟨vs,.of h1,I,h1,O⟩,?_,jN⟩⟩
  .intro i d S2 m ⟨j,z,v,r,F⟩ G;obtain⟨i1,i2⟩:=uE i d S2 m ⟨j,z,v⟩ G;refine⟨λhi=>⟨(i1 hi).1,λx H' y=>?_⟩,i2⟩;obtain⟨B,D,U,C⟩:=(i1 hi).2 x H' y;obtain⟨rfl,_⟩:=y;exact⟨B,D,⟨j,z,v,r,F⟩,C⟩
  .intro d S2 m A S3 Q ⟨j,z,v,r,F⟩ x P _;exact⟨j,.of (x.keep b _ r F),v.ext x,x.keep b _ r F,x.out r F⟩
 .rename_i T ds;obtain⟨a,vs,rfl,s,l⟩:=EI L.1;refine⟨a,rfl,⟨vs,s.l⟩,w.here J ⟨λd S2 m=> ∃vs,SqL X.K m a vs/\DenL X.K d m ds vs/\SqF X.K m a vs,?_,⟨vs,s.l,l,s⟩,?_,jN⟩⟩
  .intro i d S2 m ⟨j,z,v,r⟩ G;obtain⟨i1,i2⟩:=uE i d S2 m ⟨j,z,v⟩ G;refine⟨λhi=>⟨(i1 hi).1,λx H' y=>?_⟩,i2⟩;obtain⟨B,D,U,C⟩:=(i1 hi).2 x H' y;obtain⟨rfl,_⟩:=y;exact⟨B,D,⟨j,z,v,r⟩,C⟩
  .intro d S2 m A S3 Q ⟨j,z,v,r⟩ x P _;exact⟨j,(x.sqF r).l,v.ext x,x.sqF r⟩
 .rename_i T n;obtain⟨a,rfl,h⟩:=fB L.1;obtain⟨o,h1,O⟩:=J.of h;rw[h1]at w
  cases o with
  |lst ds=>
   obtain⟨vs,I,l⟩:=O;refine⟨a,rfl,⟨vs,.of I⟩,Post.here w J ⟨λd S2 m=> ∃vs,SqL X.K m a vs/\DenL X.K d m ds vs/\d[n]? =some a,?_,⟨vs,.of I,l,h⟩,?_,?_⟩⟩
   .intro i d S2 m ⟨j,z,v,r⟩ G;obtain⟨i1,i2⟩:=uE i d S2 m ⟨j,z,v⟩ G;refine⟨λhi=>⟨(i1 hi).1,λx H' y=>?_⟩,i2⟩;obtain⟨B,D,U,C⟩:=(i1 hi).2 x H' y;obtain⟨rfl,_⟩:=y;exact⟨B,D,⟨j,z,v,r⟩,C⟩
   .intro d S2 m A S3 Q ⟨j,z,v,r⟩ x P hs;have E:=x.at r;have:=P.obj n a _ E (hs (n,ds) (by simp));obtain⟨N,Y,b2⟩:=this;exact⟨N,.of Y,b2,E⟩
   .intro p hp;have:p=(n,ds):=by simpa using hp
    subst this;exact h1
  |dic ds=>exact w.elim
  |ins c fs=>exact w.elim
  |rcd c fs=>exact w.elim
  |fdc _=>exact w.elim
 .exact w.elim
noncomputable def Aj:Er->Sto->R Wk
 |.val (.tup ds),S=>.ok ⟨ds,[]⟩ S
 |_,_=>.no
def Rq(c:zP X W iter f):GT X W tg iter (λρ S=>(f ρ S).bind Aj):=by
 obtain⟨t,c,k⟩:=c;refine⟨_,Pr c,λα ρ S σ H B h sl q=>k α ρ S σ H _ h sl (q.bind λu p S1 r H1 e o n w b=>?_)⟩
 replace b:=b.shift o
 unfold Aj at b;split at b
 .rename_i A ds;obtain⟨a,vs,rfl,s,l⟩:=nR w.1;exact⟨a,rfl,⟨vs,s⟩,b.here n ⟨_,UV,⟨vs,s,l⟩,λv S2 y i S3 z ⟨d,j,m⟩ x C _=>⟨d,x.sqT j,m.ext x⟩,jN⟩⟩
 .exact b.elim
noncomputable def Ym:Er->Sto->R Wk
 |.val (.str x),S=>.ok ⟨x.map λc=>.str [c],[]⟩ S
 |_,_=>.no
def Rr(b:zP X W iter f):GT X W tg iter (λρ S=>(f ρ S).bind Ym):=by
 obtain⟨t,b,k⟩:=b;refine⟨_,Qp b,λα ρ S σ H m c sl q=>k α ρ S σ H _ c sl (q.bind λu p S1 i H1 e h d j a=>?_)⟩
 replace a:=a.shift h
 unfold Ym at a;split at a
 .rename_i n x;exact⟨x,cL j.1,a.here (u:=Yd x) d ⟨_,Iv,trivial,λ_ _ _ _ _ _ _ _ _ _=>trivial,jN⟩⟩
 .exact a.elim
noncomputable def fC:List Er->Sto->R Wk
 |[.val (.int j)],S=>if -(2 ^ 62)<=j/\j<2 ^ 62 then .ok ⟨(List.range j.toNat).map λk=>.int (k:Nat),[]⟩ S else .no
 |_,_=>.no
variable{af:Rho->Sto->R (List Er)}{p:Pos}{a:Expr}
def OP{K:J9}{r:Er}{vs:List V}(d:ArgsE K H0 α H [r] vs): ∃v,vs=[v]/\DenX K α H r v:=by
 cases d with
 |cons a n l=>cases l;exact⟨_,rfl,a.1⟩
def Ob{K:J9}{r b:Er}{vs:List V}(d:ArgsE K H0 α H [r,b] vs): ∃v u,vs=[v,u]/\DenX K α H r v/\DenX K α H b u:=by
 cases d with
 |cons a n l=>obtain⟨u,rfl,c⟩:=OP l;exact⟨_,u,rfl,a.1,c⟩
def YK(h:Gl X "range")(w:X.mg "range"=none)(c:EK X W [a] af)(hs:starEach [a] X.env=[(false,eval a X.env)]:=by rfl):GT X W tg (.Call (.Name "range" p) [a] [] pos) (λρ S=>(af ρ S).bind fC):=by
 obtain⟨t,c,k⟩:=c;refine⟨_,XR h w c hs,λα ρ S σ H y i sl q=>k α ρ S σ H _ i sl (q.bind λvs rs S1 s H1 e o m u b=>?_)⟩
 replace b:=b.shift o
 unfold fC at b;split at b
 .split at b
  .rename_i z j d;obtain⟨v,rfl,r⟩:=OP u;cases yV r;have:=YJ (X:=X) (lo:=0) (n:=j.toNat);simp only[Int.zero_add]at this;exact⟨j,rfl,d.1,d.2,b.here m ⟨_,this,trivial,λ_ _ _ _ _ _ _ _ _ _=>trivial,jN⟩⟩
  .exact b.elim
 .exact b.elim
open Classical in
noncomputable def wK(gf:MV->Rho->Sto->R Rho)(body:AY)(gs:K5):List MV->AY
 |[],ρ,S=>.ok (.next ρ) S
 |d::ds,ρ,S=>(gf d ρ S).bind λa c=>(body a c).bind λb S1=>match b with
  |.next ρ'=>if stay gs S1 then wK gf body gs ds ρ' S1 else .no
  |.cont ρ'=>if stay gs S1 then wK gf body gs ds ρ' S1 else .no
  |.brk ρ'=>.ok (.next ρ') S1
  |.ret r=>.ok (.ret r) S1
open Classical in
def Rt{Y:Rho->Sto->R Wk}(hp:PassesOwn (model X.prog X.w) X.A X.env X.xe)(hc:X.calm=true)(hi:GT X W tg iter Y)(hg:YI X W tg gf)(hb:vY X W as F)
  (hs: ∀y,foldedSetIterable iter X.env y=pure y:=by intro _;rfl):OO X W (.For tg iter as [] pos) (λρ S=>(Y ρ S).bind λk S1=>wK gf F k.gs k.ds ρ S1):=by
 obtain⟨wi,hi,ki⟩:=hi;obtain⟨ag,hg,kg⟩:=hg;obtain⟨tb,hb,kb⟩:=hb;refine⟨_,Ps hp hc hi hg hb hs,λα ρ S σ H D wd sl q=>ki α ρ S σ H _ wd sl (q.expr λJ k S1 ae H1 e x1 w1 d1 q1=>?_)⟩;obtain⟨P,hP⟩:=d1;have ab:=sl.ext x1
 replace q1:=PostS.shift x1 q1
 refine⟨λn m u M=>m=k.ds.length - n/\n<=k.ds.length/\ ∃b C S2,Wd X.g b S2 M/\Slots X.K b M C u/\P b S2 M/\PostS X.g W b M D (wK gf F k.gs (k.ds.drop n) C S2),⟨_,rfl,zero_le _,ae,ρ,S1,w1,ab,hP.here,by simpa using q1⟩,?_⟩;rintro n m u M ⟨rfl,hn,b,C,S2,w2,T,p2,O⟩;obtain⟨i1,i2⟩:=hP.it n b S2 M p2 w2;by_cases B:n<k.ds.length
 .obtain⟨go,yl⟩:=i1 B;refine .inr ⟨go,λU s=> ∃i z S3,Wd X.g i S3 s/\Slots X.K i s z U/\P i S3 s/\PostS X.g W i s D (wK gf F k.gs (k.ds.drop (n+1)) z S3),λU s ⟨i,z,S3,h3⟩=>⟨k.ds.length - (n+1),by omega,rfl,B,i,z,S3,h3⟩,λv s y=>?_⟩;obtain⟨x3,w3,p3,d,hd,dv⟩:=yl v s y;have L:k.ds.drop n=d::k.ds.drop (n+1):=by rw[Ħ B];have:=gE B;rw[hd]at this;rw[<-ä this]
  rw[L]at O;unfold wK at O
  replace O:=PostS.shift x3 O
  refine kg b C S2 u s d v _ w3 (T.ext x3) dv (O.expr λaf aa S4 E Z e4 x4 w4 s4 q4=>?_);have p4: ∀a c H5,Ext E Z a H5->Wd X.g a c H5->stay k.gs c->P a c H5:=λa c H5 o p Q=>hP.stays b S2 s a c H5 p3 (x4.trans o) p Q;refine kb E aa S4 af Z _ w4 s4 ((PostS.shift x4 q4).stmt ?_ ?_ ?_ ?_)
  .intro j c N a H5 e5 o p Q I;have h:PostS X.g W E Z D (if stay k.gs c then wK gf F k.gs (k.ds.drop (n+1)) j c else .no):=I;split at h
   .rename_i G;exact⟨a,j,c,p,Q,p4 a c H5 o p G,PostS.shift o h⟩
   .exact h.elim
  .intro r c v5 a H5 e5 o p d5 I;exact I v5 a H5 o p d5
  .intro j c N a H5 e5 o p Q I;exact I N a H5 o p Q
  .intro j c N a H5 e5 o p Q I;have h:PostS X.g W E Z D (if stay k.gs c then wK gf F k.gs (k.ds.drop (n+1)) j c else .no):=I;split at h
   .rename_i G;exact⟨a,j,c,p,Q,p4 a c H5 o p G,PostS.shift o h⟩
   .exact h.elim
 .have e:n=k.ds.length:=by omega
  subst e;refine .inl ⟨i2 (à _),?_⟩;rw[List.drop_length]at O;exact O u b M (Ext.refl _ _) w2 T
end
noncomputable def noX:R β->R β
 |.ok b S=>.ok b S
 |_=>.no
theorem yM(b:β)(S:Sto):noX (R.ok b S)=.ok b S:=rfl
def Post.bindY{υ:Type}[Dn β τ][Dn γ υ]{g:Gm}{W:XW}(x:Ext α H α' H'){m:R β}{k:β->Sto->R γ}{Q:υ->Hp->Prop}{e:τ->Hp->Prop}(q:Post g W α H ((noX m).bind k) Q)
  (f: ∀u b S1 a H1,m=.ok b S1->Ext α' H' a H1->Wd g a S1 H1->Dn.d g H' a S1 H1 b u->Post g W α H (k b S1) Q->e u H1):Post g W0 α' H' m e:=by
 cases m with
 |ok b S=>exact λu a H1 x w d=>f u b S a H1 rfl x w d q
 |exc c fs S=>exact q.elim
 |no=>exact q
theorem R.bind_assoc{a:Type}(m:R β)(k1:β->Sto->R γ)(k2:γ->Sto->R a):(m.bind k1).bind k2=m.bind λb S=>(k1 b S).bind k2:=by cases m<;>rfl
noncomputable def rW(nt:Nat)(idx:Db)(ρ:Rho):Rho:=List.replicate nt none++idx.map λi=>(ρ[i]?).join
open Classical in
def zX(gf:MV->Rho->Sto->R Rho)(cf:AZ)(ef:AX)(ρb:Rho)(gs:K5):List MV->Sto->R (List MV)
 |[],S=>.ok [] S
 |d::ds,S=>(noX (gf d ρb S)).bind λρ1 a=>(noX (cf ρ1 a)).bind λk S1=>
  if k=true then(noX (ef ρ1 S1)).bind λr S2=>(kC r S2).bind λy S3=>if stay gs S3 then(zX gf cf ef ρb gs ds S3).bind λout b=>.ok (y::out) b else .no
  else if stay gs S1 then zX gf cf ef ρb gs ds S1 else .no
theorem YL{K:J9}(q:Slots K α H ρ σ)(nt:Nat)(idx:Db)(τ:St)(a:τ.length=nt):Slots K α H (rW nt idx ρ) (τ++vU σ idx):=by
 refine⟨by unfold rW;rw[lA,lA,iT,lM,Ċ,a],λi d e=>?_⟩;unfold rW at e;by_cases hi:i<nt
 .rw[á (by rw[Ċ];exact hi),List.getElem?_replicate]at e;split at e<;>cases e
 .rw[å (by rw[Ċ];lia),Ċ,ö]at e
  cases z:idx[i - nt]? with
  |none=>rw[z]at e;cases e
  |some k=>
   rw[z]at e;have b:(ρ[k]?).join=some d:=ä e
   cases c:ρ[k]? with
   |none=>rw[c]at b;cases b
   |some o=>
    rw[c]at b;have j:=b;subst j;obtain⟨v,h1,h⟩:=q.slot k d c;refine⟨v,?_,h⟩;rw[å #[0],a];unfold vU;rw[ö,z];show some (σ[k]?).join=some _;rw[h1];rfl
def Keeps(nt:Nat)(σ:St)(Q:St->Hp->Prop):St->Hp->Prop:=λa H'=>a.length=σ.length->(∀j,nt<=j->a[j]? =σ[j]?)->Q a H'
def Gi(nt:Nat)(X:Cx)(W:XW)(tg:Expr)(gf:MV->Rho->Sto->R Rho):Prop:=
 ∃t,PG X tg t/\ ∀α ρ S σ H d v Q,Wd X.g α S H->Slots X.K α H ρ σ->Den X.K α H d v->Post X.g W α H (gf d ρ S) (Keeps nt σ Q)->t v σ H Q
def Bq(nt:Nat)(X:Cx)(W:XW)(a:J8)(gf:List MV->Rho->Sto->R Rho):Prop:=
 ∃t,Wo X a t/\ ∀α ρ S σ H ds vs Q,Wd X.g α S H->Slots X.K α H ρ σ->DenL X.K α H ds vs->Post X.g W α H (gf ds ρ S) (Keeps nt σ Q)->t vs σ H Q
section
variable{X:Cx}{W:XW}{e:Expr}{pos:Pos}{nt:Nat}
theorem Iy(i:Nat){x:Str}(k:X.N.Nodup)(hi:X.N[i]? =some x:=by rfl)(c:Loc X.env.scope x:=by first |exact Or.inl rfl|exact Or.inr rfl)(h:Q2 X x:=by first |exact .inl rfl|exact .inr rfl|assumption)(b:i<nt:=by decide):
  Gi nt X W (.Name x pos) (yD i):=⟨_,UK k hi c h,λα ρ S σ H d v Q a sl e q=>Post.here q a (sl.set e) (by rw[Ą]) λj m=>by rw[ĥ #[0]]⟩
def Ru:Bq nt X W [] yL:=⟨_,UL,λα ρ S σ H ds vs Q b sl a q=>by
 cases ds with
 |nil=>exact⟨a.isnil,Post.here q b sl rfl λ_ _=>rfl⟩
 |cons d ds=>exact q.elim⟩
def Post.keeps{g:Gm}{W:XW}{m:R Rho}{a:St}{Q:St->Hp->Prop}(h1:a.length=σ.length)(i: ∀j,nt<=j->a[j]? =σ[j]?)(q:Post g W α H m (Keeps nt σ Q)):Post g W α H m (Keeps nt a Q):=by
 cases m with
 |ok b S=>exact λu e H1 x w d k1 k2=>q u e H1 x w d (k1.trans h1) λj h=>(k2 j h).trans (i j h)
 |exc c fs S=>exact q
 |no=>exact q
def Iz{i:MV->Rho->Sto->R Rho}(h1:Gi nt X W e i)(h:Bq nt X W es g2)(hs:(assignEach (e::es) X.env).map (·.2)=assign e X.env::(assignEach es X.env).map (·.2):=by rfl):Bq nt X W (e::es) (zC i g2):=by
 obtain⟨w,h1,k1⟩:=h1;obtain⟨y,h,k2⟩:=h;refine⟨_,OC h1 h hs,λα ρ S σ H ds vs Q k sl m q=>?_⟩
 cases ds with
 |nil=>exact q.elim
 |cons d ds=>
  obtain⟨v,r,rfl,a,l⟩:=m.uncons;refine⟨v,r,rfl,k1 α ρ S σ H d v _ k sl a (Post.bind q λu p S1 c H1 e j n s o k1 b=>k2 c p S1 u H1 ds r Q n s (l.ext j) (Post.keeps k1 b (o.shift j)))⟩
def Rv{k n:Nat}(c:X.calm=true)(h:Bq nt X W es g2)
  (hn:(assignEach es X.env).length=n:=by rfl) (hst:(assignEach es X.env).findIdx? (·.1)=none:=by rfl):Gi nt X W (.Tuple es k pos) (oR n g2):=by
 obtain⟨t,h,k⟩:=h;refine⟨_,Ap c h hn hst,λα ρ S σ H d v Q b sl i q=>?_⟩;unfold oR at q;split at q
 .split at q
  .rename_i e;obtain⟨a,vs,rfl,s,l⟩:=yR i;exact⟨a,vs,rfl,s,by rw[l.length];exact e,k α ρ S σ H _ vs Q b sl l q⟩
  .exact q.elim
 .exact q.elim
end
abbrev OQ(X:Cx)(W:XW)(ifs:J8)(f:AZ):Prop:=Jd X W (YD X ifs) f
section
variable{X:Cx}{W:XW}{iter:Expr}{c:Expr}{tf:AZ}{pos:Pos}
def Ja:OQ X W [] (λ_ S=>.ok true S):=⟨_,Bf,λα ρ S σ H Q a sl q=>q.here a rfl⟩
def Jb(h:tW X W c tf):OQ X W [c] tf:=let ⟨t,h,k⟩:=h;⟨t,Bg h,k⟩
open Classical in
def UW{C:Cx->Prop}{elt:Expr}{ifs:J8}{sc:Scope}{af:Rho->Sto->R Wk}{cf:AZ}{ef:AX}(ab:Scope)(N:C0)(T:C0)(idx:Db)
  (hi:Jd X W (Xj C X tg iter) af) (hCx: ∀c s₂ F fp pins σ,Inv X pins σ F s₂->C (zN X sc T idx c s₂ F fp))
  (hg: ∀C s₂ H1 fp,([]++T++idx.map λi=>(N[i]?).getD Str.empty).Nodup->Gi T.length (zN X sc T idx C s₂ H1 fp) W0 tg gf)
  (hc: ∀C s₂ H1 fp,OQ (zN X sc T idx C s₂ H1 fp) W0 ifs cf) (he: ∀C s₂ H1 fp,zP (zN X sc T idx C s₂ H1 fp) W0 elt ef)
  (e1:X.env.scope=ab:=by rfl) (e2:X.N=N:=by rfl) (hB:sD ab N sc idx=true:=by decide+kernel) (hN:([]++T++idx.map λi=>(N[i]?).getD Str.empty).Nodup:=by decide+kernel)
  (hs: ∀y,foldedSetIterable iter X.env y=pure y:=by intro _;rfl):
  Jd (β:=Er) (τ:=V) X W (λt=>PE X (.ListComp elt [⟨tg,iter,ifs,0⟩] sc pos) t/\PU X (.ListComp elt [⟨tg,iter,ifs,0⟩] sc pos) t) (λρ S=>(af ρ S).bind λk S1=>if k.ds.length<1000000 then(zX gf cf ef (rW T.length idx ρ) k.gs k.ds S1).bind λout S2=>.ok (.new out) S2 else .no):=by
 obtain⟨wi,hi,ki⟩:=hi;subst e1 e2;have ar:(1000000:Nat)<sizeLine:=by rw[ė];decide
 have ag: ∃t,(∀C s₂ H1 fp,PG (zN X sc T idx C s₂ H1 fp) tg t)/\ ∀α ρ S σ H d v Q,Wd X.g α S H->Slots X.K α H ρ σ->Den X.K α H d v->Post X.g W0 α H (gf d ρ S) (Keeps T.length σ Q)->t v σ H Q:=by refine⟨λv σ H Q=> ∃α ρ S d,Wd X.g α S H/\Slots X.K α H ρ σ/\Den X.K α H d v/\Post X.g W0 α H (gf d ρ S) (Keeps T.length σ Q),λC s₂ H1 fp pins s σ H v u Q I r ⟨α,ρ,S,d,h1,h2,h3,h4⟩=>?_,λα ρ S σ H d v Q h1 h2 h3 h4=>⟨α,ρ,S,d,h1,h2,h3,h4⟩⟩;obtain⟨t,ht,kt⟩:=hg C s₂ H1 fp hN;exact ht pins s σ H v u Q I r (kt α ρ S σ H d v Q h1 h2 h3 h4)
 obtain⟨av,aa,kg⟩:=ag;refine⟨_,⟨Hy T idx hi hCx hB aa (λC s₂ H1 fp=>(ā (hc C s₂ H1 fp)).1) (λC s₂ H1 fp=>(ā (he C s₂ H1 fp)).1) hs,Ic T idx hi hCx hB aa (λC s₂ H1 fp=>(ā (hc C s₂ H1 fp)).1) (λC s₂ H1 fp=>(ā (he C s₂ H1 fp)).1) hs⟩,λα ρ S σ H Q wd sl q=>ki α ρ S σ H _ wd sl (q.bind λJ k S1 ai H1 e1 x1 w1 d1 q1=>?_)⟩;obtain⟨P,hP⟩:=d1;split at q1
 .rename_i ak
  refine⟨λn m ys F=>m=k.ds.length - n/\n<=k.ds.length/\ys.length<=n/\ ∃p S2,Ext α H p F/\Wd X.g p S2 F/\P p S2 F/\ ∃a,DenL X.K p F a ys/\Post X.g W α H ((zX gf cf ef (rW T.length idx ρ) k.gs (k.ds.drop n) S2).bind λo S'=>.ok (Er.new (a++o)) S') Q,
   ⟨_,rfl,zero_le _,à _,ai,S1,x1,w1,hP.here,[],zZ,by simpa using q1⟩,?_⟩
  rintro n m ys F ⟨rfl,hn,hy,p,S2,x2,w2,p2,a,l,q2⟩;obtain⟨i1,i2⟩:=hP.it n p S2 F p2 w2;refine⟨by omega,?_⟩;by_cases w:n<k.ds.length
  .obtain⟨go,yl⟩:=i1 w;refine .inr ⟨go,by omega,λv H3 y τ E=>?_⟩;obtain⟨x3,w3,p3,d,hd,dv⟩:=yl v H3 y;have O:k.ds.drop n=d::k.ds.drop (n+1):=by rw[Ħ w];have:=gE w;rw[hd]at this;rw[<-ä this]
   rw[O]at q2;unfold zX at q2;have ah:=YL (sl.ext (x2.trans x3)) T.length idx τ E;refine kg p (rW T.length idx ρ) S2 _ H3 d v _ w3 ah dv ?_;rw[R.bind_assoc]at q2;refine q2.bindY (x2.trans x3) λG ae S4 U H4 e4 x4 w4 s4 q4 L aj=>⟨⟨G.take T.length,?_,?_⟩,λC s₂ fp=>?_⟩
   .refine ext_getElem? λj=>?_;have au:G.length=T.length+idx.length:=by rw[L,lA,iT,E]
    by_cases hj:j<T.length
    .rw[á (by rw[lT];omega),ĩ hj]
    .rw[aj j (by omega),å (by omega),å (by rw[lT];omega),E,lT,min_eq_left (by omega)]
   .rw[lT,L,lA,iT,E];omega
   have A:Ext α H U H4:=(x2.trans x3).trans x4;have p4: ∀h B H5,Ext U H4 h H5->Wd X.g h B H5->stay k.gs B->P h B H5:=λh B H5 z w5 s5=>hP.stays p S2 H3 h B H5 p3 (x4.trans z) w5 s5;rw[R.bind_assoc]at q4;refine(ā (hc C s₂ H1 fp)).2 U ae S4 G H4 _ w4 s4 (q4.bindY A λb5 aq B h H5 e5 z w5 d5 Z=>?_);cases d5
   cases b5 with
   |false=>
    rw[iN xF0]at Z ⊢;split at Z
    .rename_i Y;exact⟨k.ds.length - (n+1),by omega,rfl,w,by omega,h,B,A.trans z,w5,p4 h B H5 z w5 Y,a,(l.ext (x3.trans x4)).ext z,Z⟩
    .exact Z.elim
   |true=>
    rw[iP rfl,R.bind_assoc]at Z;rw[iP rfl];refine(ā (he C s₂ H1 fp)).2 h ae B G H5 _ w5 (s4.ext z) (Z.bindY (A.trans z) λy6 r6 S6 ao H6 e6 x6 w6 d6 M=>?_);obtain⟨d',S',α',e7,x7,y7,w7,de⟩:=cM w6 x6 d6;rw[e7]at M;have M:Post X.g W α H ((if stay k.gs S' then(zX gf cf ef (rW T.length idx ρ) k.gs (k.ds.drop (n+1)) S').bind λout S4=>.ok (d'::out) S4 else .no).bind λo S'=>.ok (Er.new (a++o)) S') Q:=M;split at M
    .rename_i Y;refine⟨k.ds.length - (n+1),by omega,rfl,w,by rw[lA,lS];omega,α',S',(A.trans z).trans x7,w7,p4 α' S' H6 (z.trans x7) w7 Y,a++[d'],((l.ext (x3.trans x4)).ext (z.trans x7)).append (zS de zZ),?_⟩;rw[R.bind_assoc]at M;have e8:(λ(o:K1) (S':Sto)=>R.ok (Er.new ((a++[d'])++o)) S')=(λ(b:K1) S=>(R.ok (d'::b) S).bind λo S'=>.ok (Er.new (a++o)) S'):=by funext o S';show _=R.ok (Er.new (a++(d'::o))) S';rw[aA];rfl
     rw[e8];exact M
    .exact M.elim
  .have e:n=k.ds.length:=by omega
   subst e;rw[List.drop_length]at q2;have q3:Post X.g W α H (.ok (Er.new (a++[])) S2) Q:=q2;rw[aN]at q3;exact .inl ⟨i2 (à _),λD hD=>(q3.shift x2).newl w2 hD l⟩
 .exact q1.elim
open Classical in
def Jc{elt:Expr}{ifs:J8}{sc:Scope}{b:Rho->Sto->R Wk}{cf:AZ}{ef:AX}(a:Scope)(N:C0)(T:C0)(idx:Db)
  (hi:GT X W tg iter b) (hcalm:X.calm=true)
  (hg: ∀C s₂ H1 fp,([]++T++idx.map λi=>(N[i]?).getD Str.empty).Nodup->Gi T.length (zN X sc T idx C s₂ H1 fp) W0 tg gf)
  (hc: ∀C s₂ H1 fp,OQ (zN X sc T idx C s₂ H1 fp) W0 ifs cf) (he: ∀C s₂ H1 fp,zP (zN X sc T idx C s₂ H1 fp) W0 elt ef)
  (e1:X.env.scope=a:=by rfl) (e2:X.N=N:=by rfl) (hB:sD a N sc idx=true:=by decide+kernel) (hN:([]++T++idx.map λi=>(N[i]?).getD Str.empty).Nodup:=by decide+kernel)
  (hs: ∀y,foldedSetIterable iter X.env y=pure y:=by intro _;rfl):
  zP X W (.ListComp elt [⟨tg,iter,ifs,0⟩] sc pos) (λρ S=>(b ρ S).bind λk S1=>if k.ds.length<1000000 then(zX gf cf ef (rW T.length idx ρ) k.gs k.ds S1).bind λout S2=>.ok (.new out) S2 else .no):=let ⟨t,h,k⟩:=(UW a N T idx hi (λ_ _ _ _ _ _ _=>hcalm) hg hc he e1 e2 hB hN hs);⟨t,h.1,k⟩
open Classical in
def Je{x:Str}{b a:Pos}(i:Nat)(j:X.N.Nodup){elt:Expr}{ifs:J8}{sc:Scope}{d:Rho->Sto->R Wk}{cf:AZ}{ef:AX}(c:Scope)(N:C0)(T:C0)(idx:Db)
  (hi:GT X W tg iter d) (hcalm:X.calm=true)
  (hg: ∀C s₂ H1 fp,([]++T++idx.map λi=>(N[i]?).getD Str.empty).Nodup->Gi T.length (zN X sc T idx C s₂ H1 fp) W0 tg gf)
  (hc: ∀C s₂ H1 fp,OQ (zN X sc T idx C s₂ H1 fp) W0 ifs cf) (he: ∀C s₂ H1 fp,zP (zN X sc T idx C s₂ H1 fp) W0 elt ef)
  (m:X.env.scope=c:=by rfl) (e2:X.N=N:=by rfl) (hB:sD c N sc idx=true:=by decide+kernel) (hN:([]++T++idx.map λi=>(N[i]?).getD Str.empty).Nodup:=by decide+kernel)
  (hs: ∀y,foldedSetIterable iter X.env y=pure y:=by intro _;rfl)
  (hi2:X.N[i]? =some x:=by rfl) (hx:Loc X.env.scope x:=by first |exact Or.inl rfl|exact Or.inr rfl)
  (hsw:swapsWith (.ListComp elt [⟨tg,iter,ifs,0⟩] sc pos) (some (.Name x b)) a.line X.env=pure true:=by with_unfolding_all rfl) (hf:Q2 X x:=by first |exact .inl rfl|exact .inr rfl|assumption):
  OO X W (.Assign [.Name x b] (.ListComp elt [⟨tg,iter,ifs,0⟩] sc pos) a) (λρ S=>((d ρ S).bind λk S1=>if k.ds.length<1000000 then(zX gf cf ef (rW T.length idx ρ) k.gs k.ds S1).bind λout S2=>.ok (.new out) S2 else .no).bind (EM ρ i)):=by
 obtain⟨t,h,k⟩:=(UW c N T idx hi (λ_ _ _ _ _ _ _=>hcalm) hg hc he m e2 hB hN hs)
 refine⟨_,h.2 i x b a j hi2 hx hf hsw,λα ρ S σ H D v sl q=>k α ρ S σ H _ v sl (q.expr λu r S1 A H1 e o z E n=>?_)⟩;obtain⟨F,S',α',m,s,B,p,w⟩:=cM z o E;unfold EM at n;rw[m]at n;exact n _ α' H1 s p (((sl.ext o).ex0 B).set w)
end
mutual
def lo(n:Nat):MV->Prop
 |.loc l=>l<n
 |.tup ds=>tX n ds
 |.scr ds=>tX n ds
 |.obj _ _ ds=>tX n ds
 |_=>True
def tX(n:Nat):List MV->Prop
 |[]=>True
 |d::ds=>lo n d/\tX n ds
end
def loO(n:Nat):MO->Prop
 |.lst ds=>tX n ds
 |.dic kvs=> ∀p∈kvs,lo n p.1/\lo n p.2
 |.ins _ fs=> ∀p∈fs,lo n p.2
 |.rcd _ fs=> ∀p∈fs,lo n p.2
 |.fdc kvs=> ∀p∈kvs,lo n p.1/\lo n p.2
section
variable{K:J9}{α t:B9}{H:Hp}
mutual
theorem Den.back: ∀{d:MV}{v:V},Den K (α++t) H d v->lo α.length d->Den K α H d v
 |.non,_,q,_=>by cases nP q;exact uD
 |.bl _,_,q,_=>by cases pV q;exact fA _
 |.int _,_,q,_=>by cases xN q;exact wL _
 |.str _,_,q,_=>by cases xO q;exact iU _
 |.typ _,_,q,_=>by cases nQ q;exact UQ _
 |.obj c ns ds,_,q,h=>by obtain⟨a,C,k,vs,o,rfl,e,i,j,b,l⟩:=cJ q;exact Ie e i j b (DenL.back l (by unfold lo at h;exact h))
 |.loc l,_,q,h=>by
  obtain⟨a,rfl,e⟩:=gY q;have b:l<α.length:=by unfold lo at h;exact h
  rw[á b]at e;exact oQ e
 |.tup ds,_,q,h=>by obtain⟨a,vs,rfl,s,l⟩:=yR q;exact aM s (DenL.back l (by unfold lo at h;exact h))
 |.scr ds,_,q,h=>by obtain⟨a,vs,rfl,s,l⟩:=cK q;exact UR s (DenL.back l (by unfold lo at h;exact h))
theorem DenL.back: ∀{ds:K1}{vs:List V},DenL K (α++t) H ds vs->tX α.length ds->DenL K α H ds vs
 |[],_,q,_=>by rw[q.isnil];exact zZ
 |d::ds,_,q,h=>by obtain⟨v,r,rfl,a,l⟩:=q.uncons;unfold tX at h;exact zS (Den.back a h.1) (DenL.back l h.2)
end
mutual
theorem Den.lo: ∀{d:MV}{v:V},Den K α H d v->lo α.length d
 |.non,_,q=>by unfold M.lo;trivial
 |.bl _,_,q=>by unfold M.lo;trivial
 |.int _,_,q=>by unfold M.lo;trivial
 |.str _,_,q=>by unfold M.lo;trivial
 |.typ _,_,q=>by unfold M.lo;trivial
 |.obj c ns ds,_,q=>by obtain⟨a,C,h,vs,o,rfl,e,i,j,b,l⟩:=cJ q;unfold M.lo;exact DenL.lo l
 |.loc l,_,q=>by obtain⟨a,rfl,e⟩:=gY q;unfold M.lo;exact(gS.mp e).1
 |.tup ds,_,q=>by obtain⟨a,vs,rfl,s,l⟩:=yR q;unfold M.lo;exact DenL.lo l
 |.scr ds,_,q=>by obtain⟨a,vs,rfl,s,l⟩:=cK q;unfold M.lo;exact DenL.lo l
theorem DenL.lo: ∀{ds:K1}{vs:List V},DenL K α H ds vs->tX α.length ds
 |[],_,q=>by unfold tX;trivial
 |d::ds,_,q=>by obtain⟨v,r,rfl,a,l⟩:=q.uncons;unfold tX;exact⟨Den.lo a,DenL.lo l⟩
end
theorem DenK.back: ∀{fs gs},DenK K (α++t) H fs gs->(∀p∈fs,M.lo α.length p.1/\M.lo α.length p.2)->DenK K α H fs gs
 |_,_,.nil,_=>.nil
 |_,_,.cons k a l,h=>.cons k (a.back (h _ mF0).2) (DenK.back l λp b=>h p (mO _ b))
def KeyD.lo{n:Nat}{k:MV}{k':Key}(h:KeyD k k'):M.lo n k:=by
 unfold KeyD at h;split at h
 .unfold M.lo;trivial
 .unfold M.lo;trivial
 .exact h.elim
theorem DenK.lo: ∀{fs gs},DenK K α H fs gs-> ∀p∈fs,M.lo α.length p.1/\M.lo α.length p.2
 |_,_,.nil=>λp h=>by simp at h
 |_,_,.cons k a l=>λp h=>(mC.mp h).elim (λe=>by subst e;exact⟨k.lo,a.lo⟩) (DenK.lo l p)
theorem DenN.back: ∀{fs xs},DenN K (α++t) H fs xs->(∀p∈fs,M.lo α.length p.1/\M.lo α.length p.2)->DenN K α H fs xs
 |_,_,.nil,_=>.nil
 |_,_,.cons k e a d r l,h=>.cons k e (a.back (h _ mF0).1) (d.back (h _ mF0).2) r (DenN.back l λp b=>h p (mO _ b))
theorem DenN.lo: ∀{fs xs},DenN K α H fs xs-> ∀p∈fs,M.lo α.length p.1/\M.lo α.length p.2
 |_,_,.nil=>λp h=>by simp at h
 |_,_,.cons k e a d r l=>λp h=>(mC.mp h).elim (λz=>by subst z;exact⟨a.lo,d.lo⟩) (DenN.lo l p)
theorem DenF.back: ∀{fs gs},DenF K (α++t) H fs gs->(∀p∈fs,M.lo α.length p.2)->DenF K α H fs gs
 |_,_,.nil,_=>.nil
 |_,_,.cons a l,h=>.cons (a.back (h _ mF0)) (DenF.back l λp b=>h p (mO _ b))
theorem DenF.lo: ∀{fs gs},DenF K α H fs gs-> ∀p∈fs,M.lo α.length p.2
 |_,_,.nil=>λp h=>by simp at h
 |_,_,.cons a l=>λp h=>(mC.mp h).elim (λe=>by subst e;exact a.lo) (DenF.lo l p)
def ObD.back{g:Gm}{a:Addr}{o:MO}(q:ObD g (α++t) H a o)(h:loO α.length o):ObD g α H a o:=by
 cases o with
 |lst ds=>obtain⟨vs,h1,l⟩:=q;exact⟨vs,h1,l.back h⟩
 |dic ds=>
  rcases q with⟨vs,h1,l⟩|⟨vs,h1,l⟩
  .exact .inl ⟨vs,h1,l.back h⟩
  .exact .inr ⟨vs,h1,l.back h⟩
 |ins c fs=>obtain⟨C,gs,m,l,r⟩:=q;exact⟨C,gs,m,l.back h,r⟩
 |rcd c fs=>obtain⟨C,d,gs,m,h1,l⟩:=q;exact⟨C,d,gs,m,h1,l.back h⟩
 |fdc kvs=>obtain⟨b,xs,h1,l⟩:=q;exact⟨b,xs,h1,l.back h⟩
def ObD.lo{g:Gm}{a:Addr}{o:MO}(q:ObD g α H a o):loO α.length o:=by
 cases o with
 |lst ds=>obtain⟨vs,h1,l⟩:=q;exact l.lo
 |dic ds=>
  rcases q with⟨vs,h1,l⟩|⟨vs,h1,l⟩
  .exact l.lo
  .exact l.lo
 |ins c fs=>obtain⟨C,gs,m,l,r⟩:=q;exact l.lo
 |rcd c fs=>obtain⟨C,d,gs,m,h1,l⟩:=q;exact l.lo
 |fdc kvs=>obtain⟨b,xs,h1,l⟩:=q;exact l.lo
end
def OR(S S2:Sto):Prop:=↑1<=S2.length/\ ∀l,l<↑1->S2[l]? =S[l]? \/ ∃o,S2[l]? =some o/\loO ↑1 o
open Classical in
noncomputable def jI(S:Sto)(r:Er)(S2:Sto):R Er:=
 if OR S S2 then match r with
  |.val (.loc l)=>if l<S.length then .ok r (S2.take S.length)else match S2[l]? with
   |some (.lst ds)=>if tX S.length ds then .ok (.new ds) (S2.take S.length)else .ok r S2
   |_=>.ok r S2
  |.val d=>if lo S.length d then .ok r (S2.take S.length)else .ok r S2
  |.new ds=>if tX S.length ds then .ok r (S2.take S.length)else .ok r S2
 else .ok r S2
theorem Jf{g:Gm}{j F i:B9}{H1 w:Hp}{S1 S3:Sto}{r:Er}(J:Ext α H j H1)(S:Wd g j S1 H1)(L: ∃t,F=j++t)(Y:Ext α H F H1)(U:Ext F H1 i w)(s:Wd g i S3 w)(d:DenE g.K H1 i w r v):
  ∃T S' α',jI S1 r S3=.ok T S'/\Ext α H α' w/\Wd g α' S' w/\DenE g.K H α' w T v:=by
 have k:=Y.trans U;have c:=d.back λb h=>J.free h;unfold jI;by_cases I:OR S1 S3
 .rw[iP I];obtain⟨t,D⟩: ∃t,i=j++t:=by obtain⟨t,e⟩:=L;obtain⟨u,Z⟩:=U.pre;exact⟨_,by rw[Z,e,aA]⟩
  have E:=S.len;have A:Ext α H j w:=⟨⟨J.pre,k.tup,k.frz⟩,J.new,k.keep,k.has⟩
  have y:Wd g j (S3.take S1.length) w:=by
   refine⟨by rw[lT,E,min_eq_left I.1],S.nd,λl a o h1 C=>?_⟩;have n:l<S1.length:=by rw[<-E];exact(gS.mp h1).1
   rw[ĩ n]at C;have M:i[l]? =some a:=by rw[D,á (by rw[E];exact n)];exact h1
   have q:=s.obj l a o M C;rw[D]at q;refine q.back ?_;rcases I.2 l n with e|⟨o',e,lo'⟩
   .rw[e]at C;exact(S.obj l a o h1 C).lo
   .rw[C]at e;cases e;rw[E];exact lo'
  have p: ∀d,lo S1.length d->Den g.K i w d v->DenE g.K H j w _ v:=λd hd q=>.val ((D▸q:Den g.K _ w d v).back (by rw[E];exact hd))
  cases r with
  |new ds=>
   dsimp only;split
   .rename_i n;obtain⟨⟨b,vs,rfl,h1,C,h3⟩,h4⟩:=c;exact⟨_,_,j,rfl,A,y,⟨b,vs,rfl,h1,λz=>C (by rw[D];exact Ă _ z),(D▸h3:DenL g.K _ w ds vs).back (by rw[E];exact n)⟩,h4⟩
   .exact⟨_,_,i,rfl,k,s,c⟩
  |val mv=>
   have B:Den g.K i w mv v:=c.1
   cases mv with
   |loc l=>
    dsimp only;split
    .rename_i n;exact⟨_,_,j,rfl,A,y,p _ (by unfold lo;exact n) B⟩
    .rename_i n;obtain⟨a,rfl,N⟩:=gY B;split
     .rename_i ds X;split
      .rename_i O;obtain⟨vs,h1,C⟩:=s.obj l a _ N X
       have G:a∉j:=λz=>by
        obtain⟨m,W⟩:=getElem?_of_mem z;have Q:m<j.length:=(gS.mp W).1;have P:i[m]? =some a:=by rw[D,á Q];exact W
        obtain⟨u1,e1⟩:=gS.mp P;obtain⟨u2,e2⟩:=gS.mp N;have:=(getElem_inj s.nd).mp (e1.trans e2.symm)
        lia
       refine⟨_,_,j,rfl,A,y,⟨a,vs,rfl,h1,G,(D▸C:DenL g.K _ w ds vs).back (by rw[E];exact O)⟩,λb e=>?_⟩;cases e;rcases k.new a (è N)with z|z
       .obtain⟨u,eu⟩:=J.pre;exact absurd (by rw[eu];exact Ă _ z) G
       .exact z
      .exact⟨_,_,i,rfl,k,s,c⟩
     .exact⟨_,_,i,rfl,k,s,c⟩
   |non=>dsimp only;split;(· rename_i n;exact⟨_,_,j,rfl,A,y,p _ n B⟩);(· exact⟨_,_,i,rfl,k,s,c⟩)
   |bl b=>dsimp only;split;(· rename_i n;exact⟨_,_,j,rfl,A,y,p _ n B⟩);(· exact⟨_,_,i,rfl,k,s,c⟩)
   |int b=>dsimp only;split;(· rename_i n;exact⟨_,_,j,rfl,A,y,p _ n B⟩);(· exact⟨_,_,i,rfl,k,s,c⟩)
   |str b=>dsimp only;split;(· rename_i n;exact⟨_,_,j,rfl,A,y,p _ n B⟩);(· exact⟨_,_,i,rfl,k,s,c⟩)
   |typ b=>dsimp only;split;(· rename_i n;exact⟨_,_,j,rfl,A,y,p _ n B⟩);(· exact⟨_,_,i,rfl,k,s,c⟩)
   |obj b b' b''=>dsimp only;split;(· rename_i n;exact⟨_,_,j,rfl,A,y,p _ n B⟩);(· exact⟨_,_,i,rfl,k,s,c⟩)
   |tup b=>dsimp only;split;(· rename_i n;exact⟨_,_,j,rfl,A,y,p _ n B⟩);(· exact⟨_,_,i,rfl,k,s,c⟩)
   |scr b=>dsimp only;split;(· rename_i n;exact⟨_,_,j,rfl,A,y,p _ n B⟩);(· exact⟨_,_,i,rfl,k,s,c⟩)
 .rw[iN I];exact⟨_,_,i,rfl,k,s,c⟩
def SD(g:Gm)(n:Nat)(F:List MV->Sto->R Er):Sp:=λvs H Q _=> ∃α S ds,Wd g α S H/\DenL g.K α H ds vs/\ds.length=n/\Post g W0 α H (F ds S) Q
def zH(n:Nat)(F:List MV->Sto->R Er)(rs:List Er)(S:Sto):R Er:=if rs.length=n then(noX (F (zE rs S).1 (zE rs S).2)).bind λr S2=>jI S r S2 else .no
section
variable{X:Cx}{W:XW}{e:Expr}{es:J8}{af:Rho->Sto->R (List Er)}{pos:Pos}
def IQ{n:Nat}{F:List MV->Sto->R Er}{vs:List V}{a:B9}{H1:Hp}{S1:Sto}{Q:VK}(e:Ext α H a H1)(d:Wd X.g a S1 H1)(w:ArgsE X.K H a H1 rs vs)(q:Post X.g W α H (zH n F rs S1) Q):
  SD X.g n F vs H1 Q E0:=by
 unfold zH at q;split at q
 .rename_i p;obtain⟨b,s,y2,o,l2⟩:=qK d e w;refine⟨b,_,_,o,l2,by rw[vX];exact p,?_⟩
  cases z:F (zE rs S1).1 (zE rs S1).2 with
  |ok r S3=>
   rw[z]at q;intro v m k y A B;obtain⟨C,S',α',u,i,h,j⟩:=Jf e d y2.pre s y A B;have q:Post X.g W α H (jI S1 r S3) Q:=q;rw[u]at q;exact q v α' k i h j
  |exc c fs S3=>rw[z]at q;exact q.elim
  |no=>rw[z]at q;exact q.elim
 .exact q.elim
def Jg{k n:Nat}{fa:Addr}{fd:FuncData}{ps:C0}{F:List MV->Sto->R Er}{x:Str}{p:Pos}(G:FnOk X.prog X.w X.K X.mg X.base EB k fa fd ps (SD X.g n F))(h:Room k X.A)(c:Gl X x)(s:X.mg x=some (.ref fa))
  (hk:PySem.W.keepIn X.K (.ref fa)=true) (hb:Binds X.K fd ps []) (a:EK X W (e::es) af) (hdb:(x==("__debug__":Str))=false:=by decide)
  (he:q9 X e es:=by rfl) (hpl:Q1 X pos es:=by rfl):
  zP X W (.Call (.Name x p) (e::es) [] pos) (λρ S=>(af ρ S).bind λrs S1=>zH n F rs S1):=by
 obtain⟨t,a,b⟩:=a;refine⟨_,Hl G h c s hk hb .nil Yb a hdb he hpl,λα ρ S σ H Q d sl q=>b α ρ S σ H _ d sl (q.bind λvs rs S1 o H1 u j i r m=>?_)⟩;rw[aN];exact IQ j i r m
end
noncomputable def zU(N:C0)(ds:K1):Rho:=ds.map some++List.replicate (N.length - ds.length) none
noncomputable def yA:R Fl->R Er
 |.ok (.next _) S=>.ok (.val .non) S
 |.ok (.ret r) S=>.ok r S
 |.exc c fs S=>.exc c fs S
 |_=>.no
def OS{K:J9}{N:C0}{ds:K1}{vs:List V}(l:DenL K α H ds vs):Slots K α H (zU N ds) (start N vs):=by
 have a:=l.length;refine⟨?_,λi d e=>?_⟩
 .unfold start zU;rw[lA,lA,lM,lM,Ċ,Ċ,a]
 .unfold zU at e;by_cases hi:i<ds.length
  .rw[á (by simpa using hi),ö]at e
   cases z:ds[i]? with
   |none=>rw[z]at e;cases e
   |some d'=>
    rw[z]at e;obtain⟨v,h1,b⟩:=l.at z;have c:=ä (ä e);subst c;refine⟨v,?_,b⟩;unfold start;rw[á (by rw[lM,a];exact hi),ö,h1];rfl
  .rw[å (by simpa using hi),List.getElem?_replicate]at e;split at e<;>cases e
section
variable{P:ņ}{w:World}{K:J9}{mg:H9}{base:Heap}
def okM{x qual:Str}{st:Stmt}{f:Addr}{fd:FuncData}{N ps:C0}{k:Nat}(i:AY)(F:Fun K x qual st f fd)(y:FnScope N ps (zR st))
  (hbody: ∀(b:ń)(A:Ņ)(a:List Env)(s:Ń)(H:Hp)(E:XK),Room k (A.deeper (envOfC qual (zR st) ↑0 f b))->
   vY (KB EB P w K mg base N qual (zR st) f b A a s H E).nox W0 (gX st) i):
  FnOk P w K mg base EB (k+1) f fd ps (SD ⟨K,mg,P,w⟩ ps.length λds S=>yA (i (zU N ds) S)):=by
 refine F.ok y (λvs H Q E h=>?_) (λb A a s H vs Q E p h=>?_)
 .obtain⟨α,S,ds,_,l,j,_⟩:=h;rw[l.length,j]
 .obtain⟨α,S,ds,n,l,j,q⟩:=h;obtain⟨t,u,m⟩:=hbody b A a s H E p;refine⟨t,u,m α _ S _ H _ n (OS l) ?_⟩;dsimp only at q
  cases z:i _ S with
  |ok fl S'=>
   rw[z]at q
   cases fl with
   |next ρ=>exact λσ α' H' e d s'=>q .non α' H' e d (DenE.val uD)
   |ret r=>exact λv α' H' e d o=>q v α' H' e d o
   |brk ρ=>exact q.elim
   |cont ρ=>exact q.elim
  |exc c fs S'=>rw[z]at q;exact λα' H' e d=>q α' H' e d
  |no=>rw[z]at q;exact q
end
inductive Vw where
 |fl (v:V)|tp (ds:K1)|ls (ds:K1)
noncomputable def jB(S:Sto):Er->Option (List MV)
 |.new ds=>some ds
 |.val (.scr ds)=>some ds
 |.val (.loc l)=>match S[l]? with
  |some (.lst ds)=>some ds
  |_=>none
 |_=>none
def IR(S:Sto):Er->Option Vw
 |.val .non=>some (.fl .non)
 |.val (.bl b)=>some (.fl (.bl b))
 |.val (.int i)=>some (.fl (.int i))
 |.val (.str x)=>some (.fl (.str (cH x)))
 |.val (.tup ds)=>some (.tp ds)
 |.val (.typ _)=>none
 |.val (.obj _ _ _)=>none
 |r=>(jB S r).map .ls
noncomputable def BN(e:MV->MV->Option Bool):List MV->List MV->Option (List Bool)
 |d::ds,f::fs=>(e d f).bind λk=>(BN e ds fs).map (k::·)
 |_,_=>some []
def Rx(e:MV->MV->Option Bool):Vw->Vw->Option Bool
 |.fl x,.fl y=>some (Hu x y)
 |.tp ds,.tp es=>(BN e ds es).map λbs=>bs.all id&&ds.length==es.length
 |.ls ds,.ls es=>if ds.length=es.length then(BN e ds es).map λbs=>bs.all id else some false
 |_,_=>some false
theorem SE(e:MV->MV->Option Bool)(ds es:K1):Rx e (.tp ds) (.tp es)=(BN e ds es).map λbs=>bs.all id&&ds.length==es.length:=rfl
theorem SF(e:MV->MV->Option Bool)(ds es:K1):Rx e (.ls ds) (.ls es)=if ds.length=es.length then(BN e ds es).map λbs=>bs.all id else some false:=rfl
def eqv(S:Sto):Nat->MV->MV->Option Bool
 |0,_,_=>none
 |n+1,a,b=>(IR S (.val a)).bind λx=>(IR S (.val b)).bind λy=>Rx (eqv S n) x y
def uF(S:Sto)(n:Nat)(a b:Er):Option Bool:=(IR S a).bind λx=>(IR S b).bind λy=>Rx (eqv S n) x y
section
variable{X:Cx}{α:B9}{S:Sto}{H:Hp}
def sH{K:J9}{g:Gm}(j:g.K=K)(c:Wd g α S H){r:Er}{ds:K1}{x:V}(e:jB S r=some ds)(d:DenX K α H r x): ∃a vs,x=.ref a/\SqL K H a vs/\DenL K α H ds vs:=by
 subst j;unfold jB at e;split at e
 .cases e;obtain⟨b,vs,rfl,h,_,l⟩:=d;exact⟨b,vs,rfl,.of h,l⟩
 .cases e;obtain⟨a,vs,rfl,s,l⟩:=EI d;exact⟨a,vs,rfl,s.l,l⟩
 .rename_i n;obtain⟨a,rfl,h⟩:=fB d;split at e
  .rename_i es i;cases e;obtain⟨vs,h1,l⟩:=c.obj n a _ h i;exact⟨a,vs,rfl,.of h1,l⟩
  .cases e
 .cases e
def pX{r:Er}{x y:V}(e:IR S r=some (.fl y))(d:DenX X.K α H r x):x=y/\mV y=true:=by
 unfold IR at e;split at e
 .cases e;exact⟨vW d,rfl⟩
 .cases e;exact⟨IP d,rfl⟩
 .cases e;exact⟨yV d,rfl⟩
 .cases e;exact⟨cL d,rfl⟩
 .cases e
 .cases e
 .cases e
 .cases z:jB S r<;>rw[z]at e<;>cases e
def pY{r:Er}{x:V}{ds:K1}(e:IR S r=some (.tp ds))(d:DenX X.K α H r x): ∃a vs,x=.ref a/\SqT X.K H a vs/\DenL X.K α H ds vs:=by
 unfold IR at e;split at e
 .cases e
 .cases e
 .cases e
 .cases e
 .cases e;exact nR d
 .cases e
 .cases e
 .cases z:jB S r<;>rw[z]at e<;>cases e
def pZ(b:Wd X.g α S H){r:Er}{x:V}{ds:K1}(e:IR S r=some (.ls ds))(d:DenX X.K α H r x): ∃a vs,x=.ref a/\SqL X.K H a vs/\DenL X.K α H ds vs:=by
 unfold IR at e;split at e
 .cases e
 .cases e
 .cases e
 .cases e
 .cases e
 .cases e
 .cases e
 .cases z:jB S r with
  |none=>rw[z]at e;cases e
  |some es=>rw[z]at e;cases e;exact sH rfl b z d
theorem rL{e:MV->MV->Option Bool}: ∀{ds es:K1}{bs:J6},BN e ds es=some bs->bs.length=min ds.length es.length
 |[],_,_,h=>by simp[BN]at h;subst h;simp
 |_::_,[],_,h=>by simp[BN]at h;subst h;simp
 |d::ds,f::fs,bs,h=>by
  unfold BN at h
  cases z:e d f with
  |none=>rw[z]at h;cases h
  |some k=>
   rw[z]at h
   cases a:BN e ds fs with
   |none=>simp[a]at h
   |some cs=>
    simp[a]at h;subst h;simp[rL a]
theorem KO{e:MV->MV->Option Bool}: ∀{ds es:K1}{bs:J6}{j:Nat}{d f:MV},BN e ds es=some bs->ds[j]? =some d->es[j]? =some f->e d f=some (bs.getD j true)
 |[],_,_,_,_,_,h,h1,_=>by simp at h1
 |_::_,[],_,_,_,_,h,_,h2=>by simp at h2
 |d::ds,f::fs,bs,j,d',f',h,h1,h2=>by
  unfold BN at h
  cases z:e d f with
  |none=>rw[z]at h;cases h
  |some k=>
   rw[z]at h
   cases a:BN e ds fs with
   |none=>simp[a]at h
   |some cs=>
    simp[a]at h;subst h
    cases j with
    |zero=>simp at h1 h2;subst h1 h2;simpa using z
    |succ j=>simpa using KO a (by simpa using h1) (by simpa using h2)
def range_all{bs:J6}{n:Nat}(h:bs.length=n):(List.range n).all (λj=>bs.getD j true)=bs.all id:=by
 subst h;rw[Bool.eq_iff_iff,ą,ą];constructor
 .intro h x b;obtain⟨i,hi,rfl⟩:=List.getElem_of_mem b;have:=h i (mem_range.mpr hi);simpa [List.getD_eq_getElem?_getD,hi]using this
 .intro h i hi;have a:=mem_range.mp hi;have:=h bs[i] (getElem_mem a);simpa [List.getD_eq_getElem?_getD,a]using this
variable{pins:J5}{σ:St}{s:Ń}
def uG(I:↑2){a:Addr}{ys:List V}(h:SqL X.K H a xs)(h':SqT X.K H a ys):False:=by obtain⟨_,_,i,_⟩:=I.list h;obtain⟨_,_,pt,_⟩:=I.tuple h';obtain⟨o,n,e,c,_,_⟩:=i;obtain⟨o',b,d,_⟩:=pt;rw[e]at b;cases b;rw[c]at d;exact absurd d (by simp)
theorem Br(I:↑2)(n:Wd X.g α S H){e:MV->MV->Option Bool}(E: ∀d f v k,Den X.K α H d v->Den X.K α H f v->e d f=some k->k=true){a b:Er}{x:V}{p q:Vw}{k:Bool}
  (ha:IR S a=some p) (hb:IR S b=some q) (da:DenX X.K α H a x) (db:DenX X.K α H b x) (h:Rx e p q=some k):k=true:=by
 have w: ∀{ds es:K1}{vs:List V}{bs:J6},DenL X.K α H ds vs->DenL X.K α H es vs->BN e ds es=some bs->bs.all id=true:=by
  intro ds es vs bs l1 l2 z;rw[ą];intro k F;obtain⟨i,hi,rfl⟩:=List.getElem_of_mem F;have J:=rL z;have h1:i<ds.length:=by lia
  have B:i<es.length:=by lia
  obtain⟨v,C,g2⟩:=l1.at (gE h1);obtain⟨L,A,G⟩:=l2.at (gE B);rw[C]at A;cases A;have:=E _ _ _ _ g2 G (KO z (gE h1) (gE B));simpa [List.getD_eq_getElem?_getD,hi]using this
 cases p with
 |fl y=>
  obtain⟨rfl,r⟩:=pX ha da
  cases q with
  |fl z=>obtain⟨rfl,o⟩:=pX hb db;cases h;exact Bj r
  |tp ds=>obtain⟨a,vs,rfl,_⟩:=pY hb db;exact absurd r xF0
  |ls ds=>obtain⟨a,vs,rfl,_⟩:=pZ n hb db;exact absurd r xF0
 |tp ds=>
  obtain⟨D,vs,rfl,m,l1⟩:=pY ha da
  cases q with
  |fl z=>obtain⟨rfl,o⟩:=pX hb db;exact absurd o xF0
  |tp es=>
   obtain⟨u,us,j,c,l2⟩:=pY hb db;cases j;cases I.tuple_inj m c;rw[SE]at h
   cases z:BN e ds es with
   |none=>rw[z]at h;cases h
   |some bs=>
    rw[z]at h;cases h;show(bs.all id&&ds.length==es.length)=true;rw[w l1 l2 z, <-l1.length, <-l2.length];simp
  |ls es=>obtain⟨u,us,j,c,l2⟩:=pZ n hb db;cases j;exact(uG I c m).elim
 |ls ds=>
  obtain⟨D,vs,rfl,m,l1⟩:=pZ n ha da
  cases q with
  |fl z=>obtain⟨rfl,o⟩:=pX hb db;exact absurd o xF0
  |tp es=>obtain⟨u,us,j,c,l2⟩:=pY hb db;cases j;exact(uG I m c).elim
  |ls es=>
   obtain⟨u,us,j,c,l2⟩:=pZ n hb db;cases j;cases I.list_inj m c;rw[SF]at h;rw[iP (by rw[<-l1.length, <-l2.length])]at h
   cases z:BN e ds es with
   |none=>rw[z]at h;cases h
   |some bs=>rw[z]at h;cases h;exact w l1 l2 z
theorem EN(I:↑2)(c:Wd X.g α S H): ∀(n:Nat)(d f:MV)(v:V)(k:Bool),Den X.K α H d v->Den X.K α H f v->eqv S n d f=some k->k=true
 |0,_,_,_,_,_,_,h=>by cases h
 |n+1,d,f,v,k,h1,h2,h=>by
  unfold eqv at h
  cases a:IR S _ with
  |none=>rw[a]at h;cases h
  |some p=>
   cases b:IR S _ with
   |none=>rw[a,b]at h;cases h
   |some q=>
    rw[a,b]at h;exact Br I c (EN I c n) a b h1 h2 h
def uH{e:MV->MV->Option Bool}{A:Ņ}(B: ∀d f x y u v k,Den X.K α H d x->Den X.K α H f y->RelV x u->RelV y v->e d f=some k->SeqAt.EqAt A s u v k)
  {ds es:K1} {vs us:List V} {its its2:A0} {bs:J6} (l1:DenL X.K α H ds vs) (l2:DenL X.K α H es us) (r1:Vals vs its) (r2:Vals us its2) (z:BN e ds es=some bs):
  ∀j (h1:j<its.toArray.size) (a:j<its2.toArray.size),SeqAt.EqAt A s its.toArray[j] its2.toArray[j] (bs.getD j true):=by
 intro j h1 a;have b:j<vs.length:=by rw[r1.length];simpa using h1
 have g2:j<us.length:=by rw[r2.length];simpa using a
 obtain⟨d,q,r⟩:=l1.get (gE b);obtain⟨f,o,i⟩:=l2.get (gE g2);obtain⟨u,n,c⟩:=r1.get (gE b);obtain⟨v,w,m⟩:=r2.get (gE g2);have h:its.toArray[j]=u:=by have:its[j]? =some (its[j]'(by simpa using h1)):=gE _;rw[n]at this;simpa using(ä this).symm
 have p:its2.toArray[j]=v:=by have:its2[j]? =some (its2[j]'(by simpa using a)):=gE _;rw[w]at this;simpa using(ä this).symm
 rw[h,p];exact B d f _ _ u v _ r i c m (KO z q o)
theorem vZ(I:↑2)(D:Wd X.g α S H): ∀(n:Nat)(A:Ņ)(d f:MV)(x y:V)(u v:ń)(k:Bool),A.units+n<cLine->Den X.K α H d x->Den X.K α H f y->RelV x u->RelV y v->eqv S n d f=some k->SeqAt.EqAt A s u v k
 |0,_,_,_,_,_,_,_,_,_,_,_,_,_,h=>by cases h
 |n+1,A,d,f,x,y,u,v,k,hu,h1,h2,rx,ry,h=>by
  have i:A.units<cLine:=by lia
  have r:=h;unfold eqv at h
  cases G:IR S (.val d)with
  |none=>rw[G]at h;cases h
  |some p=>
   cases o:IR S (.val f)with
   |none=>rw[G,o]at h;cases h
   |some q=>
    rw[G,o]at h;have h:Rx _ p q=some k:=h;have Q:=λd f x y u v k a b c U e=>vZ I D n A.in1 d f x y u v k (show A.units+1+n<cLine by lia) a b c U e
    cases p with
    |fl x'=>
     obtain⟨rfl,P⟩:=pX G h1
     cases q with
     |fl y'=>obtain⟨rfl,L⟩:=pX o h2;cases h;exact Qi rx ry P L
     |tp es=>
      obtain⟨b,us,rfl,w,l2⟩:=pY o h2;cases ry;cases h;obtain⟨its,_,pt,_⟩:=I.tuple w;exact(BK rx P pt i).2.1
     |ls es=>
      obtain⟨b,us,rfl,w,l2⟩:=pZ D o h2;cases ry;cases h;obtain⟨its,_,C,_⟩:=I.list w;exact(IL rx P C.isList i).2.1
    |tp ds=>
     obtain⟨a,vs,rfl,N,l1⟩:=pY G h1;cases rx;obtain⟨its,B,pt,_⟩:=I.tuple N
     cases q with
     |fl y'=>obtain⟨rfl,L⟩:=pX o h2;cases h;exact(BK ry L pt i).1
     |tp es=>
      obtain⟨b,us,rfl,w,l2⟩:=pY o h2;cases ry;by_cases m:a=b
      .subst m;rw[EN I D (n+1) d f _ k h1 h2 r];exact SeqAt.EqAt.same _
      .obtain⟨j,F,M,_⟩:=I.tuple w;rw[SE]at h
       cases z:BN (eqv S n) ds es with
       |none=>rw[z]at h;cases h
       |some bs=>
        rw[z]at h;cases h;have:=SeqAt.RcAt.tuples pt M i (uH Q l1 l2 B F z);have E:=rL z;rw[range_all (by rw[E];simp[<-B.length, <-F.length,l1.length,l2.length])]at this;have T:(its.toArray.size==j.toArray.size)=(ds.length==es.length):=by simp[<-B.length, <-F.length,l1.length,l2.length]
        rw[T]at this;exact SeqAt.EqAt.of_refs m this
     |ls es=>
      obtain⟨b,us,rfl,w,l2⟩:=pZ D o h2;cases ry;cases h;obtain⟨j,_,C,_⟩:=I.list w;exact SeqAt.EqAt.tuple_list pt C.isList i
    |ls ds=>
     obtain⟨a,vs,rfl,N,l1⟩:=pZ D G h1;cases rx;obtain⟨its,B,C,_⟩:=I.list N
     cases q with
     |fl y'=>obtain⟨rfl,L⟩:=pX o h2;cases h;exact(IL ry L C.isList i).1
     |tp es=>
      obtain⟨b,us,rfl,w,l2⟩:=pY o h2;cases ry;cases h;obtain⟨j,_,pt,_⟩:=I.tuple w;exact SeqAt.EqAt.list_tuple C.isList pt i
     |ls es=>
      obtain⟨b,us,rfl,w,l2⟩:=pZ D o h2;cases ry;by_cases m:a=b
      .subst m;rw[EN I D (n+1) d f _ k h1 h2 r];exact SeqAt.EqAt.same _
      .obtain⟨j,F,J,_⟩:=I.list w;rw[SF]at h;by_cases E:ds.length=es.length
       .rw[iP E]at h
        cases z:BN (eqv S n) ds es with
        |none=>rw[z]at h;cases h
        |some bs=>
         rw[z]at h;cases h;have hs:its.toArray.size=j.toArray.size:=by simp[<-B.length, <-F.length,l1.length,l2.length,E]
         have:=SeqAt.RcAt.lists C.isList J.isList hs i (uH Q l1 l2 B F z);have O:=rL z;rw[range_all (by rw[O];simp[<-B.length,l1.length,E])]at this;exact SeqAt.EqAt.of_refs m this
       .rw[iN E]at h;cases h;exact SeqAt.EqAt.of_refs m (SeqAt.RcAt.lists_lengths C.isList J.isList (by simpa [<-B.length, <-F.length,l1.length,l2.length]using E) i)
theorem Oc{B:Ņ->Ń->ń->ń->Bool->Prop}{tr:Bool->Bool}{A:Ņ}
  (hff: ∀x y u v,RelV x u->RelV y v->mV x=true->mV y=true->B A s u v (tr (Hu x y)))
  (hfl: ∀x v l items,RelV x v->mV x=true->s.heap.IsList l items->A.units<cLine->B A s v (.ref l) (tr false)/\B A s (.ref l) v (tr false))
  (hft: ∀x v l items,RelV x v->mV x=true->s.heap.IsTuple l items->A.units<cLine->B A s v (.ref l) (tr false)/\B A s (.ref l) v (tr false))
  (hlt: ∀l b items i,s.heap.IsList l items->s.heap.IsTuple b i->A.units<cLine->B A s (.ref l) (.ref b) (tr false)/\B A s (.ref b) (.ref l) (tr false))
  (htt: ∀(l b:Addr)(items i:B0)(e:Nat->Bool),s.heap.IsTuple l items->s.heap.IsTuple b i->A.units<cLine->(∀j (h1:j<items.size) (h2:j<i.size),SeqAt.EqAt A.in1 s items[j] i[j] (e j))->B A s (.ref l) (.ref b) (tr ((List.range (min items.size i.size)).all e&&items.size==i.size)))
  (hll: ∀(l b:Addr)(items i:B0)(e:Nat->Bool),s.heap.IsList l items->s.heap.IsList b i->items.size=i.size->A.units<cLine->(∀j (h1:j<items.size) (h2:j<i.size),SeqAt.EqAt A.in1 s items[j] i[j] (e j))->B A s (.ref l) (.ref b) (tr ((List.range items.size).all e)))
  (hln: ∀(l b:Addr)(items i:B0),s.heap.IsList l items->s.heap.IsList b i->(items.size !=i.size)=true->A.units<cLine->B A s (.ref l) (.ref b) (tr false))
  (I:↑2) (wd:Wd X.g α S H) (n:Nat) {a b:Er} {x y:V} {u v:ń} {k:Bool} (hu:A.units+(n+1)<cLine) (h1:DenX X.K α H a x) (h2:DenX X.K α H b y) (rx:RelV x u) (ry:RelV y v) (h:uF S n a b=some k):B A s u v (tr k):=by
 have m:A.units<cLine:=by lia
 unfold uF at h
 cases G:IR S a with
 |none=>rw[G]at h;cases h
 |some p=>
  cases r:IR S b with
  |none=>rw[G,r]at h;cases h
  |some q=>
   rw[G,r]at h;have h:Rx _ p q=some k:=h;have Q:=λd f x y u v k a b c U e=>vZ I wd n A.in1 d f x y u v k (show A.units+1+n<cLine by lia) a b c U e
   cases p with
   |fl x'=>
    obtain⟨rfl,P⟩:=pX G h1
    cases q with
    |fl y'=>obtain⟨rfl,L⟩:=pX r h2;cases h;exact hff _ _ _ _ rx ry P L
    |tp es=>
     obtain⟨b,us,rfl,w,l2⟩:=pY r h2;cases ry;cases h;obtain⟨its,_,pt,_⟩:=I.tuple w;exact(hft _ _ _ _ rx P pt m).1
    |ls es=>
     obtain⟨b,us,rfl,w,l2⟩:=pZ wd r h2;cases ry;cases h;obtain⟨its,_,D,_⟩:=I.list w;exact(hfl _ _ _ _ rx P D.isList m).1
   |tp ds=>
    obtain⟨a,vs,rfl,N,l1⟩:=pY G h1;cases rx;obtain⟨its,C,pt,_⟩:=I.tuple N
    cases q with
    |fl y'=>obtain⟨rfl,L⟩:=pX r h2;cases h;exact(hft _ _ _ _ ry L pt m).2
    |tp es=>
     obtain⟨b,us,rfl,w,l2⟩:=pY r h2;cases ry;obtain⟨o,F,M,_⟩:=I.tuple w;rw[SE]at h
     cases z:BN _ ds es with
     |none=>rw[z]at h;cases h
     |some bs=>
      rw[z]at h;cases h;have:=htt _ _ _ _ _ pt M m (uH Q l1 l2 C F z);have E:=rL z;rw[range_all (by rw[E];simp[<-C.length, <-F.length,l1.length,l2.length])]at this;have T:(its.toArray.size==o.toArray.size)=(ds.length==es.length):=by simp[<-C.length, <-F.length,l1.length,l2.length]
      rw[T]at this;exact this
    |ls es=>
     obtain⟨b,us,rfl,w,l2⟩:=pZ wd r h2;cases ry;cases h;obtain⟨o,_,D,_⟩:=I.list w;exact(hlt _ _ _ _ D.isList pt m).2
   |ls ds=>
    obtain⟨a,vs,rfl,N,l1⟩:=pZ wd G h1;cases rx;obtain⟨its,C,D,_⟩:=I.list N
    cases q with
    |fl y'=>obtain⟨rfl,L⟩:=pX r h2;cases h;exact(hfl _ _ _ _ ry L D.isList m).2
    |tp es=>
     obtain⟨b,us,rfl,w,l2⟩:=pY r h2;cases ry;cases h;obtain⟨o,_,pt,_⟩:=I.tuple w;exact(hlt _ _ _ _ D.isList pt m).1
    |ls es=>
     obtain⟨b,us,rfl,w,l2⟩:=pZ wd r h2;cases ry;obtain⟨o,F,J,_⟩:=I.list w;rw[SF]at h;by_cases E:ds.length=es.length
     .rw[iP E]at h
      cases z:BN _ ds es with
      |none=>rw[z]at h;cases h
      |some bs=>
       rw[z]at h;cases h;have hs:its.toArray.size=o.toArray.size:=by simp[<-C.length, <-F.length,l1.length,l2.length,E]
       have:=hll _ _ _ _ _ D.isList J.isList hs m (uH Q l1 l2 C F z);have O:=rL z;rw[range_all (by rw[O];simp[<-C.length,l1.length,E])]at this;exact this
     .rw[iN E]at h;cases h;exact hln _ _ _ _ D.isList J.isList (by simpa [<-C.length, <-F.length,l1.length,l2.length]using E) m
def Ry(I:↑2)(j:Wd X.g α S H)(n:Nat){A:Ņ}{a b:Er}{x y:V}{u v:ń}{k:Bool}(m:A.units+(n+1)<cLine)(h1:DenX X.K α H a x)(p:DenX X.K α H b y)(i:RelV x u)(o:RelV y v)(h:uF S n a b=some k):SeqAt.RcAt A s u v k:=
 Oc (tr:=id) (λ_ _ _ _ a b c d=>(Bi a b c d).1) (λ_ _ _ _ a b c d=>⟨(IL a b c d).2.2.2.1,(IL a b c d).2.2.1⟩) (λ_ _ _ _ a b c d=>⟨(BK a b c d).2.2.2.1,(BK a b c d).2.2.1⟩)
  (λ_ _ _ _ a b c=>⟨SeqAt.RcAt.list_tuple a b c,SeqAt.RcAt.tuple_list b a c⟩) (λ_ _ _ _ _ a b c d=>SeqAt.RcAt.tuples a b c d) (λ_ _ _ _ _ a b c d e=>SeqAt.RcAt.lists a b c d e) (λ_ _ _ _ a b c d=>SeqAt.RcAt.lists_lengths a b c d)
  I j n m h1 p i o h
def Rz(I:↑2)(j:Wd X.g α S H)(n:Nat){A:Ņ}{a b:Er}{x y:V}{u v:ń}{k:Bool}(m:A.units+(n+1)<cLine)(h1:DenX X.K α H a x)(p:DenX X.K α H b y)(i:RelV x u)(o:RelV y v)(h:uF S n a b=some k):SeqAt.RcNeAt A s u v (!k):=
 Oc (λ_ _ _ _ a b c d=>(Bi a b c d).2) (λ_ _ _ _ a b c d=>⟨(IL a b c d).2.2.2.2.2,(IL a b c d).2.2.2.2.1⟩) (λ_ _ _ _ a b c d=>⟨(BK a b c d).2.2.2.2.2,(BK a b c d).2.2.2.2.1⟩)
  (λ_ _ _ _ a b c=>⟨SeqAt.RcNeAt.list_tuple a b c,SeqAt.RcNeAt.tuple_list b a c⟩) (λ_ _ _ _ _ a b c d=>SeqAt.RcNeAt.tuples a b c d) (λ_ _ _ _ _ a b c d e=>SeqAt.RcNeAt.lists a b c d e) (λ_ _ _ _ a b c d=>SeqAt.RcNeAt.lists_lengths a b c d)
  I j n m h1 p i o h
theorem UX{α β:Type}: ∀{a c:List α}{b d:List β},a.length=b.length->c.length=d.length->a.zip b=c.zip d->a=c/\b=d
 |[],[],[],[],_,_,_=>⟨rfl,rfl⟩
 |[],_::_,[],_::_,_,_,e=>by simp at e
 |_::_,[],_::_,[],_,_,e=>by simp at e
 |x::a,y::c,z::b,w::d,h1,h2,e=>by simp only[Ĳ,List.cons.injEq,Prod.mk.injEq]at e;obtain⟨rfl,rfl⟩:=UX (by simpa using h1) (by simpa using h2) e.2;exact⟨by rw[e.1.1],by rw[e.1.2]⟩
mutual
theorem Den.inj(I:↑2)(r:Wd X.g α S H): ∀{d f:MV}{v:V},Den X.K α H d v->Den X.K α H f v->d=f
 |.non,f,v,h,h'=>by cases nP h;cases f<;>first |rfl|(have:=pV h';cases this;done)|(have:=xN h';cases this;done)|(have:=xO h';cases this;done)|(have:=nQ h';cases this;done)|(obtain⟨_,_,e,_⟩:=yR h';cases e;done)|(obtain⟨_,_,e,_⟩:=cK h';cases e;done)|(obtain⟨_,e,_⟩:=gY h';cases e;done)|(obtain⟨_,_,_,_,_,e,_⟩:=cJ h';cases e;done)
 |.bl b,f,v,h,h'=>by cases pV h;cases f<;>first |(have:=pV h';cases this;rfl;done)|(have:=nP h';cases this;done)|(have:=xN h';cases this;done)|(have:=xO h';cases this;done)|(have:=nQ h';cases this;done)|(obtain⟨_,_,e,_⟩:=yR h';cases e;done)|(obtain⟨_,_,e,_⟩:=cK h';cases e;done)|(obtain⟨_,e,_⟩:=gY h';cases e;done)|(obtain⟨_,_,_,_,_,e,_⟩:=cJ h';cases e;done)
 |.int b,f,v,h,h'=>by cases xN h;cases f<;>first |(have:=xN h';cases this;rfl;done)|(have:=nP h';cases this;done)|(have:=pV h';cases this;done)|(have:=xO h';cases this;done)|(have:=nQ h';cases this;done)|(obtain⟨_,_,e,_⟩:=yR h';cases e;done)|(obtain⟨_,_,e,_⟩:=cK h';cases e;done)|(obtain⟨_,e,_⟩:=gY h';cases e;done)|(obtain⟨_,_,_,_,_,e,_⟩:=cJ h';cases e;done)
 |.str b,f,v,h,h'=>by cases xO h;cases f<;>first |(have:=xO h';rw[uA (V.str.inj this)];done)|(have:=nP h';cases this;done)|(have:=pV h';cases this;done)|(have:=xN h';cases this;done)|(have:=nQ h';cases this;done)|(obtain⟨_,_,e,_⟩:=yR h';cases e;done)|(obtain⟨_,_,e,_⟩:=cK h';cases e;done)|(obtain⟨_,e,_⟩:=gY h';cases e;done)|(obtain⟨_,_,_,_,_,e,_⟩:=cJ h';cases e;done)
 |.typ b,f,v,h,h'=>by cases nQ h;cases f<;>first |(have:=nQ h';cases this;rfl;done)|(have:=nP h';cases this;done)|(have:=pV h';cases this;done)|(have:=xN h';cases this;done)|(have:=xO h';cases this;done)|(obtain⟨_,_,e,_⟩:=yR h';cases e;done)|(obtain⟨_,_,e,_⟩:=cK h';cases e;done)|(obtain⟨_,e,_⟩:=gY h';cases e;done)|(obtain⟨_,_,_,_,_,e,_⟩:=cJ h';cases e;done)
 |.tup ds,f,v,h,h'=>by
  obtain⟨a,vs,rfl,i,l1⟩:=yR h
  cases f with
  |tup es=>
   obtain⟨p,us,j,u,l2⟩:=yR h';cases j;cases I.tuple_inj i u;rw[DenL.inj I r l1 l2]
  |scr es=>obtain⟨p,us,j,u,l2⟩:=cK h';cases j;exact(uG I u.l i).elim
  |loc l=>
   obtain⟨p,j,k⟩:=gY h';cases j;obtain⟨F,k1,k2,q⟩:=r.mem (è k);rcases i with(i|⟨o,i⟩)|⟨o,its,n,i,_⟩
   .rw[k1]at i;exact absurd (ä i) (k2 _)
   .rw[k1]at i;exact(let ⟨_,z⟩:=q _ _ (ä i);by cases z)
   .have:=(I.bs a o (I.mod.kin a o i)).2;rw[k1]at this;cases this
  |non=>cases nP h'
  |bl b=>cases pV h'
  |int b=>cases xN h'
  |str b=>cases xO h'
  |typ b=>cases nQ h'
  |obj c ns es=>
   obtain⟨p,C,B,us,D,j,k,_⟩:=cJ h';cases j;rcases i with(i|⟨o,i⟩)|⟨o,its,n,i,_⟩
   .rw[k]at i;cases i
   .rw[k]at i;cases i
   .have:=(I.bs a o (I.mod.kin a o i)).2;rw[k]at this;cases this
 |.scr ds,f,v,h,h'=>by
  obtain⟨a,vs,rfl,i,l1⟩:=cK h
  cases f with
  |scr es=>
   obtain⟨p,us,j,u,l2⟩:=cK h';cases j;cases I.list_inj i.l u.l;rw[DenL.inj I r l1 l2]
  |tup es=>obtain⟨p,us,j,u,l2⟩:=yR h';cases j;exact(uG I i.l u).elim
  |loc l=>
   obtain⟨p,j,k⟩:=gY h';cases j;obtain⟨F,k1,k2,q⟩:=r.mem (è k);rcases i with⟨o,i⟩|⟨o,its,n,i,_⟩
   .rw[k1]at i;exact(let ⟨_,z⟩:=q _ _ (ä i);by cases z)
   .have:=(I.bs a o (I.mod.kin a o i)).2;rw[k1]at this;cases this
  |non=>cases nP h'
  |bl b=>cases pV h'
  |int b=>cases xN h'
  |str b=>cases xO h'
  |typ b=>cases nQ h'
  |obj c ns es=>
   obtain⟨p,C,B,us,D,j,k,_⟩:=cJ h';cases j;rcases i with⟨o,i⟩|⟨o,its,n,i,_⟩
   .rw[k]at i;cases i
   .have:=(I.bs a o (I.mod.kin a o i)).2;rw[k]at this;cases this
 |.loc l,f,v,h,h'=>by
  obtain⟨a,rfl,h1⟩:=gY h;obtain⟨F,k1,k2,q⟩:=r.mem (è h1)
  cases f with
  |loc m=>
   obtain⟨p,j,k⟩:=gY h';cases j;by_cases A:l=m
   .rw[A]
   .exact absurd rfl (r.ne h1 k A)
  |tup es=>
   obtain⟨p,us,j,i,l2⟩:=yR h';cases j;rcases i with(i|⟨o,i⟩)|⟨o,its,n,i,_⟩
   .rw[k1]at i;exact absurd (ä i) (k2 _)
   .rw[k1]at i;exact(let ⟨_,z⟩:=q _ _ (ä i);by cases z)
   .have:=(I.bs a o (I.mod.kin a o i)).2;rw[k1]at this;cases this
  |scr es=>
   obtain⟨p,us,j,i,l2⟩:=cK h';cases j;rcases i with⟨o,i⟩|⟨o,its,n,i,_⟩
   .rw[k1]at i;exact(let ⟨_,z⟩:=q _ _ (ä i);by cases z)
   .have:=(I.bs a o (I.mod.kin a o i)).2;rw[k1]at this;cases this
  |non=>cases nP h'
  |bl b=>cases pV h'
  |int b=>cases xN h'
  |str b=>cases xO h'
  |typ b=>cases nQ h'
  |obj c ns es=>
   obtain⟨p,C,B,us,D,j,k,_⟩:=cJ h';cases j;rw[k1]at k;exact(let ⟨_,z⟩:=q _ _ (ä k);by cases z)
 |.obj c ns ds,f,v,h,h'=>by
  obtain⟨a,C,B,us,D,rfl,k,O,L,G,l1⟩:=cJ h
  cases f with
  |obj c' ns' es=>
   obtain⟨p,C2,J,N,P,j,w,M,y,E,l2⟩:=cJ h';cases j;rw[k]at w;injection w with w
   injection w with _ w
   injection w with e1 j e3
   subst e1;rw[L]at y;cases y;obtain⟨rfl,rfl⟩:=UX G E e3;rw[DenL.inj I r l1 l2]
  |tup es=>
   obtain⟨p,us,j,i,l2⟩:=yR h';cases j;rcases i with(i|⟨o,i⟩)|⟨o,its,n,i,_⟩
   .rw[k]at i;cases i
   .rw[k]at i;cases i
   .have:=(I.bs a o (I.mod.kin a o i)).2;rw[k]at this;cases this
  |scr es=>
   obtain⟨p,us,j,i,l2⟩:=cK h';cases j;rcases i with⟨o,i⟩|⟨o,its,n,i,_⟩
   .rw[k]at i;cases i
   .have:=(I.bs a o (I.mod.kin a o i)).2;rw[k]at this;cases this
  |loc l=>
   obtain⟨p,j,h1⟩:=gY h';cases j;obtain⟨F,k1,k2,q⟩:=r.mem (è h1);rw[k1]at k;exact(let ⟨_,z⟩:=q _ _ (ä k);by cases z)
  |non=>cases nP h'
  |bl b=>cases pV h'
  |int b=>cases xN h'
  |str b=>cases xO h'
  |typ b=>cases nQ h'
theorem DenL.inj(I:↑2)(b:Wd X.g α S H): ∀{ds fs:K1}{vs:List V},DenL X.K α H ds vs->DenL X.K α H fs vs->ds=fs
 |[],fs,vs,h,h'=>by
  cases h.isnil
  cases fs with
  |nil=>rfl
  |cons f fs=>obtain⟨_,_,e,_⟩:=h'.uncons;cases e
 |d::ds,fs,vs,h,h'=>by
  obtain⟨v,r,rfl,a,l⟩:=h.uncons
  cases fs with
  |nil=>cases h'.isnil
  |cons f fs=>
   obtain⟨k,j,e,i,c⟩:=h'.uncons;cases e;rw[Den.inj I b a i,DenL.inj I b l c]
end
end
inductive LexR(A:Ņ)(s:Ń):List ń->List ń->Bool->Prop
 |nn:LexR A s [] [] false
 |nc (x xs):LexR A s [] (x::xs) true
 |cn (y ys):LexR A s (y::ys) [] false
 |eq {y x ys xs k}:SeqAt.EqAt A s y x true->LexR A s ys xs k->LexR A s (y::ys) (x::xs) k
 |ne {y x ys xs k}:SeqAt.EqAt A s y x false->(∀(prog:ņ)(w:World)(E Q:VP),Q (.bool k) s->wpAny (model prog w) A (richCompare .Lt y x) Q E s)->LexR A s (y::ys) (x::xs) k
section
open PySem.SeqAt
open PySem.AutoSeq1 (wpAny_loadPart')
open PySem.MeetsSeq PySem.MeetsSeq2 PySem.MeetsSeq3
theorem EO(l b:Addr)(its e:B0)(n E:Nat)(C p:Option Addr)(sl q:Array (Option ń))(k:Bool):
  Meets (Builtin.«tuple.__lt__» ⟨[.ref l,.ref b],[]⟩)
   (λA R s=>s.heap.get? l=some {cls:=.type "tuple",dict:=C,data:=.seq its n,slots:=sl}/\s.heap.get? b=some {cls:=.type "tuple",dict:=p,data:=.seq e E,slots:=q}/\
    LexR A.in1 s its.toList e.toList k/\R (.ok (.ret (.bool k))) s):=
 .of_wp λprog w A R s h=>by
  obtain⟨r,g,d,v,u⟩:=s;obtain⟨D,B,m,h⟩:=h;have G:=AutoSeq1.sub_tuple_tuple
  wp_walk using þ D,þ B,wpAny_forIn_list _ (λrest b s'=>b.1=none/\s'=⟨r,g,d,v,u⟩/\ ∃(vs ws:A0),rest=vs.zip ws/\
   LexR A.in1 ⟨r,g,d,v,u⟩ vs ws k/\vs.length+e.size=ws.length+its.size) _
  case turn=>
   rintro⟨y,x⟩ rest b s' ⟨i,rfl,vs,ws,c,j,a⟩
   cases j with
   |nn=>rw[zip_nil_left]at c;cases c
   |nc x xs=>rw[zip_nil_left]at c;cases c
   |cn y ys=>rw[List.zip_nil_right]at c;cases c
   |@eq y' x' ys xs k' he hr=>
    rw[Ĳ]at c;injection c with hyx hrest
    injection hyx with hy m
    subst hy m;simp only[lC]at a;refine wB (he prog w _ _ ?_)
    wp_walk
    exact⟨rfl,rfl,_,_,hrest,hr,by lia⟩
   |@ne y' x' ys xs k' he hr=>
    rw[Ĳ]at c;injection c with hyx hrest
    injection hyx with hy m
    subst hy m;refine wB (he prog w _ _ ?_);have o:=hr prog w
    wp_walk using o
    exact⟨_,rfl,by simpa using h⟩
  case fin=>
   rintro⟨F,H⟩ s' ⟨i,rfl,vs,ws,c,j,a⟩;simp only at i;subst i
   have z:k=decide (its.size<e.size):=by
    cases j with
    |nn=>simp only[ÿ]at a;exact(dF0 #[0]).symm
    |nc x xs=>simp only[ÿ,lC]at a;exact(dT0 #[0]).symm
    |cn y ys=>simp only[ÿ,lC]at a;exact(dF0 #[0]).symm
    |eq he hr=>rw[Ĳ]at c;cases c
    |ne he hr=>rw[Ĳ]at c;cases c
   rw[z]at h
   wp_walk
   exact⟨_,rfl,by simpa [Builtin.Tuple.tupleCompareSizes]using h⟩
  case h=>
   exact⟨rfl,rfl,_,_,rfl,m,by simp;lia⟩
end
def Bs{A:Ņ}{s:Ń}{l b:Addr}{a:B0}{k:Bool}(B:IsTup s.heap l its)(r:IsTup s.heap b a)(z:LexR A.in1 s its.toList a.toList k)(y:A.units<cLine)(prog:ņ)(w:World)(E Q:VP)(h:Q (.bool k) s):
  wpAny (model prog w) A (richCompare .Lt (.ref l) (.ref b)) Q E s:=by
 obtain⟨⟨q,u,o,sl⟩,m,v,n,hd⟩:=id B;obtain⟨⟨p,j,_,i⟩,c,d,C,e⟩:=id r;subst v hd d e
 exact richCompare_meets_room ⟨_,m,rfl⟩ ⟨_,c,rfl⟩ PySem.F.slot_tuple_lt PySem.F.entry_tuple_lt (PySem.F.args_tuple_lt_2 _ _) (EO l b its a n C u j sl i k)
  ⟨m,c,z,show Value.bool k≠Value.notImplemented/\Q _ s from⟨(λx=>nomatch x),h⟩⟩ y
noncomputable def AA(e l:MV->MV->Option Bool):List MV->List MV->Option Bool
 |[],[]=>some false
 |[],_::_=>some true
 |_::_,[]=>some false
 |d::ds,f::fs=>(e d f).bind λk=>if k=true then AA e l ds fs else l d f
def CZ(S:Sto):Nat->MV->MV->Option Bool
 |0,_,_=>none
 |n+1,.int i,.int j=>some (decide (i<j))
 |n+1,.str x,.str y=>some (decide (x<y))
 |n+1,.tup ds,.tup es=>AA (eqv S n) (CZ S n) ds es
 |_,_,_=>none
section
variable{X:Cx}{α:B9}{S:Sto}{H:Hp}{pins:J5}{σ:St}{s:Ń}
theorem UY{A:Ņ}{e l:MV->MV->Option Bool}(m: ∀d f x y u v k,Den X.K α H d x->Den X.K α H f y->RelV x u->RelV y v->e d f=some k->SeqAt.EqAt A s u v k)
  (hl: ∀d f x y u v k,Den X.K α H d x->Den X.K α H f y->RelV x u->RelV y v->l d f=some k-> ∀(prog:ņ)(w:World)(E Q:VP),Q (.bool k) s->wpAny (model prog w) A (richCompare .Lt u v) Q E s):
  ∀{ds fs:K1}{vs us:List V}{its c:A0}{k:Bool},DenL X.K α H ds vs->DenL X.K α H fs us->Vals vs its->Vals us c->AA e l ds fs=some k->LexR A s its c k
 |[],[],_,_,_,_,k,l1,l2,r1,r2,h=>by cases l1.isnil;cases l2.isnil;cases r1;cases r2;cases h;exact .nn
 |[],f::fs,_,_,_,_,k,l1,l2,r1,r2,h=>by
  cases l1.isnil;obtain⟨v,r,rfl,a,l⟩:=l2.uncons;cases r1
  cases r2 with
  |cons a b=>cases h;exact .nc _ _
 |d::ds,[],_,_,_,_,k,l1,l2,r1,r2,h=>by
  cases l2.isnil;obtain⟨v,r,rfl,a,l⟩:=l1.uncons;cases r2
  cases r1 with
  |cons a b=>cases h;exact .cn _ _
 |d::ds,f::fs,_,_,_,_,k,l1,l2,r1,r2,h=>by
  obtain⟨v,r,rfl,a,j⟩:=l1.uncons;obtain⟨o,p,rfl,i,n⟩:=l2.uncons
  cases r1 with
  |cons b1 c1=>
   cases r2 with
   |cons b2 c2=>
    unfold AA at h
    cases z:e d f with
    |none=>rw[z]at h;cases h
    |some kk=>
     rw[z]at h;have h:(if kk=true then AA e l ds fs else l d f)=some k:=h
     cases kk with
     |true=>
      exact .eq (m d f _ _ _ _ _ a i b1 b2 z) (UY m hl j n c1 c2 h)
     |false=>
      exact .ne (m d f _ _ _ _ _ a i b1 b2 z) (hl d f _ _ _ _ _ a i b1 b2 h)
theorem KP(I:↑2)(o:Wd X.g α S H): ∀(n:Nat)(A:Ņ)(d f:MV)(x y:V)(u v:ń)(k:Bool),A.units+n<cLine->Den X.K α H d x->Den X.K α H f y->RelV x u->RelV y v->CZ S n d f=some k->
  ∀(prog:ņ)(w:World)(E Q:VP),Q (.bool k) s->wpAny (model prog w) A (richCompare .Lt u v) Q E s
 |0,_,_,_,_,_,_,_,_,_,_,_,_,_,h=>by cases h
 |n+1,A,d,f,x,y,u,v,k,hu,h1,h2,rx,ry,h=>by
  intro prog w E Q j;unfold CZ at h;split at h
  .cases h
  .cases h;cases xN h1;cases xN h2;obtain⟨t,rfl⟩:=rx;obtain⟨t',rfl⟩:=ry;exact(PyProof.Rows.lt_int j:wpAny _ A _ Q E s)
  .cases h;cases xO h1;cases xO h2;obtain⟨t,rfl⟩:=rx;obtain⟨t',rfl⟩:=ry;refine(PySem.P.lt_str ?_:wpAny _ A _ Q E s);exact j
  .rename_i D ds es r;obtain⟨a,vs,rfl,B,l1⟩:=yR h1;obtain⟨b,us,rfl,z,l2⟩:=yR h2;cases rx;cases ry;obtain⟨its,q,pt,_⟩:=I.tuple B;obtain⟨p,C,m,_⟩:=I.tuple z;cases r;refine Bs pt m ?_ #[0] prog w E Q j
   exact UY (λd f x y u v k a b c i e=>vZ I o n A.in1 d f x y u v k (show A.units+1+n<cLine by lia) a b c i e)
    (λd f x y u v k a b c i e=>KP I o n A.in1 d f x y u v k (show A.units+1+n<cLine by lia) a b c i e) l1 l2 q C h
  .cases h
end
section
variable{X:Cx}{W:XW}{a b c e:Expr}{es:J8}{f g h:AX}{pos:Pos}
noncomputable def Gj(C:Int->Int->Prop)[∀i j,Decidable (C i j)](g:Int->Int->Int):Er->Er->Sto->R Er
 |.val (.int i),.val (.int j),S=>if C i j then .ok (.val (.int (g i j))) S else .no
 |_,_,_=>.no
noncomputable def E9(g:Int->Int->Bool):Er->Er->Sto->R Er
 |.val (.int i),.val (.int j),S=>.ok (.val (.bl (g i j))) S
 |_,_,_=>.no
def SH{C b:Int->Int->Prop}[∀i j,Decidable (C i j)]{g:Int->Int->Int}(h: ∀i j,C i j->b i j):US X W (rI b λi j=>.int (g i j)) (Gj C g):=by
 intro p q x y α S H Q d c k a;unfold Gj at a;split at a
 .split at a
  .rename_i e;exact⟨_,_,yV c,yV k,h _ _ e,Post.val a d (wL _)⟩
  .exact a.elim
 .exact a.elim
def KQ{g:Int->Int->Int}:US X W (Hf λi j=>.int (g i j)) (Gj (λ_ _=>True) g):=by
 intro p q x y α S H Q d b c a;unfold Gj at a;split at a
 .rw[iP trivial]at a;exact⟨_,_,yV b,yV c,Post.val a d (wL _)⟩
 .exact a.elim
def Sa{g:Int->Int->Bool}:US X W (Hf λi j=>.bl (g i j)) (E9 g):=by
 intro p q x y α S H Q d b c a;unfold E9 at a;split at a
 .exact⟨_,_,yV b,yV c,Post.val a d (fA _)⟩
 .exact a.elim
abbrev Bt:=Gj (λ_ _=>True) λi j=>i - j
def Sb(c:zP X W a f)(d:zP X W b g):zP X W (.BinOp a .Sub b pos) (λρ S=>(f ρ S).bind λp S1=>(g ρ S1).bind λq S2=>Bt p q S2):=BM Pw KQ c d
def Jh(_ j:Int):Prop:=0<j/\j.natAbs.log2<9000
instance(i j:Int):Decidable (Jh i j):=inferInstanceAs (Decidable (_/\_))
abbrev OT:=Gj Jh λi j=>i / j
theorem Bu:OpR X (binaryOp .FloorDiv) (rI Jh λi j=>.int (i / j)):=E7 λi j _ _ _ _ _ a q=>by have e:=Int.fdiv_eq_ediv_of_nonneg i (Int.le_of_lt a.1);refine floordiv_int (by have:=a.1;lia) ?_ (.inl (PyProof.noPylong_of_log2 a.2));rw[e];exact q
def Sd(c:zP X W a f)(d:zP X W b g):zP X W (.BinOp a .FloorDiv b pos) (λρ S=>(f ρ S).bind λp S1=>(g ρ S1).bind λq S2=>OT p q S2):=BM Bu (SH λi j h=>h) c d
abbrev HD:=Gj (λ_ j=>0<j) λi j=>i % j
def Se(c:zP X W a f)(d:zP X W b g):zP X W (.BinOp a .Mod b pos) (λρ S=>(f ρ S).bind λp S1=>(g ρ S1).bind λq S2=>HD p q S2):=BM Px (SH λi j h=>h) c d
def Sf(i j:Int):Prop:=0<=j/\(Builtin.Int.intBits i:Int) * j<=2 ^ 27
instance(i j:Int):Decidable (Sf i j):=inferInstanceAs (Decidable (_/\_))
abbrev Ji:=Gj Sf λi j=>i ^ j.toNat
def Jj:OpR X (binaryOp .Pow) (rI Sf λi j=>.int (i ^ j.toNat)):=E7 λ_ _ _ _ _ _ _ a q=>pow_int a.1 a.2 q
def Sh(c:zP X W a f)(d:zP X W b g):zP X W (.BinOp a .Pow b pos) (λρ S=>(f ρ S).bind λp S1=>(g ρ S1).bind λq S2=>Ji p q S2):=BM Jj (SH λi j h=>h) c d
def shlC(i j:Int):Prop:=0<=j/\j<=1000000/\i.natAbs<2 ^ 64
instance(i j:Int):Decidable (shlC i j):=inferInstanceAs (Decidable (_/\_/\_))
noncomputable def Jk(S:Sto):Er->Option (List MV)
 |.new ds=>some ds
 |.val (.loc l)=>match S[l]? with
  |some (.lst ds)=>some ds
  |_=>none
 |_=>none
def SI(c:Wd X.g α S H){r:Er}{ds:K1}{x:V}(e:Jk S r=some ds)(d:DenX X.K α H r x): ∃a vs,x=.ref a/\H a=some (.lst vs)/\DenL X.K α H ds vs:=by
 unfold Jk at e;split at e
 .cases e;obtain⟨b,vs,rfl,h,_,l⟩:=d;exact⟨b,vs,rfl,h,l⟩
 .rename_i n;obtain⟨a,rfl,h⟩:=fB d;split at e
  .rename_i es i;cases e;obtain⟨vs,h1,l⟩:=c.obj n a _ h i;exact⟨a,vs,rfl,h1,l⟩
  .cases e
 .cases e
def UZ(p q:Er)(S:Sto):R Er:=match Jk S p,Jk S q with
 |some x,some y=>if x.length+y.length<=sizeLine then .ok (.new (x++y)) S else .no
 |_,_=>.no
def xA:Er->Er->Sto->R Er
 |.val (.int i),.val (.int j),S=>.ok (.val (.int (i+j))) S
 |.val (.str x),.val (.str y),S=>if x.length+y.length<=sizeLine then .ok (.val (.str (x++y))) S else .no
 |.val (.tup x),.val (.tup y),S=>if x.length+y.length<=sizeLine then .ok (.val (.tup (x++y))) S else .no
 |p,q,S=>UZ p q S
def Bv:OpR X (binaryOp .Add) (λx y H Q=> ∃a b ys,x=.ref a/\y=.ref b/\SqT X.K H a []/\SqT X.K H b ys/\Q (.ref b) H):=by
 intro pins s σ H x y v u Q I r C h;obtain⟨a,b,ys,rfl,rfl,w,z,q⟩:=h;cases r;cases C;obtain⟨its,B,p1,_⟩:=I.tuple w;obtain⟨o,L,p2,_⟩:=I.tuple z;have G:=B.nil_iff.mpr rfl;subst G;obtain⟨⟨E,A,k,sl⟩,p,J,n,hd⟩:=id p1;obtain⟨⟨m,e,_,j⟩,c,d,D,i⟩:=id p2;subst J hd d i
 exact concat_meets ⟨_,p,rfl⟩ ⟨_,c,rfl⟩ noFill_tuple_add seq_tuple_add PySem.F.slot_tuple_add PySem.F.entry_tuple_add (PySem.F.args_tuple_add_2 _ _)
  (tuple_addW0 a b _ _ n D A e sl j rfl) ⟨p,c,⟨.ref b,H,I,rfl,q⟩⟩
def Si(w:zP X W a f)(z:zP X W b g):zP X W (.BinOp a .Add b pos) (λρ S=>(f ρ S).bind λp S1=>(g ρ S1).bind λq S2=>xA p q S2):=by
 refine BM (Pu.or (RR.or (Qk.or (Hq.or Bv)))) ?_ w z;intro p q x y α S H Q d h k c;unfold xA at c;split at c
 .exact .inl ⟨_,_,yV h,yV k,Post.val c d (wL _)⟩
 .split at c
  .rename_i e;refine .inr (.inl ⟨_,_,cL h,cL k,by rw[dE];exact e,?_⟩);rw[Ia];exact Post.val c d (iU _)
  .exact c.elim
 .split at c
  .rename_i s u e;obtain⟨i,vs,rfl,r,l1⟩:=nR h;obtain⟨j,us,rfl,o,l2⟩:=nR k;by_cases v:vs=[]
   .subst v;have n:=l1.length;refine .inr (.inr (.inr (.inr ⟨i,j,us,rfl,rfl,r,o,?_⟩)));have:s=[]:=by cases s with |nil=>rfl|cons _ _=>simp at n
    subst this;exact Post.val c d (aM o l2)
   .refine .inr (.inr (.inr (.inl ⟨i,j,vs,us,rfl,rfl,r,o,v,by rw[l1.length,l2.length];exact e,λh1=>?_,λh1 p m=>Post.newt c d m (l1.append l2)⟩)));subst h1;have n:=l2.length;have:u=[]:=by cases u with |nil=>rfl|cons _ _=>simp at n
    subst this;rw[aN]at c;exact Post.val c d (aM r l1)
  .exact c.elim
 .unfold UZ at c;split at c
  .rename_i A B C E;split at c
   .rename_i e;obtain⟨i,vs,rfl,h1,l1⟩:=SI d C h;obtain⟨j,us,rfl,D,l2⟩:=SI d E k;exact .inr (.inr (.inl ⟨i,j,vs,us,rfl,rfl,h1,D,by rw[l1.length,l2.length];exact e,λp m=>Post.newl c d m (l1.append l2)⟩))
   .exact c.elim
  .exact c.elim
def mulC(i j:Int):Prop:=(-(2 ^ 64)<i/\i<2 ^ 64)\/(-(2 ^ 64)<j/\j<2 ^ 64)\/(i.natAbs.log2<4000/\j.natAbs.log2<4000)
theorem VA{i:Int}(h:i.natAbs.log2<4000):Builtin.Int.intBits i<=2 ^ 20:=by unfold Builtin.Int.intBits;split<;>lia
def mulC.ok{i j:Int}(h:mulC i j):IntMulOk i j:=by
 rcases h with h|h|⟨h1,h2⟩
 .exact CMul.ok (.inl h)
 .exact CMul.ok (.inr h)
 .exact .of_bits (VA h1) (VA h2)
def Jl{X:Cx}:OpR X (binaryOp .Mult) (rI mulC λi j=>.int (i * j)):=E7 λ_ _ _ _ _ _ _ a q=>mul_int q a.ok
instance(i j:Int):Decidable (mulC i j):=inferInstanceAs (Decidable (_\/_\/_))
def Od(p:Er)(k:Int)(S:Sto):R Er:=match Jk S p with
 |some x=>if 0<=k/\k<100000/\x.length * k.toNat<=sizeLine then .ok (.new (List.replicate k.toNat x).flatten) S else .no
 |none=>.no
def uI:Er->Er->Sto->R Er
 |.val (.int i),.val (.int j),S=>if mulC i j then .ok (.val (.int (i * j))) S else .no
 |.val (.str x),.val (.int k),S=>if 0<=k/\k<1000/\x.length<=1000 then .ok (.val (.str (HB x k))) S else .no
 |p,.val (.int k),S=>Od p k S
 |_,_,_=>.no
theorem DenL.rep{K:J9}{ds:K1}{vs:List V}(l:DenL K α H ds vs): ∀k:Nat,DenL K α H (List.replicate k ds).flatten (List.replicate k vs).flatten
 |0=>zZ
 |k+1=>by rw[Ĭ];exact l.append (DenL.rep l k)
theorem Sj(j:zP X W a f)(n:zP X W b g):zP X W (.BinOp a .Mult b pos) (λρ S=>(f ρ S).bind λp S1=>(g ρ S1).bind λq S2=>uI p q S2):=by
 refine BM (Jl.or (RY.or Ql)) ?_ j n;intro p q x y α S H Q e h i c;unfold uI at c;split at c
 .split at c
  .rename_i d;exact .inl ⟨_,_,yV h,yV i,d,Post.val c e (wL _)⟩
  .exact c.elim
 .split at c
  .rename_i d;exact .inr (.inl ⟨_,_,cL h,yV i,d.1,d.2.1,d.2.2,Post.val c e (iU _)⟩)
  .exact c.elim
 .unfold Od at c;split at c
  .rename_i ds k;split at c
   .rename_i d;obtain⟨o,vs,rfl,h1,l1⟩:=SI e k h;exact .inr (.inr ⟨o,_,vs,rfl,yV i,h1,by lia,by lia,by rw[l1.length];exact d.2.2,λp m=>Post.newl c e m (l1.rep _)⟩)
   .exact c.elim
  .exact c.elim
 .exact c.elim
noncomputable def zF:Nat:=40
def CP(p q:Er)(S:Sto):R Er:=match uF S zF p q with
 |some k=>.ok (.val (.bl k)) S
 |none=>.no
def EQ(p q:Er)(S:Sto):R Er:=match uF S zF p q with
 |some k=>.ok (.val (.bl !k)) S
 |none=>.no
theorem Bw(m:X.A.units+64<cLine):OpR X (compareOp .Eq) (λx y H Q=> ∃α S p q k,Wd X.g α S H/\DenX X.K α H p x/\DenX X.K α H q y/\uF S zF p q=some k/\Q (.bl k) H):=by intro pins s σ H x y v u Q I a d h;obtain⟨α,S,p,q,k,c,b,j,e,i⟩:=h;exact Ry I c zF (by unfold zF;lia) b j a d e X.prog X.w _ _ ⟨.bl k,H,I,rfl,i⟩
theorem Sk(m:X.A.units+64<cLine):OpR X (compareOp .NotEq) (λx y H Q=> ∃α S p q k,Wd X.g α S H/\DenX X.K α H p x/\DenX X.K α H q y/\uF S zF p q=some k/\Q (.bl (!k)) H):=by intro pins s σ H x y v u Q I a d h;obtain⟨α,S,p,q,k,c,b,j,e,i⟩:=h;exact Rz I c zF (by unfold zF;lia) b j a d e X.prog X.w _ _ ⟨.bl (!k),H,I,rfl,i⟩
def VB:US X W (λx y H Q=> ∃α S p q k,Wd X.g α S H/\DenX X.K α H p x/\DenX X.K α H q y/\uF S zF p q=some k/\Q (.bl k) H) CP:=by
 intro p q x y α S H Q b c d a;unfold CP at a;split at a
 .rename_i k e;exact⟨α,S,p,q,k,b,c,d,e,Post.val a b (fA _)⟩
 .exact a.elim
def Jm:US X W (λx y H Q=> ∃α S p q k,Wd X.g α S H/\DenX X.K α H p x/\DenX X.K α H q y/\uF S zF p q=some k/\Q (.bl (!k)) H) EQ:=by
 intro p q x y α S H Q b c d a;unfold EQ at a;split at a
 .rename_i k e;exact⟨α,S,p,q,k,b,c,d,e,Post.val a b (fA _)⟩
 .exact a.elim
def Yn(e:X.A.units+64<cLine)(c:zP X W a f)(d:zP X W b g):zP X W (.Compare a [.Eq] [b] pos) (λρ S=>(f ρ S).bind λp S1=>(g ρ S1).bind λq S2=>CP p q S2):=Ra (Bw e) VB c d
def Yo(e:X.A.units+64<cLine)(c:zP X W a f)(d:zP X W b g):tW X W (.Compare a [.Eq] [b] pos) (λρ S=>((f ρ S).bind λp S1=>(g ρ S1).bind λq S2=>CP p q S2).bind nO):=tF (Bw e) VB c d
def Yp(e:X.A.units+64<cLine)(c:zP X W a f)(d:zP X W b g):tW X W (.Compare a [.NotEq] [b] pos) (λρ S=>((f ρ S).bind λp S1=>(g ρ S1).bind λq S2=>EQ p q S2).bind nO):=tF (Sk e) Jm c d
def Oe:Er->Er->Sto->R Er
 |.val d,.val f,S=>match CZ S zF d f with
  |some k=>.ok (.val (.bl k)) S
  |none=>.no
 |_,_,_=>.no
theorem Sl(n:X.A.units+64<cLine):OpR X (compareOp .Lt) (λx y H Q=> ∃α S d f k,Wd X.g α S H/\Den X.K α H d x/\Den X.K α H f y/\CZ S zF d f=some k/\Q (.bl k) H):=by intro pins s σ H x y v u Q I a i h;obtain⟨α,S,d,f,k,c,b,m,e,j⟩:=h;exact KP I c zF X.A d f x y v u k (by unfold zF;lia) b m a i e X.prog X.w _ _ ⟨.bl k,H,I,rfl,j⟩
def Jn:US X W (λx y H Q=> ∃α S d f k,Wd X.g α S H/\Den X.K α H d x/\Den X.K α H f y/\CZ S zF d f=some k/\Q (.bl k) H) Oe:=by
 intro p q x y α S H Q b c h a;unfold Oe at a;split at a
 .split at a
  .rename_i k e;exact⟨α,S,_,_,k,b,c,h,e,Post.val a b (fA _)⟩
  .exact a.elim
 .exact a.elim
def Yq(e:X.A.units+64<cLine)(c:zP X W a f)(d:zP X W b g):tW X W (.Compare a [.Lt] [b] pos) (λρ S=>((f ρ S).bind λp S1=>(g ρ S1).bind λq S2=>Oe p q S2).bind nO):=tF (Sl e) Jn c d
abbrev gtF:=E9 λi j=>decide (j<i)
def Yr(c:zP X W a f)(d:zP X W b g):tW X W (.Compare a [.Gt] [b] pos) (λρ S=>((f ρ S).bind λp S1=>(g ρ S1).bind λq S2=>gtF p q S2).bind nO):=tF Xo Sa c d
noncomputable def IT:Er->Er->Sto->R Er
 |.val .non,.val .non,S=>.ok (.val (.bl false)) S
 |_,.val .non,S=>.ok (.val (.bl true)) S
 |_,_,_=>.no
theorem Bx{p:Er}{x:V}(d:DenX X.K α H p x)(n:p≠.val .non):decide (x=.non)=false:=by
 cases p with
 |new ds=>obtain⟨b,vs,rfl,_⟩:=d;rfl
 |val m=>
  cases m with
  |non=>exact absurd rfl n
  |bl b=>cases IP d;rfl
  |int b=>cases yV d;rfl
  |str b=>cases cL d;rfl
  |typ b=>cases Bk d;rfl
  |obj b b' b''=>obtain⟨_,_,_,_,_,rfl,_⟩:=Qu d;rfl
  |tup b=>obtain⟨_,_,rfl,_⟩:=nR d;rfl
  |scr b=>obtain⟨_,_,rfl,_⟩:=EI d;rfl
  |loc b=>obtain⟨_,rfl,_⟩:=fB d;rfl
def By:US X W (λx y H Q=>y=.non/\Q (.bl (!decide (x=.non))) H) IT:=by
 intro p q x y α S H Q d c e a;unfold IT at a;split at a
 .cases vW c;exact⟨vW e,Post.val a d (fA _)⟩
 .rename_i h S' b;rw[Bx c (λz=>by first |exact b z|exact b z rfl|exact b _ z|exact b rfl z)];exact⟨vW e,Post.val a d (fA _)⟩
 .exact a.elim
def Bz(c:zP X W a f)(d:zP X W b g):tW X W (.Compare a [.IsNot] [b] pos) (λρ S=>((f ρ S).bind λp S1=>(g ρ S1).bind λq S2=>IT p q S2).bind nO):=tF Hh By c d
def getL(ds:K1):Er->Sto->R Er
 |.val (.int i),S=>match sC ds i with |some d=>.ok (.val d) S|none=>.no
 |_,_=>.no
def gW:Er->Er->Sto->R Er
 |.val (.str x),.val (.int i),S=>if x.length<=sizeLine then match sC x i with |some c=>.ok (.val (.str [c])) S|none=>.no else .no
 |.val (.tup ds),q,S=>getL ds q S
 |p,q,S=>match jB S p with |some ds=>getL ds q S|none=>.no
def Jo{K:J9}{ds:K1}{vs:List V}{i:Int}{d:MV}(l:DenL K α H ds vs)(e:sC ds i=some d): ∃v,sC vs i=some v/\Den K α H d v:=by
 unfold sC at e ⊢;rw[l.length]
 cases z:IF ds.length i with
 |none=>rw[z]at e;cases e
 |some j=>
  rw[z]at e;obtain⟨v,h1,a⟩:=l.at e;exact⟨v,h1,a⟩
def Ys(u:zP X W a f)(w:zP X W b g)(hs:CW b:=by exact λ_ _=>rfl):zP X W (.Subscript a b pos) (λρ S=>(f ρ S).bind λp S1=>(g ρ S1).bind λq S2=>gW p q S2):=by
 refine Oa Qh ?_ u w hs;intro p q x y α S H Q m k r c;have j: ∀{ds:K1}{vs:List V}{i:Int}{d:MV},DenL X.K α H ds vs->sC ds i=some d->Post X.g W α H _ Q-> ∃v,sC vs i=some v/\Q v H:=λl e c=>by obtain⟨v,h1,h⟩:=Jo l e;exact⟨v,h1,Post.val c m h⟩
 unfold gW at c;split at c
 .split at c
  .rename_i z;split at c
   .rename_i s e;refine .inr (.inr ⟨_,_,s,cL k,yV r,by rw[dE];exact z,by rw[Hz];exact e,?_⟩);exact Post.val c m (iU [s])
   .exact c.elim
  .exact c.elim
 .unfold getL at c;split at c
  .split at c
   .rename_i d e;obtain⟨n,vs,rfl,o,l1⟩:=nR k;obtain⟨v,h1,h⟩:=j l1 e c;exact .inr (.inl ⟨n,vs,_,v,rfl,yV r,o,h1,h⟩)
   .exact c.elim
  .exact c.elim
 .split at c
  .rename_i ds A;unfold getL at c;split at c
   .split at c
    .rename_i d e;obtain⟨n,vs,rfl,o,l1⟩:=sH rfl m A k;obtain⟨v,h1,h⟩:=j l1 e c;exact .inl ⟨n,vs,_,v,rfl,yV r,o,h1,h⟩
    .exact c.elim
   .exact c.elim
  .exact c.elim
end
def HE{prog:ņ}{w:World}{A:Ņ}{E:VP}{s:Ń}{t sl:Addr}{i j:ń}{lo hi:J7}(e:IsTup s.heap t its)(hs:s.heap.IsSliceOf sl i j .none)(k:IsPart i lo)(m:IsPart j hi)
  (h0:HT.sIx its.size 0 lo=0) (h1:HT.sIx its.size its.size hi=its.size) (h:Q (.ref t) s):wpAny (model prog w) A (getItem (.ref t) (.ref sl)) Q E s:=by
 have d:s.TypeIs (.ref sl) "slice":=by obtain⟨n,b,c,_⟩:=id hs;exact⟨n,b,c⟩
 have a:=e.typeIs;unfold getItem
 try with_reducible refine ú ?_
 first |refine wB _|skip
 refine wB (wpAny_sequenceKey a (by decide) ?_);refine wB (î a Ĥ (ì Ĥ a entry_tuple_getitem ?_ (args_tuple_getitem _ _)));show wpAny _ _ (Builtin.Tuple.tupleItemsOf _ >>= _) _ _ s;refine wB (tupleItemsOf_ e (wB (ĝ d ?_)));refine wB (HT.sliceApplied_gen hs k m ?_);show wpAny _ _ (if _=true then _ else _) _ _ s;rw[iP (by rw[h0,h1];simp)];refine wB (wB (ĝ a (wP ?_)));refine wB (Ę ?_)
 first
  |exact wP ⟨_,rfl,wP h⟩
  |exact wB _
  |exact wB _
section
variable{X:Cx}{W:XW}{a e:Expr}{f h:AX}{pos:Pos}
def Jp:SlR X (λx lo hi H Q=> ∃a xs,x=.ref a/\SqT X.K H a xs/\HT.sIx xs.length 0 lo=0/\HT.sIx xs.length xs.length hi=xs.length/\Q (.ref a) H):=by
 intro pins s σ H x v m o lo hi sl Q I d hs e k h;obtain⟨a,xs,rfl,j,i,h1,q⟩:=h;cases d;obtain⟨its,r,c,n⟩:=I.tuple j;have b:its.toArray.size=xs.length:=by rw[sA0];exact r.length.symm
 exact⟨_,_,PyProof.Rows.slot_tuple_getitem.lookup,c.typeIs,HE c hs e k (by rw[b];exact i) (by rw[b];exact h1) ⟨.ref a,H,I,rfl,q⟩⟩
def oS:Er->Option Int->Option Int->Sto->R Er
 |.val (.str x),lo,hi,S=>if x.length<=sizeLine then .ok (.val (.str (cE x lo hi))) S else .no
 |.val (.tup ds),lo,hi,S=>.ok (.val (.tup (cE ds lo hi))) S
 |p,lo,hi,S=>match jB S p with |some ds=>.ok (.new (cE ds lo hi)) S|none=>.no
def YM{α:Type}{ds:List α}{lo hi:J7}(a:HT.sIx ds.length 0 lo=0)(h1:HT.sIx ds.length ds.length hi=ds.length):cE ds lo hi=ds:=by unfold cE;rw[a,h1];simp
def Sm{lo hi:Option Expr}{lf k:Rho->Sto->R (Option Int)}{p2:Pos}(m:zP X W a f)(o:Ih X W lo lf)(n:Ih X W hi k):zP X W (.Subscript a (.Slice lo hi none p2) pos) (λρ S=>(f ρ S).bind λp S1=>(lf ρ S1).bind λl S2=>(k ρ S2).bind λu S3=>oS p l u S3):=by
 refine Bo (Qo.or (Ht.or (Qf.or Jp))) ?_ m o n;intro p lo hi x α S H Q c i b;unfold oS at b;split at b
 .split at b
  .rename_i q;exact .inl ⟨_,cL i,q,Post.val b c (iU _)⟩
  .exact b.elim
 .rename_i _ _ _ ds;obtain⟨h,vs,rfl,d,l1⟩:=nR i;by_cases hw:HT.sIx vs.length 0 lo=0/\HT.sIx vs.length vs.length hi=vs.length
  .have e:=YM (by rw[<-l1.length];exact hw.1) (by rw[<-l1.length];exact hw.2);rw[e]at b;exact .inr (.inr (.inr ⟨h,vs,rfl,d,hw.1,hw.2,Post.val b c (aM d l1)⟩))
  .exact .inr (.inr (.inl ⟨h,vs,rfl,d,hw,λp j=>Post.newt b c j (l1.cut lo hi)⟩))
 .split at b
  .rename_i ds r;obtain⟨h,vs,rfl,d,l1⟩:=sH rfl c r i;exact .inr (.inl ⟨h,vs,rfl,d,λp j=>Post.newl b c j (l1.cut lo hi)⟩)
  .exact b.elim
noncomputable def mX{α:Type}(ds:List α)(lo hi st:J7):List α:=(sliceRange (sliceBounds lo hi st ds.length).1 (sliceBounds lo hi st ds.length).2.1 (sliceBounds lo hi st ds.length).2.2).filterMap (ds[·]?)
theorem DenL.pick{K:J9}{ds:K1}{vs:List V}(l:DenL K α H ds vs): ∀idx:List Nat,DenL K α H (idx.filterMap (ds[·]?)) (idx.filterMap (vs[·]?))
 |[]=>zZ
 |i::idx=>by
  cases z:ds[i]? with
  |none=>
   have b:vs[i]? =none:=by rw[ķ,l.length];exact ķ.mp z
   rw[ĺ z,ĺ b];exact DenL.pick l idx
  |some d=>
   obtain⟨v,h1,a⟩:=l.at z;rw[Ľ z,Ľ h1];exact zS a (DenL.pick l idx)
theorem Vals.pick{us:A0}(r:Vals xs us): ∀idx:List Nat,Vals (idx.filterMap (xs[·]?)) (idx.filterMap (us[·]?))
 |[]=>.nil
 |i::idx=>by
  cases z:xs[i]? with
  |none=>rw[ĺ z,ĺ (r.none_of z)];exact Vals.pick r idx
  |some d=>
   obtain⟨v,h1,a⟩:=r.get z;rw[Ľ z,Ľ h1];exact .cons a (Vals.pick r idx)
def uK(st:Int)(p:Er)(lo hi:J7)(S:Sto):R Er:=match jB S p with
 |some ds=>if(mX ds lo hi (some st)).length<=sizeLine then .ok (.new (mX ds lo hi (some st))) S else .no
 |none=>.no
def Jq{st:Int}{lo hi:Option Expr}{lf hf:Rho->Sto->R (Option Int)}{p2:Pos}{e:Expr}(h0:st≠0)(J:zP X W a f)(L:Ih X W lo lf)(n:Ih X W hi hf)
  (hst: ∀pins s σ H (Q:VK),Inv X pins σ H s->Q (.int st) H->wpAny (model X.prog X.w) X.A (eval e X.env) (EP X pins σ Q) X.xe s):
  zP X W (.Subscript a (.Slice lo hi (some e) p2) pos) (λρ S=>(f ρ S).bind λp S1=>(lf ρ S1).bind λl S2=>(hf ρ S2).bind λu S3=>uK st p l u S3):=by
 obtain⟨ta,J,fa⟩:=J;obtain⟨tl,L,fl⟩:=L;obtain⟨th,n,fh⟩:=n
 refine⟨λσ H Q=>ta σ H λx H1=>tl σ H1 λl j=>th σ j λu d=> ∃a xs,x=.ref a/\SqL X.K d a xs/\(mX xs l u (some st)).length<=sizeLine/\ ∀p,d p=none->Q (.ref p) (wC d p (.lst (mX xs l u (some st)))),?_,λα ρ S σ H Q wd sl q=>fa α ρ S σ H _ wd sl (q.bind λu p S1 F H1 e1 N w1 d1 O=>fl F ρ S1 σ H1 _ w1 (sl.ext N) ((O.shift N).bind λZ l S2 G j e2 C w2 d2 M=>
  fh G ρ S2 σ j _ w2 ((sl.ext N).ext C) ((M.shift C).bind λu3 m S3 B d e3 x3 w3 d3 c=>?_)))⟩
 .intro pins s σ H Q I h;refine Subscript_ (kY (J pins s σ H _ I h) λv E ⟨x,H1,I1,r1,O⟩=>?_);refine wpAny_Slice (kY (L pins E σ H1 _ I1 O) λvl s2 ⟨l,j,I2,pl,M⟩=>kY (n pins s2 σ j _ I2 M) λvu s3 ⟨u,d,I3,pu,c⟩=>?_);rw[evalPart_some];refine kY (hst pins s3 σ d (λw' H'=>w'=.int st/\H'=d) I3 ⟨rfl,rfl⟩) λvs i ⟨y,H4,I4,r4,ey,eH⟩=>?_;subst ey eH;obtain⟨Y,rfl⟩:=r4;obtain⟨a,xs,rfl,sq,D,q⟩:=c;cases r1;have U:Inv X pins σ H4 {i with heap:=i.heap.push {cls:=.type "slice",data:=.fields #[vl,vu,.int st Y]}}:=I4.kept (t':=i.toks) λb ob q=>hP0 _ q;obtain⟨its,r,ht,hz⟩:=U.list sq;have k:=r.length;refine tail_any (ops:=[.ref a,.ref i.heap.objs.size]) (T:="list") ht.isList.typeIs slot_list_getitem.lookup ?_ (by with_unfolding_all rfl);refine wpAny_getItem_list_slice ht.isList (Heap.IsSliceOf.new ..) pl pu (.int st Y) (by intro z;exact h0 (ä z)) ?_ (by rw[sA0];omega);have ep:slicePick its.toArray l u (some st)=(mX its l u (some st)).toArray:=by unfold slicePick mX;simp
  rw[ep];have P:xs.length=its.length:=k;refine⟨.ref _,_,U.laid (t':=i.toks) (o:=.lst (mX xs l u (some st))) (λb ob q=>hP0 _ q) (à _) ?_,rfl,q _ (U.hok.fresh (à _))⟩;refine⟨D,_,0,?_,ã _ rfl⟩;unfold mX;rw[P];exact Vals.pick r _
 .cases d2;cases d3
  replace c:=c.shift x3
  unfold uK at c;split at c
  .rename_i ds P;split at c
   .rename_i hz;obtain⟨a1,vs,e5,E,l1⟩:=sH rfl w3 P ((d1.1.ext C).ext x3);have lp:DenL X.K B d (mX ds Z u3 (some st)) (mX vs Z u3 (some st)):=by unfold mX;rw[<-l1.length];exact l1.pick _
    exact⟨a1,vs,e5,E,by rw[lp.length];exact hz,λp hp=>Post.newl c w3 hp lp⟩
   .exact c.elim
  .exact c.elim
def Ca{i:Int}{a:Pos}: ∀pins s σ H (Q:VK),Inv X pins σ H s->Q (.int (-i)) H->wpAny (model X.prog X.w) X.A (eval (.UnaryOp .USub (.Constant (.int i) j a) pos) X.env) (EP X pins σ Q) X.xe s:=λpins s σ H Q I h=>Ny Ar RM pins s σ H Q I ⟨i,rfl,h⟩
end
section
variable{X:Cx}{W:XW}{a b c e:Expr}{f g h:AX}{pos:Pos}
def OU(S:Sto)(n:Nat)(d:MV):List MV->Option (List Bool)
 |[]=>some []
 |y::ys=>(eqv S n y d).bind λk=>(OU S n d ys).map (k::·)
section
variable{α:B9}{S:Sto}{H:Hp}{pins:J5}{σ:St}{s:Ń}
def Jr(X:Cx)(α:B9)(S:Sto)(H:Hp)(n:Nat)(d:MV)(u:ń):Bool:=open Classical in decide (∃y x,Den X.K α H y x/\RelV x u/\eqv S n y d=some true)
open Classical in
def Jt(I:↑2)(i:Wd X.g α S H){n:Nat}{d y:MV}{x:V}{u:ń}{k:Bool}(b:Den X.K α H y x)(r:RelV x u)(e:eqv S n y d=some k):Jr X α S H n d u=k:=by
 unfold Jr
 cases k with
 |true=>exact dT0 ⟨y,x,b,r,e⟩
 |false=>
  refine dF0 λ⟨m,j,a,h,c⟩=>?_;have ex:=r.inj h;subst ex;rw[b.inj I i a]at e;rw[e]at c;cases c
theorem uL(I:↑2)(c:Wd X.g α S H){n:Nat}{A:Ņ}{d:MV}{x:V}{v:ń}(b:A.units+n<cLine)(m:Den X.K α H d x)(i:RelV x v): ∀{ys:K1}{vs:List V}{us:A0}{bs:J6},DenL X.K α H ys vs->Vals vs us->OU S n d ys=some bs->
  us.map (Jr X α S H n d)=bs/\ ∀u∈us,SeqAt.EqAt A s u v (Jr X α S H n d u)
 |[],_,_,bs,l,r,e=>by cases l.isnil;cases r;cases e;exact⟨rfl,λu b=>by cases b⟩
 |y::ys,_,_,bs,l,r,e=>by
  obtain⟨B,w,rfl,j,q⟩:=l.uncons
  cases r with
  |cons r1 r2=>
   unfold OU at e
   cases z:eqv S n y d with
   |none=>rw[z]at e;cases e
   |some k=>
    rw[z]at e
    cases h:OU S n d ys with
    |none=>simp[h]at e
    |some cs=>
     simp[h]at e;subst e;obtain⟨h1,p⟩:=uL I c b m i q r2 h;have o:=Jt I c j r1 z;refine⟨by rw[æ,h1,o],λu a=>?_⟩;rcases mC.mp a with rfl|a
     .rw[o];exact vZ I c n A y d _ _ _ _ k b j m r1 i z
     .exact p u a
end
theorem any_map{us:A0}{f:ń->Bool}{bs:J6}(h:us.map f=bs):us.toArray.any f=bs.any id:=by subst h;simp[List.any_map]
def itemsOf(S:Sto):Er->Option (List MV)
 |.val (.tup ds)=>some ds
 |r=>jB S r
def uM(b:Wd X.g α S H){r:Er}{ds:K1}{x:V}(e:itemsOf S r=some ds)(d:DenX X.K α H r x): ∃a vs,x=.ref a/\(SqL X.K H a vs\/SqT X.K H a vs)/\DenL X.K α H ds vs:=by
 unfold itemsOf at e;split at e
 .cases e;obtain⟨a,vs,rfl,s,l⟩:=nR d;exact⟨a,vs,rfl,.inr s,l⟩
 .obtain⟨a,vs,rfl,s,l⟩:=sH rfl b e d;exact⟨a,vs,rfl,.inl s,l⟩
def KR(a:Bool)(p q:Er)(S:Sto):R Er:=match p with
 |.val d=>match itemsOf S q with
  |some ys=>match OU S zF d ys with
   |some bs=>.ok (.val (.bl (if a=true then !bs.any id else bs.any id))) S
   |none=>.no
  |none=>.no
 |.new _=>.no
def GU(a:Bool):Er->Er->Sto->R Er
 |.val (.str [c]),.val (.str y),S=>.ok (.val (.bl (if a=true then !decide (c∈y)else decide (c∈y)))) S
 |p,q,S=>KR a p q S
abbrev Cb(X:Cx)(a:Bool):R2:=λx y H Q=> ∃α S d q ys bs,Wd X.g α S H/\Den X.K α H d x/\DenX X.K α H q y/\itemsOf S q=some ys/\OU S zF d ys=some bs/\Q (.bl (if a=true then !bs.any id else bs.any id)) H
theorem Sn(B:X.A.units+64<cLine):OpR X (compareOp .In) (Cb X false):=by
 intro pins s σ H x y v u Q I j o h;obtain⟨α,S,d,q,ys,bs,c,m,z,p,k,n⟩:=h;obtain⟨a,vs,rfl,b,l⟩:=uM c p z;cases o;rcases b with b|b
 .obtain⟨its,r,e,_⟩:=I.list b;obtain⟨h1,i⟩:=uL I c (A:=X.A.in1) (by show X.A.units+1+zF<cLine;unfold zF;lia) m j l r k;refine SeqAt.in_listAt _ e.isList (λw hw=>i w (by simpa using hw)) ⟨.bl _,H,I,rfl,?_⟩;rw[any_map h1];exact n
 .obtain⟨its,r,e,_⟩:=I.tuple b;obtain⟨h1,i⟩:=uL I c (A:=X.A.in1) (by show X.A.units+1+zF<cLine;unfold zF;lia) m j l r k;refine SeqAt.in_tupleAt _ e (λw hw=>i w (by simpa using hw)) ⟨.bl _,H,I,rfl,?_⟩;rw[any_map h1];exact n
theorem YN(B:X.A.units+64<cLine):OpR X (compareOp .NotIn) (Cb X true):=by
 intro pins s σ H x y v u Q I j o h;obtain⟨α,S,d,q,ys,bs,c,m,z,p,k,n⟩:=h;obtain⟨a,vs,rfl,b,l⟩:=uM c p z;cases o;rcases b with b|b
 .obtain⟨its,r,e,_⟩:=I.list b;obtain⟨h1,i⟩:=uL I c (A:=X.A.in1) (by show X.A.units+1+zF<cLine;unfold zF;lia) m j l r k;refine SeqAt.notIn_listAt _ e.isList (λw hw=>i w (by simpa using hw)) ⟨.bl _,H,I,rfl,?_⟩;rw[any_map h1];exact n
 .obtain⟨its,r,e,_⟩:=I.tuple b;obtain⟨h1,i⟩:=uL I c (A:=X.A.in1) (by show X.A.units+1+zF<cLine;unfold zF;lia) m j l r k;refine SeqAt.notIn_tupleAt _ e (λw hw=>i w (by simpa using hw)) ⟨.bl _,H,I,rfl,?_⟩;rw[any_map h1];exact n
def VC{b:Bool}:US X W (λx y H Q=>(∃i j,x=.str i/\y=.str j/\Q (.bl (if b=true then !(!(Builtin.Str.occurrences j i 0 j.length 1).isEmpty)else !(Builtin.Str.occurrences j i 0 j.length 1).isEmpty)) H)\/Cb X b x y H Q) (GU b):=by
 intro p q x y α S H Q c e h a;unfold GU at a;split at a
 .refine .inl ⟨_,_,cL e,cL h,?_⟩;rw[<-Ib,PySem.StrLaws.found_one];exact Post.val a c (fA _)
 .unfold KR at a;split at a
  .rename_i d _;split at a
   .rename_i ys m;split at a
    .rename_i bs k;exact .inr ⟨α,S,_,q,ys,bs,c,e,h,m,k,Post.val a c (fA _)⟩
    .exact a.elim
   .exact a.elim
  .exact a.elim
def OpR.imp{f:ń->ń->Sem ń}{r a:R2}(h:OpR X f r)(i: ∀x y H Q,a x y H Q->r x y H Q):OpR X f a:=λpins s σ H x y v u Q I b c q=>h pins s σ H x y v u Q I b c (i x y H Q q)
def So(a:X.A.units+64<cLine):OpR X (compareOp .In) (λx y H Q=>(∃i j,x=.str i/\y=.str j/\Q (.bl (if(false:Bool)=true then !(!(Builtin.Str.occurrences j i 0 j.length 1).isEmpty)else !(Builtin.Str.occurrences j i 0 j.length 1).isEmpty)) H)\/Cb X false x y H Q):=
 OpR.imp (XT.or (Sn a)) λx y H Q q=>q.imp (λq=>q) λq=>q
def YO(a:X.A.units+64<cLine):OpR X (compareOp .NotIn) (λx y H Q=>(∃i j,x=.str i/\y=.str j/\Q (.bl (if(true:Bool)=true then !(!(Builtin.Str.occurrences j i 0 j.length 1).isEmpty)else !(Builtin.Str.occurrences j i 0 j.length 1).isEmpty)) H)\/Cb X true x y H Q):=
 OpR.imp (KA.or (YN a)) λx y H Q q=>q.imp (λq=>q) λq=>q
def Yt(h:X.A.units+64<cLine)(c:zP X W a f)(e:zP X W b g)(d:behindInMarks .In b=false:=by with_unfolding_all rfl):tW X W (.Compare a [.In] [b] pos) (λρ S=>((f ρ S).bind λp S1=>(g ρ S1).bind λq S2=>GU false p q S2).bind nO):=tF (So h) VC c e d
def Cc(h:X.A.units+64<cLine)(c:zP X W a f)(e:zP X W b g)(d:behindInMarks .NotIn b=false:=by with_unfolding_all rfl):tW X W (.Compare a [.NotIn] [b] pos) (λρ S=>((f ρ S).bind λp S1=>(g ρ S1).bind λq S2=>GU true p q S2).bind nO):=tF (YO h) VC c e d
def sI{K:J9}{r:Er}{vs:List V}(d:ArgsX K α H [r] vs): ∃v,vs=[v]/\DenX K α H r v:=by
 cases d with
 |cons a l=>cases l;exact⟨_,rfl,a⟩
def Yu{K:J9}{r b:Er}{vs:List V}(d:ArgsX K α H [r,b] vs): ∃v u,vs=[v,u]/\DenX K α H r v/\DenX K α H b u:=by
 cases d with
 |cons a l=>obtain⟨u,rfl,c⟩:=sI l;exact⟨_,u,rfl,a,c⟩
def lW:List Er->Sto->R Er
 |[.val (.str x)],S=>if x.length<=sizeLine then .ok (.val (.int x.length)) S else .no
 |[r],S=>match itemsOf S r with |some ds=>.ok (.val (.int ds.length)) S|none=>.no
 |_,_=>.no
def Sq:sG X W (λxs H Q=>(∃z,xs=[.str z]/\z.length<=sizeLine/\Q (.int z.length) H)\/ ∃p ys,xs=[.ref p]/\(SqL X.K H p ys\/SqT X.K H p ys)/\Q (.int ys.length) H) lW:=by
 intro rs vs α S H Q c d b;unfold lW at b;split at b
 .split at b
  .rename_i j;obtain⟨v,rfl,h⟩:=sI d;cases cL h;refine .inl ⟨_,rfl,by rw[dE];exact j,?_⟩;exact Post.val b c (wL _)
  .exact b.elim
 .split at b
  .rename_i ds e;obtain⟨v,rfl,h⟩:=sI d;obtain⟨a,us,rfl,i,l⟩:=uM c e h;refine .inr ⟨a,us,rfl,i,?_⟩;rw[l.length];exact Post.val b c (wL _)
  .exact b.elim
 .exact b.elim
def YQ:CallR X (.builtin "len") (λxs H Q=>(∃z,xs=[.str z]/\z.length<=sizeLine/\Q (.int z.length) H)\/ ∃p ys,xs=[.ref p]/\(SqL X.K H p ys\/SqT X.K H p ys)/\Q (.int ys.length) H):=KG.or KF
def KU(S:Sto):Er->Option String
 |.val .non=>some "NoneType"
 |.val (.bl _)=>some "bool"
 |.val (.int _)=>some "int"
 |.val (.str _)=>some "str"
 |.val (.tup _)=>some "tuple"
 |.val (.typ _)=>none
 |.val (.obj _ _ _)=>none
 |r=>(jB S r).map λ_=>"list"
noncomputable def Ju(t T:String):Bool:=t==T || (t=="bool"&&T=="int")
noncomputable def known(T:String):Bool:=T=="int" || T=="bool" || T=="str" || T=="tuple" || T=="list"
def HF:List Er->Sto->R Er
 |[r,.val (.typ T)],S=>match KU S r with
  |some t=>if known T=true then .ok (.val (.bl (Ju t T))) S else .no
  |none=>.no
 |_,_=>.no
theorem eT(K:J9){t T:String}(c:t="NoneType"\/t="bool"\/t="int"\/t="str"\/t="tuple"\/t="list")(a:known T=true):PySem.W.kitOne K (.type t) (.type T)=some (Ju t T):=by
 have b:T="int"\/T="bool"\/T="str"\/T="tuple"\/T="list":=by
  unfold known at a;simp only[Bool.or_eq_true,beq_iff_eq]at a;rcases a with(((h|h)|h)|h)|h
  .exact .inl h
  .exact .inr (.inl h)
  .exact .inr (.inr (.inl h))
  .exact .inr (.inr (.inr (.inl h)))
  .exact .inr (.inr (.inr (.inr h)))
 rcases c with rfl|rfl|rfl|rfl|rfl|rfl<;>rcases b with rfl|rfl|rfl|rfl|rfl<;>kernel_rfl
def Cd:CallR X (.builtin "isinstance") (λxs H Q=> ∃α S r x t T,xs=[x,.ty T]/\Wd X.g α S H/\DenX X.K α H r x/\KU S r=some t/\known T=true/\Q (.bl (Ju t T)) H):=by
 intro pins s σ H xs us Q I p h;obtain⟨α,S,r,x,t,T,rfl,m,d,b,e,q⟩:=h;obtain⟨u,w,rfl,c,v⟩:=vals2 p;cases v;have fin: ∀k,EP X pins σ Q _ {s with toks:=k}:=λk=>⟨.bl _,H,I.tok _,rfl,q⟩
 unfold KU at b;split at b
 .cases b;cases vW d;cases c;exact PySem.W.kia_one PySem.W.kitx_none I.kIn True.intro (eT X.K (.inl rfl) e) (λz=>nomatch z) fin
 .cases b;cases IP d;cases c;exact PySem.W.kia_one PySem.W.kitx_bool I.kIn True.intro (eT X.K (.inr (.inl rfl)) e) (λz=>nomatch z) fin
 .cases b;cases yV d;obtain⟨t,rfl⟩:=c;exact PySem.W.kia_one PySem.W.kitx_int I.kIn True.intro (eT X.K (.inr (.inr (.inl rfl))) e) (λz=>nomatch z) fin
 .cases b;cases cL d;obtain⟨t,rfl⟩:=c;exact PySem.W.kia_one PySem.W.kitx_str I.kIn True.intro (eT X.K (.inr (.inr (.inr (.inl rfl)))) e) (λz=>nomatch z) fin
 .cases b;obtain⟨a,vs,rfl,i,l⟩:=nR d;cases c;obtain⟨its,n,p1,_⟩:=I.tuple i;obtain⟨o,h1,j,_⟩:=p1;exact PySem.W.kia_one PySem.W.kitx_tuple I.kIn ⟨o,h1,j⟩ (eT X.K (.inr (.inr (.inr (.inr (.inl rfl))))) e) (λz=>nomatch z) fin
 .cases b
 .cases b
 .cases z:jB S r with
  |none=>rw[z]at b;cases b
  |some ds=>
   rw[z]at b;cases b;obtain⟨a,vs,rfl,i,l⟩:=sH rfl m z d;cases c;obtain⟨its,n,p1,_⟩:=I.list i;obtain⟨o,h1,j,_⟩:=p1.isList;exact PySem.W.kia_one PySem.W.kitx_list I.kIn ⟨o,h1,j⟩ (eT X.K (.inr (.inr (.inr (.inr (.inr rfl))))) e) (λz=>nomatch z) fin
def Ss:sG X W (λxs H Q=> ∃α S r x t T,xs=[x,.ty T]/\Wd X.g α S H/\DenX X.K α H r x/\KU S r=some t/\known T=true/\Q (.bl (Ju t T)) H) HF:=by
 intro rs vs α S H Q b d a;unfold HF at a;split at a
 .split at a
  .rename_i t e;split at a
   .rename_i c;obtain⟨v,u,rfl,h,i⟩:=Yu d;cases Bk i;exact⟨α,S,_,v,t,_,rfl,b,h,e,c,Post.val a b (fA _)⟩
   .exact a.elim
  .exact a.elim
 .exact a.elim
def xT:List Er->Sto->R Er
 |[.val (.tup ds)],S=>.ok (.val (.tup ds)) S
 |[r],S=>match jB S r with |some ds=>.ok (.val (.tup ds)) S|none=>.no
 |_,_=>.no
def Ce:sG X W (λxs H Q=> ∃p ys,xs=[.ref p]/\((SqL X.K H p ys/\ ∀l,H l=none->Q (.ref l) (wC H l (.tup ys)))\/(SqT X.K H p ys/\Q (.ref p) H))) xT:=by
 intro rs vs α S H Q h d b;unfold xT at b;split at b
 .obtain⟨v,rfl,i⟩:=sI d;obtain⟨a,us,rfl,c,l⟩:=nR i;exact⟨a,us,rfl,.inr ⟨c,Post.val b h (aM c l)⟩⟩
 .split at b
  .rename_i ds e;obtain⟨v,rfl,i⟩:=sI d;obtain⟨a,us,rfl,c,l⟩:=sH rfl h e i;exact⟨a,us,rfl,.inl ⟨c,λp j=>Post.newt b h j l⟩⟩
  .exact b.elim
 .exact b.elim
def OV:List Er->Sto->R Er
 |[r],S=>match itemsOf S r with |some ds=>.ok (.new ds) S|none=>.no
 |_,_=>.no
def Jv:sG X W (λxs H Q=> ∃p ys,xs=[.ref p]/\(SqL X.K H p ys\/SqT X.K H p ys)/\ ∀l,H l=none->Q (.ref l) (wC H l (.lst ys))) OV:=by
 intro rs vs α S H Q c d b;unfold OV at b;split at b
 .split at b
  .rename_i ds e;obtain⟨v,rfl,j⟩:=sI d;obtain⟨a,us,rfl,h,l⟩:=uM c e j;exact⟨a,us,rfl,h,λp i=>Post.newl b c i l⟩
  .exact b.elim
 .exact b.elim
def Su:bootBuiltins "len"=some (.builtin "len"):=by decide+kernel
def HG:bootBuiltins "isinstance"=some (.builtin "isinstance"):=by decide+kernel
def Sv:bootBuiltins "str"=some (.type "str"):=by decide+kernel
def Cf:bootBuiltins "tuple"=some (.type "tuple"):=by decide+kernel
def KW:bootBuiltins "list"=some (.type "list"):=by decide+kernel
end
section
variable{X:Cx}{W:XW}{a e o i:Expr}{es:J8}{f g h:AX}{af:Rho->Sto->R (List Er)}{pos apos:Pos}
def jO(p:Er)(S:Sto):Bool:=(jB S p).isSome
def Cg:TyM X "list" jO:=by
 intro p x α S H b d h;unfold jO at h
 cases z:jB S p with
 |none=>rw[z]at h;cases h
 |some ds=>
  obtain⟨a,vs,rfl,s,l⟩:=sH rfl b z d;exact .inl ⟨rfl,vs,s⟩
def strIdx(x y:Db):Option Nat:=(Builtin.Str.occurrences (cH x) (cH y) 0 (cH x).length 1).head?
noncomputable def YR(p:Er)(S:Sto)(G:List MV->Option (List MV)):R Er:=match p with
 |.val (.loc l)=>match S[l]? with
  |some (.lst ds)=>match G ds with
   |some es=>.ok (.val .non) (S.set l (.lst es))
   |none=>.no
  |_=>.no
 |_=>.no
def YS{c:B9}{p:Er}{x:V}{G:List MV->Option (List MV)}{Q:VK}(d:Wd X.g α S H)(k:Ext c H0 α H)(m:DenX X.K α H p x)(b:Post X.g W c H0 (YR p S G) Q):
  ∃a vs ds es,x=.ref a/\H a=some (.lst vs)/\DenL X.K α H ds vs/\G ds=some es/\ ∀us,DenL X.K α H es us->Q .non (wC H a (.lst us)):=by
 unfold YR at b;split at b
 .rename_i l;obtain⟨a,rfl,h⟩:=fB m;obtain⟨n,h1,q⟩:=d.of h;rw[h1]at b
  cases n with
  |lst ds=>
   obtain⟨vs,e,l1⟩:=q;have b:Post X.g W c H0 (match G ds with |some es=>R.ok _ _|none=>R.no) Q:=b;split at b
   .rename_i es r;refine⟨a,vs,ds,es,rfl,e,l1,r,λus j=>?_⟩;have i:=d.writex h (Gh e) (o:=.lst us);exact(b.shift (k.trans i)).val (d.write h (Gh e) ⟨us,zT,j.ext i⟩) uD
   .exact b.elim
  |dic _=>exact b.elim
  |ins _ _=>exact b.elim
  |rcd _ _=>exact b.elim
  |fdc _=>exact b.elim
 .exact b.elim
def mY:Er->List Er->Sto->R Er
 |p,[r],S=>(kC r S).bind λy S1=>YR p S1 λds=>if ds.length<sizeLine then some (ds++[y])else none
 |_,_,_=>.no
def YT:RZ X W UO mY:=by
 intro p rs x vs α S H0 H Q i u j o e b
 match rs,e,b with
 |[],_,b=>exact b.elim
 |_::_::_,_,b=>exact b.elim
 |[r],e,b=>
  cases e with
  |cons d n l=>
   cases l;obtain⟨B,S',α',w,s,A,q,v⟩:=cM u j d;have b:Post X.g W i H0 ((kC r S).bind λy S1=>YR p S1 λds=>if ds.length<sizeLine then some _ else none) Q:=b;rw[w]at b
   have c:DenX X.K α' H p x:=by
    cases p with
    |val m=>exact Den.ex0 A o
    |new ds=>exact b.elim
   obtain⟨a,us,ds,es,rfl,h1,l1,h,k⟩:=YS q s c b;split at h
   .rename_i z;cases h;exact⟨a,us,_,rfl,rfl,h1,by rw[l1.length];exact z,k _ (l1.append (zS v zZ))⟩
   .cases h
def YU(c:zP X W a f)(b:EK X W (e::es) af)
  (hbase:attributeBase a "append" X.env (eval a X.env)=eval a X.env:=by rfl)
  (hfew:((backTo pos (starEach (e::es) X.env)).all (λx=>!x.1)&&(backToKw pos (keywordEach [] X.env)).all (λx=>x.1.isSome)
   &&decide ↑3)=true:=by rfl)
  (hline:(apos.endLine==pos.line)=true:=by rfl) (hs:q9 X e es:=by rfl) (hplain:Q1 X pos es:=by rfl):
  zP X W (.Call (.Attribute a "append" apos) (e::es) [] pos) (λρ S=>(f ρ S).bind λp S1=>if jO p S1=true then(af ρ S1).bind λrs S2=>mY p rs S2 else .no):=
 UT PySem.F.plainAttrs_list PySem.F.slot_list_append PySem.F.type_list_append YA YT Cg c b hbase hfew hline hs hplain
def IU(p q:Er)(d:MV)(ρ:Rho)(S:Sto):R Rho:=match p,q with
 |.val (.loc l),.val (.int k)=>match S[l]? with
  |some (.lst ds)=>match IF ds.length k with
   |some j=>.ok ρ (S.set l (.lst (ds.set j d)))
   |none=>.no
  |_=>.no
 |_,_=>.no
def Sw(s:zP X W o f)(hi:zP X W i g)
  (ha: ∀v,assign (.Subscript o i pos) X.env v=(do
   let ov <-holding [v] (eval o X.env);let z <-holding [v,ov] (eval i X.env)
   standAt pos
   holding [v,ov,z] (setItem ov z v)
   release [v,ov,z] []):=by intro _;rfl):YI X W (.Subscript o i pos) (λd ρ S=>(f ρ S).bind λp S1=>(g ρ S1).bind λq S2=>IU p q d ρ S2):=by
 obtain⟨to,s,J⟩:=s;obtain⟨T,hi,I⟩:=hi;refine⟨_,RN s hi set_list ha,λα ρ S σ H d v Q E sl G q=>J α ρ S σ H _ E sl (q.bind λu p S1 A H1 U m K N L=>I A ρ S1 σ H1 _ K (sl.ext m) ((L.shift m).bind λP p2 S2 c C Y e y O b=>?_))⟩
 replace b:=b.shift e
 have B:=DenX.ext e N.1;unfold IU at b;split at b
 .rename_i l k;obtain⟨a,rfl,h⟩:=fB B;cases yV O.1;obtain⟨F,h1,M⟩:=y.of h;rw[h1]at b
  cases F with
  |lst ds=>
   obtain⟨vs,r,l1⟩:=M;have b:Post X.g W c C (match IF ds.length k with |some j=>R.ok ρ _|none=>R.no) Q:=b;split at b
   .rename_i j D;have n:=y.writex h (Gh r) (o:=.lst (vs.set j v));have w:=((sl.ext m).ext e).ext n;exact⟨a,vs,k,j,rfl,rfl,r,by rw[l1.length];exact D,b σ c _ n (y.write h (Gh r) ⟨_,zT,(l1.set ((G.ext m).ext e) j).ext n⟩) w⟩
   .exact b.elim
  |dic _=>exact b.elim
  |ins _ _=>exact b.elim
  |rcd _ _=>exact b.elim
  |fdc _=>exact b.elim
 .exact b.elim
end
def _root_.L2.Inv.turnedL{X:Cx}{pins:J5}{s:Ń}{h':Heap}{t':Nat}{fp:B9}(I:↑2)(k: ∀b o,b∉fp->s.heap.get? b=some o->h'.get? b=some o)
  (hf: ∀b∈fp,oN X pins H b):Inv X pins σ H {s with heap:=h',toks:=t'}:=by
 have d: ∀b u,H b=some u->b∉fp:=λb u e z=>by rw[(hf b z).1]at e;cases e
 refine I.step (λb h=>⟨(hf b h).2.2.2.1,(hf b h).2.1,(hf b h).2.2.2.2.1,(hf b h).2.2.2.2.2⟩) (λb o _ _ a e _=>k b o a e) (λb o _ _ a e _=>⟨_,k b o a e⟩) (λ_ _ _ _ n=>n)
  (λb o a e=>⟨o,k b o a e⟩) (λ_ _ e=>e) (λ_ _ _ e=>e) (λb ps e=>⟨#[],by rw[e];simp⟩) (λm j=>?_) (λb u e=>?_) I.bare
 .obtain⟨o,es,ep,i,r⟩:=j;exact⟨o,es,ep,k _ o (λz=>(hf _ z).2.1 rfl) i,r⟩
 .refine(I.hok b u e).stay (λc v a q=>k c v ?_ q) (λ_ q=>q) λ_ _ q=>q;rcases a with z|z
  .rw[z];exact d b u e
  .exact d c _ z
def IsSub(k:Bool)(h:Heap)(it l:Addr)(i:Nat):Prop:=if k=true then h.IsListIter it l i else h.IsTupleIter it l i
def IsSeq(k:Bool)(h:Heap)(l:Addr)(its:B0):Prop:=if k=true then h.IsList l its else h.IsTuple l its
noncomputable def qL(k:Bool)(l:Addr):Obj:={cls:=.type (if k=true then "list_iterator" else "tuple_iterator"),data:=.fields #[.ref l,.int 0 0]}
def IsSub.mk'{k:Bool}{h:Heap}{it l:Addr}(e:h.get? it=some (qL k l)):IsSub k h it l 0:=by
 cases k with
 |true=>exact⟨_,e,rfl,rfl⟩
 |false=>exact⟨_,e,rfl,rfl⟩
def IsSub.there{k:Bool}{h:Heap}{it l:Addr}{i:Nat}(x:IsSub k h it l i): ∃o,h.get? it=some o/\ ∀v,o.data≠.cell v:=by
 cases k with
 |true=>obtain⟨o,e,_,d⟩:=(x:h.IsListIter it l i);exact⟨o,e,λv z=>by rw[d]at z;cases z⟩
 |false=>obtain⟨o,e,_,d⟩:=(x:h.IsTupleIter it l i);exact⟨o,e,λv z=>by rw[d]at z;cases z⟩
def IsSub.move{k:Bool}{h h':Heap}{it l:Addr}{i:Nat}(x:IsSub k h it l i)(f: ∀o,h.get? it=some o->h'.get? it=some o):IsSub k h' it l i:=by
 cases k with
 |true=>obtain⟨o,e,r⟩:=(x:h.IsListIter it l i);exact⟨o,f o e,r⟩
 |false=>obtain⟨o,e,r⟩:=(x:h.IsTupleIter it l i);exact⟨o,f o e,r⟩
def IsSeq.move{k:Bool}{h h':Heap}{l:Addr}(x:IsSeq k h l its)(f: ∀o,h.get? l=some o->h'.get? l=some o):IsSeq k h' l its:=by
 cases k with
 |true=>obtain⟨o,e,r⟩:=(x:h.IsList l its);exact⟨o,f o e,r⟩
 |false=>obtain⟨o,e,r⟩:=(x:h.IsTuple l its);exact⟨o,f o e,r⟩
section
variable{prog:ņ}{w:World}{A:Ņ}{E:VP}{s:Ń}
def qM{k:Bool}{l:Addr}(a:IsSeq k s.heap l its)(h:Q (.ref ↑0) {s with heap:=s.heap.push (qL k l)}):wpAny (model prog w) A (pyIter (.ref l)) Q E s:=by
 cases k with
 |true=>exact wpAny_pyIter_list a h
 |false=>exact wpAny_pyIter_tuple a h
def fE{k:Bool}{it l:Addr}{i:Nat}{x:ń}(b:IsSub k s.heap it l i)(j:IsSeq k s.heap l its)(h:its[i]? =some x)
  (hQ: ∀h',IsSub k h' it l (i+1)->Heap.SameBut it s.heap h'->Q x {s with heap:=h'}):wpAny (model prog w) A (Builtin.SmallTypes.nextOf (.ref it)) Q E s:=by
 cases k with
 |true=>exact wpAny_nextOf_list_item b j h hQ
 |false=>
  have a:=b;obtain⟨o,c,m,hd⟩:=id a;obtain⟨n,d,_,p,e⟩:=(j:s.heap.IsTuple l its)
  refine wB (î a.typeIs ĳ (ì ĳ a.typeIs F.entry_tuple_iterator_next ?_ (F.args_tuple_iterator_next_1 _)));show wpAny _ _ (field _ 0 >>= _) _ _ s;refine wB (ð c hd rfl ?_);refine wB (ð c hd rfl ?_);refine wB (č d e ?_);simp only[Ď,h];refine wB (wpAny_setField c hd (by simp) (wP ⟨x,rfl,wP (hQ _ ?_ (ď ..))⟩));exact⟨_,Heap.get?_update_self _ c (Obj.isFreed_of_fields (Obj.data_mapFields hd _)),(Obj.cls_mapFields ..).trans m,by rw[Obj.data_mapFields hd];simp[rawInt]⟩
def uN{k:Bool}{it l:Addr}{i:Nat}(d:A.handled=none)(b:IsSub k s.heap it l i)(n:IsSeq k s.heap l its)(m:its[i]? =none)
  (hE: ∀h' e,Heap.ExtBut it s.heap h'->(∃o,h'.get? e=some o/\o.cls=.type "StopIteration")->E (.ref e) {s with heap:=h'}):wpAny (model prog w) A (Builtin.SmallTypes.nextOf (.ref it)) Q E s:=by
 cases k with
 |true=>exact wpAny_nextOf_list_end d b n m hE
 |false=>
  have a:=b;obtain⟨o,c,r,hd⟩:=id a;obtain⟨p,h,_,q,j⟩:=(n:s.heap.IsTuple l its)
  refine wB (î a.typeIs ĳ (ì ĳ a.typeIs F.entry_tuple_iterator_next ?_ (F.args_tuple_iterator_next_1 _)));show wpAny _ _ (field _ 0 >>= _) _ _ s;refine wB (ð c hd (x:=.ref l) rfl ?_);refine wB (ð c hd rfl ?_);refine wB (č h j ?_);simp only[Ď,m];refine wB (Ę (wB (wpAny_setField c hd (by simp) ?_)));refine wB ?_;refine wB (ć ?_ (by size_fits));refine wB (wpAny_of_eq (by first |rfl|(simp only[firstArgMember];rfl)) ?_);refine ć ?_ (by size_fits);simp only[raiseNew];refine wB (wpAny_handled ?_)
  first |rw[show A.in1.handled=none from d]|rw[d]
  refine wB (wP (wpAny_throw ?_));exact hE _ _ (((ď ..).extBut.push _).push _) ⟨_,ã _ rfl,rfl⟩
end
structure ZipSt(k1 k2:Bool)(z TI TO i1 i2 l1 l2:Addr)(i:Nat)(h:Heap):Prop where
 z:IsZip h z TI TO .none
 ti:IsPair h TI (.ref i1) (.ref i2)
 to: ∃a b,IsPair h TO a b
 s1:IsSub k1 h i1 l1 i
 s2:IsSub k2 h i2 l2 i
structure Apart5(z TI TO i1 i2:Addr):Prop where
 TIz:TI≠z
 TOz:TO≠z
 i1z:i1≠z
 i2z:i2≠z
 TITO:TI≠TO
 TIi1:TI≠i1
 TIi2:TI≠i2
 TOi1:TO≠i1
 TOi2:TO≠i2
 i12:i1≠i2
section
variable{prog:ņ}{w:World}{A:Ņ}{E:VP}{s:Ń}{k1 k2:Bool}{z TI TO i1 i2 l1 l2:Addr}{i:Nat}{xs ys:B0}
def Off(l z TO i1 i2:Addr):Prop:=l≠z/\l≠TO/\l≠i1/\l≠i2
def OW{x y:ń}(D:Apart5 z TI TO i1 i2)(o1:Off l1 z TO i1 i2)(Y:Off l2 z TO i1 i2)(st:ZipSt k1 k2 z TI TO i1 i2 l1 l2 i s.heap)(T:IsSeq k1 s.heap l1 xs)(Z:IsSeq k2 s.heap l2 ys)(hx:xs[i]? =some x)(hy:ys[i]? =some y)
  (hQ: ∀h',IsZip h' z TI TO (rawInt ↑0)->IsPair h' TO x y->IsSub k1 h' i1 l1 (i+1)->IsSub k2 h' i2 l2 (i+1)->IsPair h' ↑0 x y->
   (∀c o,c≠z->c≠TO->c≠i1->c≠i2->s.heap.get? c=some o->h'.get? c=some o)->Q (.ref ↑0) {s with heap:=h'}):
  wpAny (model prog w) A (Builtin.«zip.__next__» ⟨[.ref z],[]⟩) (λfin s'=> ∃v,fin=.done (.ret v)/\Q v s') E s:=by
 obtain⟨K,ae,⟨a,b,aa⟩,h1,h2⟩:=st;show wpAny _ _ (field (.ref z) 2 >>= _) _ _ _;refine wB (ð K rfl (x:=.bool false) rfl ?_);show wpAny _ _ (field (.ref z) 3 >>= _) _ _ _;refine wB (ð K rfl (x:=.ref TI) rfl (wB (č ae rfl ?_)));show wpAny _ _ _ _ _ _;refine wB ?_;unfold Builtin.SmallTypes.ownedTupleIsFree;refine wB (ð K rfl (x:=.none) rfl (wP ?_));simp only[if_true];refine wB (Ę (wB (ð K rfl (x:=.ref TO) rfl (wB (ô K (by simp) λha u h=>?_)))))
 replace u:IsZip ha z TI TO .ellipsis:=u
 refine wB ?_;simp only[zipIdx_cons,zipIdx_nil,forIn_cons,forIn_nil];refine wB (wB (wpAny_onRaise ?_));show wpAny _ _ _ _ _ _;refine wB (fE (h1.move λo e=>h.extBut _ _ D.i1z e) (T.move λo e=>h.extBut _ _ o1.1 e) hx λhb ab m=>wP ?_);have H:IsPair hb TO a b:=m.extBut _ _ D.TOi1 (h.extBut _ _ D.TOz aa);refine wB (č H rfl (wB (wpAny_updateSeq_pair H λhc B n=>wB (wpAny_letGo (wP ?_)))))
 replace B:IsPair hc TO x b:=B
 refine wB (wB (wpAny_onRaise ?_));show wpAny _ _ _ _ _ _;have mv: ∀c o,c≠z->c≠TO->c≠i1->s.heap.get? c=some o->hc.get? c=some o:=λc o S M O e=>n.extBut _ _ M (m.extBut _ _ O (h.extBut _ _ S e));refine wB (fE (h2.move λo e=>mv _ o D.i2z D.TOi2.symm D.i12.symm e) (Z.move λo e=>mv _ o Y.1 Y.2.1 Y.2.2.1 e) hy λhd U k=>wP ?_);have F:IsPair hd TO x b:=k.extBut _ _ D.TOi2 B;refine wB (č F rfl (wB (wpAny_updateSeq_pair F λd q j=>wB (wpAny_letGo (wP (wP ?_))))))
 replace q:IsPair d TO x y:=q
 refine wB (č q rfl (wB (wpAny_newTuple ?_)));have G:d.objs.size=s.heap.objs.size:=by rw[j.1,k.1,n.1,m.1,h.1]
 have ze:IsZip d z TI TO .ellipsis:=j.extBut _ _ D.TOz.symm (k.extBut _ _ D.i2z.symm (n.extBut _ _ D.TOz.symm (m.extBut _ _ D.i1z.symm u)));have X: ∀c o,c≠z->c≠TO->c≠i1->c≠i2->s.heap.get? c=some o->d.get? c=some o:=λc o S M O n4 e=>j.extBut _ _ M (k.extBut _ _ n4 (mv c o S M O e));have P:IsSub k1 d i1 l1 (i+1):=ab.move λo e=>j.extBut _ _ D.TOi1.symm (k.extBut _ _ D.i12 (n.extBut _ _ D.TOi1.symm e));have ag:IsSub k2 d i2 l2 (i+1):=U.move λo e=>j.extBut _ _ D.TOi2.symm e;have r:z<d.objs.size:=â ze;show wpAny _ _ _ _ _ _;refine wB ?_;unfold Builtin.SmallTypes.ownedTupleHandOut;have zf:IsZip (d.push {cls:=.type "tuple",data:=.seq #[x,y]}) z TI TO .ellipsis:=hP0 _ ze;refine wB (ô zf (by simp) λaf W C=>?_)
 replace W:IsZip af z TI TO (rawInt d.objs.size):=W
 refine ô W (by simp) λp L I=>?_
 replace L:IsZip p z TI TO (rawInt d.objs.size):=L
 have N: ∀c o,c≠z->d.get? c=some o->p.get? c=some o:=λc o J e=>I.extBut _ _ J (C.extBut _ _ J (hP0 _ e));have tT:IsPair p d.objs.size x y:=I.extBut _ _ (ù r) (C.extBut _ _ (ù r) (ã _ rfl));rw[G]at L tT;refine wP ⟨_,rfl,?_⟩;show Q (.ref d.objs.size) _;rw[G];exact hQ p L (N _ _ D.TOz q) (P.move λo e=>N _ o D.i1z e) (ag.move λo e=>N _ o D.i2z e) tT λc o J c2 c3 c4 e=>N c o J (X c o J c2 c3 c4 e)
def VD{Q:Fin->Ń->Prop}(Y:A.handled=none)(D:Apart5 z TI TO i1 i2)(Z:Off l1 z TO i1 i2)(L:Off l2 z TO i1 i2)(st:ZipSt k1 k2 z TI TO i1 i2 l1 l2 i s.heap)(u:IsSeq k1 s.heap l1 xs)(M:IsSeq k2 s.heap l2 ys)(H:xs[i]? =none\/ys[i]? =none)
  (hE: ∀h' e,(∀c o,c≠z->c≠TO->c≠i1->c≠i2->s.heap.get? c=some o->h'.get? c=some o)->(∃o,h'.get? e=some o/\o.cls=.type "StopIteration")->E (.ref e) {s with heap:=h'}):
  wpAny (model prog w) A (Builtin.«zip.__next__» ⟨[.ref z],[]⟩) Q E s:=by
 obtain⟨G,O,⟨a,b,N⟩,h1,h2⟩:=st;show wpAny _ _ (field (.ref z) 2 >>= _) _ _ _;refine wB (ð G rfl (x:=.bool false) rfl ?_);show wpAny _ _ (field (.ref z) 3 >>= _) _ _ _;refine wB (ð G rfl (x:=.ref TI) rfl (wB (č O rfl ?_)));show wpAny _ _ _ _ _ _;refine wB ?_;unfold Builtin.SmallTypes.ownedTupleIsFree;refine wB (ð G rfl (x:=.none) rfl (wP ?_));simp only[if_true];refine wB (Ę (wB (ð G rfl (x:=.ref TO) rfl (wB (ô G (by simp) λha p d=>?_)))))
 replace p:IsZip ha z TI TO .ellipsis:=p
 refine wB ?_;simp only[zipIdx_cons,zipIdx_nil,forIn_cons,forIn_nil];refine wB (wB (wpAny_onRaise ?_));show wpAny _ _ _ _ _ _
 cases S:xs[i]? with
 |none=>
  refine wB (uN Y (h1.move λo e=>d.extBut _ _ D.i1z e) (u.move λo e=>d.extBut _ _ Z.1 e) S λJ e k K=>?_);obtain⟨X,j,n⟩:=K;have I:IsZip J z TI TO .ellipsis:=k _ _ D.i1z.symm p;have r:e≠z:=λq=>by subst q;rw[I]at j;cases j;simp at n
  exact ô I (by simp) λP _ m=>hE P e (λc o B _ W _ q=>m.extBut _ _ B (k _ _ W (d.extBut _ _ B q))) ⟨X,m.extBut _ _ r j,n⟩
 |some x=>
  have hy:ys[i]? =none:=by rcases H with h|h;(rw[S]at h;cases h);exact h
  refine wB (fE (h1.move λo e=>d.extBut _ _ D.i1z e) (u.move λo e=>d.extBut _ _ Z.1 e) S λJ aa k=>wP ?_);have y:IsPair J TO a b:=k.extBut _ _ D.TOi1 (d.extBut _ _ D.TOz N);refine wB (č y rfl (wB (wpAny_updateSeq_pair y λP ab m=>wB (wpAny_letGo (wP ?_)))));refine wB (wB (wpAny_onRaise ?_));show wpAny _ _ _ _ _ _;have U: ∀c o,c≠z->c≠TO->c≠i1->s.heap.get? c=some o->P.get? c=some o:=λc o n1 n2 n3 e=>m.extBut _ _ n2 (k.extBut _ _ n3 (d.extBut _ _ n1 e));refine wB (uN Y (h2.move λo e=>U _ o D.i2z D.TOi2.symm D.i12.symm e) (M.move λo e=>U _ o L.1 L.2.1 L.2.2.1 e) hy λhd e F K=>?_);obtain⟨X,j,n⟩:=K;have C:IsZip hd z TI TO .ellipsis:=F _ _ D.i2z.symm (m.extBut _ _ D.TOz.symm (k.extBut _ _ D.i1z.symm p));have r:e≠z:=λq=>by subst q;rw[C]at j;cases j;simp at n
  exact ô C (by simp) λT _ v=>hE T e (λc o B c2 W c4 q=>v.extBut _ _ B (F _ _ c4 (U c o B c2 W q))) ⟨X,v.extBut _ _ r j,n⟩
def SJ(k1 k2:Bool)(l1 l2:Addr)(xs ys:B0):
  Meets (Builtin.«zip.__new__» ⟨[.type "zip",.ref l1,.ref l2],[]⟩) (λ_ R s=>IsSeq k1 s.heap l1 xs/\IsSeq k2 s.heap l2 ys/\
   R (.ok (.ret (.ref (↑0+4)))) {s with heap:=((((s.heap.push (qL k1 l1)).push (qL k2 l2)).push {cls:=.type "tuple",data:=.seq #[.ref ↑0,.ref (↑0+1)]}).push {cls:=.type "tuple",data:=.seq #[.none,.none]}).push {cls:=.type "zip",data:=.fields #[.none,.bool false,.bool false,.ref (↑0+2),.ref (↑0+3)]}}):=
 .of_wp λprog w A R s h=>by
  obtain⟨m,g,d,n,p⟩:=s;obtain⟨b,a,h⟩:=h;have k:=sub_zip;have c:IsSeq k1 _ l1 xs:=b;have i:IsSeq k2 (Shared.heap ⟨m.push (qL k1 l1),g,d,n,p⟩) l2 ys:=a.move λo e=>hP0 _ e;have j: ∀(h:Heap)(o:Obj),(h.push o).objs.size=h.objs.size+1:=λh o=>ĭ ..;simp only[j]at h ⊢
  wp_walk using qM c,qM i
  exact⟨_,rfl,by simp only[j];exact h⟩
def OX(j:IsSeq k1 s.heap l1 xs)(i:IsSeq k2 s.heap l2 ys)
  (h: ∀h',ZipSt k1 k2 (↑0+4) (↑0+2) (↑0+3) ↑0 (↑0+1) l1 l2 0 h'->(∀c o,s.heap.get? c=some o->h'.get? c=some o)->Q (.ref (↑0+4)) {s with heap:=h'}):
  wpAny (model prog w) A (call (.type "zip") [.ref l1,.ref l2]) Q E s:=by
 refine callType_new F.called_zip (by decide) (F.typeCall_zip_2 _ _) (F.newCall_zip_2 _ _) (λk=>F.args_object_init_3 k _ _) F.entry_zip_new (SJ k1 k2 l1 l2 xs ys) ⟨j,i,?_⟩;have d: ∀(h:Heap)(o:Obj),(h.push o).objs.size=h.objs.size+1:=λh o=>ĭ ..;have b: ∀(h:Heap)(o:Obj)(n:Nat),o.isFreed=false->h.objs.size=n->(h.push o).get? n=some o:=λh o n m e=>by subst e;exact ã _ m
 have a: ∀(h:Heap)(o u:Obj)(n:Nat),h.get? n=some u->(h.push o).get? n=some u:=λh o u n e=>hP0 _ e;refine⟨⟨_,b _ _ _ rfl (by simp only[d]),rfl⟩,h _ ⟨b _ _ _ rfl (by simp only[d]),a _ _ _ _ (a _ _ _ _ (b _ _ _ rfl (by simp only[d]))),⟨.none,.none,a _ _ _ _ (b _ _ _ rfl (by simp only[d]))⟩,?_,?_⟩ λc o e=>a _ _ _ _ (a _ _ _ _ (a _ _ _ _ (a _ _ _ _ (a _ _ _ _ e))))⟩
 .exact IsSub.mk' (a _ _ _ _ (a _ _ _ _ (a _ _ _ _ (a _ _ _ _ (b _ _ _ rfl rfl)))))
 .exact IsSub.mk' (a _ _ _ _ (a _ _ _ _ (a _ _ _ _ (b _ _ _ rfl (by simp only[d])))))
end
theorem apart_new(n:Nat):Apart5 (n+4) (n+2) (n+3) n (n+1):=by constructor<;>(show(_:Nat)≠_;lia)
def GV(k:Bool)(K:J9)(H:Hp)(a:Addr)(xs:List V):Prop:=if k=true then SqL K H a xs else SqT K H a xs
def Itz(K:J9)(k1 k2:Bool)(l1 l2:Addr):It:=
 ⟨λi H=> ∃xs ys x y,GV k1 K H l1 xs/\GV k2 K H l2 ys/\xs[i]? =some x/\ys[i]? =some y,
   λi H v H'=> ∃p x y,H p=none/\v=.ref p/\H'=wC H p (.tup [x,y])/\(∀xs,GV k1 K H l1 xs->xs[i]? =some x)/\ ∀ys,GV k2 K H l2 ys->ys[i]? =some y,
   λi H=> ∃xs ys,GV k1 K H l1 xs/\GV k2 K H l2 ys/\(xs.length<=i\/ys.length<=i)⟩
section
variable{X:Cx}{pins:J5}{σ:St}{H:Hp}{s:Ń}
def _root_.L2.Inv.seqK(I:↑2){k:Bool}{a:Addr}(h:GV k X.K H a xs): ∃its:List ń,Vals xs its/\IsSeq k s.heap a its.toArray/\xs.length<=sizeLine:=by
 cases k with
 |true=>obtain⟨its,r,p,z⟩:=I.list h;exact⟨its,r,p.isList,z⟩
 |false=>obtain⟨its,r,p,z⟩:=I.tuple h;exact⟨its,r,p,z⟩
def _root_.L2.Inv.seqK_inj(I:↑2){k:Bool}{a:Addr}{ys:List V}(h:GV k X.K H a xs)(h':GV k X.K H a ys):xs=ys:=by
 cases k with
 |true=>exact I.list_inj h h'
 |false=>exact I.tuple_inj h h'
def iV(I:↑2){k:Bool}{l b:Addr}(h:GV k X.K H l xs)(a:oN X pins H b):l≠b:=by
 rintro rfl
 have c: ∀o,X.K.lookup l=some o->False:=λo e=>by
  have d:=I.mod.kin l o e;rcases a.2.2.2.1 with z|z
  .exact I.ok.noex l o d z
  .exact absurd (ç (â d) (ø I.ok.bsz z)) (Į _)
 cases k with
 |true=>
  rcases (h:SqL X.K H l xs)with(h|⟨o,h⟩)|⟨o,its,n,h,_⟩
  .rw[a.1]at h;cases h
  .rw[a.1]at h;cases h
  .exact c o h
 |false=>
  rcases (h:SqT X.K H l xs)with(h|⟨o,h⟩)|⟨o,its,n,h,_⟩
  .rw[a.1]at h;cases h
  .rw[a.1]at h;cases h
  .exact c o h
end
theorem Ci{P:ņ}{w:World}{K:J9}{elts:J8}{kt:Nat}{pt:Pos}{k1 k2:Bool}{z TI TO i1 i2 l1 l2:Addr}(D:Apart5 z TI TO i1 i2):
  Turn P w K (.Tuple elts kt pt) (Itz K k1 k2 l1 l2) [z,TI,TO,i1,i2] z (λi h=>ZipSt k1 k2 z TI TO i1 i2 l1 l2 i h) where
 mem:=by simp
 obj:=λi h st b hb=>by
  obtain⟨hz,hTI,⟨a,b',hTO⟩,h1,h2⟩:=st;have hb':b=z\/b=TI\/b=TO\/b=i1\/b=i2:=by simpa using hb
  rcases hb' with rfl|rfl|rfl|rfl|rfl
  .exact⟨_,hz,λv q=>by cases q⟩
  .exact⟨_,hTI,λv q=>by cases q⟩
  .exact⟨_,hTO,λv q=>by cases q⟩
  .exact h1.there
  .exact h2.there
 keep:=λi h h' st k=>by obtain⟨hz,hTI,⟨a,b',hTO⟩,h1,h2⟩:=st;exact⟨k z (by simp) _ hz,k TI (by simp) _ hTI,⟨a,b',k TO (by simp) _ hTO⟩,h1.move λo e=>k i1 (by simp) o e,h2.move λo e=>k i2 (by simp) o e⟩
 item:=by
  intro X hP hw hK hc i pins s σ H E I hf st hg;subst hP hw hK;obtain⟨xs,ys,x,y,q1,q2,hx,hy⟩:=hg;obtain⟨its,r1,p1,_⟩:=I.seqK q1;obtain⟨its2,r2,p2,_⟩:=I.seqK q2;obtain⟨u,hu,ru⟩:=r1.get hx;obtain⟨v,hv,rv⟩:=r2.get hy;have off: ∀{k:Bool}{l:Addr}{xs:List V},GV k X.K H l xs->Off l z TO i1 i2:=λq=>⟨iV I q (hf z (by simp)),iV I q (hf TO (by simp)),iV I q (hf i1 (by simp)),iV I q (hf i2 (by simp))⟩
  have hT:s.TypeIs (.ref z) "zip":=⟨_,st.z,rfl⟩
  unfold pyNext
  refine wB (Ĉ (î hT ĉ (ì ĉ hT Ļ
   (OW D (off q1) (off q2) st p1 p2 (x:=u) (y:=v) (by simpa using hu) (by simpa using hv) λh' a1 a2 a3 a4 a5 a6=>wP ⟨_,rfl,?_⟩) (Ķ _))))
  refine wpAny_letOwnedTupleGo_zip a1 λh2 z2 sb2=>?_;have hpn:H ↑0=none:=I.hok.fresh (à _)
  have I0:Inv X pins σ _ {s with heap:=s.heap.push {cls:=.type "tuple",data:=.seq #[u,v]}}:=
   I.laid (t':=s.toks) (o:=.tup [x,y]) (λb o e=>hP0 _ e) (à _) ⟨by show 2<=sizeLine;decide,[u,v],.cons ru (.cons rv .nil),⟨_,ã _ rfl,rfl,_,rfl⟩⟩
  have lt: ∀b∈[z,TI,TO,i1,i2],b<s.heap.objs.size:=λb hb=>by
   have: ∃o,s.heap.get? b=some o:=by
    obtain⟨hz,hTI,⟨a,b',hTO⟩,g1,g2⟩:=st;have hb':b=z\/b=TI\/b=TO\/b=i1\/b=i2:=by simpa using hb
    rcases hb' with rfl|rfl|rfl|rfl|rfl
    .exact⟨_,hz⟩
    .exact⟨_,hTI⟩
    .exact⟨_,hTO⟩
    .obtain⟨o,e,_⟩:=g1.there;exact⟨o,e⟩
    .obtain⟨o,e,_⟩:=g2.there;exact⟨o,e⟩
   obtain⟨o,e⟩:=this;exact â e
  have fr: ∀b∈[z,TI,TO,i1,i2],wC H ↑0 (.tup [x,y]) b=none:=λb hb=>by rw[zL (ë (lt b hb))];exact(hf b hb).1
  have zne:↑0≠z:=ù (lt z (by simp))
  have mv: ∀b o,b∉[z,TI,TO,i1,i2]->(s.heap.push {cls:=.type "tuple",data:=.seq #[u,v]}).get? b=some o->h2.get? b=some o:=λb o hb e=>by
   simp only[mC,nM,or_false,not_or]at hb;refine sb2.extBut _ _ hb.1 ?_;by_cases hbs:b=↑0
   .subst hbs;rw[ã _ rfl]at e;cases e;exact a5
   .rw[Heap.get?_push_ne _ _ _ hbs]at e;exact a6 b o hb.1 hb.2.2.1 hb.2.2.2.1 hb.2.2.2.2 e
  have I2:=I0.turnedL (h':=h2) (t':=s.toks) mv λb hb=>let ⟨_,c2,c3,c4,c5,c6⟩:=hf b hb;⟨fr b hb,c2,c3,c4,c5,c6⟩;refine⟨.ref ↑0,_,I2,rfl,⟨↑0,x,y,hpn,rfl,rfl,λzs hz=>?_,λzs hz=>?_⟩,⟨z2,?_,⟨u,v,?_⟩,?_,?_⟩,fr⟩
  .rw[I.seqK_inj hz q1];exact hx
  .rw[I.seqK_inj hz q2];exact hy
  .exact sb2.extBut _ _ D.TIz (a6 TI _ D.TIz D.TITO D.TIi1 D.TIi2 st.ti)
  .exact sb2.extBut _ _ D.TOz a2
  .exact a3.move λo e=>sb2.extBut _ _ D.i1z e
  .exact a4.move λo e=>sb2.extBut _ _ D.i2z e
 done:=by
  intro X hP hw hK hc i pins s σ H E I hf st hg;subst hP hw hK;obtain⟨xs,ys,q1,q2,hx⟩:=hg;obtain⟨its,r1,p1,_⟩:=I.seqK q1;obtain⟨its2,r2,p2,_⟩:=I.seqK q2;have off: ∀{k:Bool}{l:Addr}{xs:List V},GV k X.K H l xs->Off l z TO i1 i2:=λq=>⟨iV I q (hf z (by simp)),iV I q (hf TO (by simp)),iV I q (hf i1 (by simp)),iV I q (hf i2 (by simp))⟩
  have hT:s.TypeIs (.ref z) "zip":=⟨_,st.z,rfl⟩
  have e1:=r1.length;have e2:=r2.length;unfold pyNext
  refine wB (Ĉ (î hT ĉ (ì ĉ hT Ļ
   (VD (I.ok.hd hc) D (off q1) (off q2) st p1 p2 (by rcases hx with h|h;(exact .inl (by simp;lia));exact .inr (by simp;lia)) λh' e hk he=>?_) (Ķ _))))
  obtain⟨o,ho,hcl⟩:=he;refine wB (ğ (b:=true) ⟨o,ho,hcl⟩ isSubtype_stop (wP ⟨rfl,?_⟩));refine I.turnedL (h':=h') (t':=s.toks) (λb o hb e=>?_) hf;simp only[mC,nM,or_false,not_or]at hb;exact hk b o hb.1 hb.2.2.1 hb.2.2.2.1 hb.2.2.2.2 e
 self:=λ_ _ _ _ _ st h=>wpAny_pyIter_zip st.z h
structure Sr where
 k:Bool
 ds:List MV
 gs:List (Nat×List MV)
noncomputable def srcOf(S:Sto):Er->Option Sr
 |.val (.tup ds)=>some ⟨false,ds,[]⟩
 |.new ds=>some ⟨true,ds,[]⟩
 |.val (.scr ds)=>some ⟨true,ds,[]⟩
 |.val (.loc l)=>match S[l]? with
  |some (.lst ds)=>some ⟨true,ds,[(l,ds)]⟩
  |_=>none
 |_=>none
structure SrcD(X:Cx)(q:Sr)(l:Addr)(P:List Addr->Sto->Hp->Prop):Prop where
 get: ∀α S H,P α S H-> ∃vs,GV q.k X.K H l vs/\DenL X.K α H q.ds vs
 stays: ∀α1 S1 H1 α2 S2 H2,P α1 S1 H1->Ext α1 H1 α2 H2->Wd X.g α2 S2 H2->stay q.gs S2->P α2 S2 H2
 st: ∀α S H,P α S H->stay q.gs S
def AB{X:Cx}(z:Wd X.g α S H){r:Er}{x:V}{q:Sr}(e:srcOf S r=some q)(d:DenX X.K α H r x): ∃l P,x=.ref l/\P α S H/\SrcD X q l P:=by
 unfold srcOf at e;split at e
 .rename_i ds;cases e;obtain⟨a,vs,rfl,s,l⟩:=nR d;exact⟨a,λα S H=> ∃vs,_,rfl,⟨vs,s,l⟩,λα S H h=>h,λi S1 H1 j S2 m ⟨vs,h1,c⟩ x w _=>⟨vs,x.sqT h1,c.ext x⟩,λ_ _ _ _=>jN⟩
 .rename_i ds;cases e;obtain⟨b,vs,rfl,h,n,l⟩:=d
  exact⟨b,λα S H=> ∃vs,H b=some (.lst vs)/\b∉α/\DenL X.K α H ds vs,rfl,⟨vs,h,n,l⟩,λα S H ⟨vs,h1,_,c⟩=>⟨vs,(SqL.of h1:SqL X.K H b vs),c⟩,
   λi S1 H1 j S2 m ⟨vs,h1,c,C⟩ x w _=>⟨vs,x.keep b _ h1 c,x.out h1 c,C.ext x⟩,λ_ _ _ _=>jN⟩
 .rename_i ds;cases e;obtain⟨a,vs,rfl,s,l⟩:=EI d;exact⟨a,λα S H=> ∃vs,SqF X.K H a vs/\DenL X.K α H ds vs,rfl,⟨vs,s,l⟩,λα S H ⟨vs,h1,c⟩=>⟨vs,h1.l,c⟩,λi S1 H1 j S2 m ⟨vs,h1,c⟩ x w _=>⟨vs,x.sqF h1,c.ext x⟩,λ_ _ _ _=>jN⟩
 .rename_i n;split at e
  .rename_i ds v;cases e;obtain⟨a,rfl,h⟩:=fB d;obtain⟨vs,h1,c⟩:=z.obj n a _ h v;refine⟨a,λα S H=> ∃vs,H a=some (.lst vs)/\DenL X.K α H ds vs/\α[n]? =some a/\S[n]? =some _,rfl,⟨vs,h1,c,h,v⟩,λα S H ⟨vs,h1,c,_⟩=>⟨vs,(SqL.of h1:SqL X.K H a vs),c⟩,?_,?_⟩
   .intro i S1 H1 j S2 m ⟨vs,D,E,o,u⟩ x w hs;have k:=hs (n,ds) (by simp);obtain⟨us,y,B⟩:=w.obj n a _ (x.at o) k;exact⟨us,y,B,x.at o,k⟩
   .intro α S H ⟨vs,_,_,_,u⟩ p A;have:=by simpa using A
    subst this;exact u
  .cases e
 .cases e
def iZip(K:J9)(ta:TA):TI:=λσ H R=>ta σ H λvs H1=> ∃k1 k2 l1 l2,vs=[.ref l1,.ref l2]/\(∃xs,GV k1 K H1 l1 xs)/\(∃ys,GV k2 K H1 l2 ys)/\R (Itz K k1 k2 l1 l2) H1
section
variable{X:Cx}{W:XW}{a b:Expr}{elts:J8}{kt:Nat}{pt p pos:Pos}{ta:TA}{af:Rho->Sto->R (List Er)}
def Cj:bootBuiltins "zip"=some (.type "zip"):=by decide+kernel
def Jw:bootBuiltins "enumerate"=some (.type "enumerate"):=by decide+kernel
def Sx(m:Gl X "zip")(u:X.mg "zip"=none)(k:PA X [a,b] ta)(hs:starEach [a,b] X.env=[(false,eval a X.env),(false,eval b X.env)]:=by rfl)(c:starEach [b] X.env=[(false,eval b X.env)]:=by rfl):
  PI X (.Tuple elts kt pt) (.Call (.Name "zip" p) [a,b] [] pos) (iZip X.K ta):=by
 intro pins s σ H R I h;refine Call_ (oM I m u Cj (Č (kY (k pos pins s σ H _ I h) λus j ⟨vs,H1,I1,o,B⟩=>?_) (by rw[hs,c]) (by rw[c];rfl)));obtain⟨k1,k2,l1,l2,rfl,⟨xs,w⟩,⟨ys,y⟩,q⟩:=B
 cases o with
 |cons r rr=>
  cases rr with
  |cons r' rr=>
   cases rr;cases r;cases r';obtain⟨its,D,p1,_⟩:=I1.seqK w;obtain⟨i,C,p2,_⟩:=I1.seqK y;refine OX p1 p2 λh' st v=>wpAny_pyIter_zip st.z ?_;have A:Inv X pins σ H1 {j with heap:=h'}:=I1.kept v;refine⟨_,_,_,_,H1,rfl,A,Ci (apart_new _),st,λb n=>?_,q⟩
   have d:j.heap.objs.size<=b:=by
    have e:=by simpa using n
    rcases e with h|h|h|h|h<;>rw[h]<;>(first |exact à _|exact Ē _ _)
   exact I1.fpOk d (I1.hok.fresh d)
noncomputable def pairs(xs ys:K1):List MV:=List.zipWith (λx y=>.tup [x,y]) xs ys
def Of(rs:List Er)(S:Sto):R Wk:=match rs with
 |[p,q]=>match srcOf S p with
  |some a=>match srcOf S q with
   |some b=>.ok ⟨pairs a.ds b.ds,a.gs++b.gs⟩ S
   |none=>.no
  |none=>.no
 |_=>.no
theorem Sy(P:Gl X "zip")(Y:X.mg "zip"=none)(E:EK X W [a,b] af)(hs:starEach [a,b] X.env=[(false,eval a X.env),(false,eval b X.env)]:=by rfl)(B:starEach [b] X.env=[(false,eval b X.env)]:=by rfl):
  GT X W (.Tuple elts kt pt) (.Call (.Name "zip" p) [a,b] [] pos) (λρ S=>(af ρ S).bind Of):=by
 obtain⟨t,E,k⟩:=E;refine⟨_,Sx P Y E hs B,λα ρ S σ H Rc Q sl q=>k α ρ S σ H _ Q sl (q.bind λvs rs S1 C H1 e x1 I d1 c=>?_)⟩
 replace c:=c.shift x1
 unfold Of at c;split at c
 .rename_i r1 r2;split at c
  .rename_i z Z;split at c
   .rename_i A e2;obtain⟨u,v,rfl,du,dv⟩:=Ob d1;obtain⟨l1,P1,rfl,p1,m⟩:=AB I Z du;obtain⟨l2,T,rfl,p2,n⟩:=AB I e2 dv;have U:=m.get _ _ _ p1;have g2:=n.get _ _ _ p2;refine⟨z.k,A.k,l1,l2,rfl,⟨_,U.choose_spec.1⟩,⟨_,g2.choose_spec.1⟩,c.here I ⟨λα S H=>P1 α S H/\T α S H,?_,⟨p1,p2⟩,?_,?_⟩⟩
    .intro i D S2 H2 ⟨r,s⟩ O;obtain⟨us,G,N⟩:=m.get _ _ _ r;obtain⟨ws,J,L⟩:=n.get _ _ _ s;have hl:(pairs z.ds A.ds).length=min us.length ws.length:=by unfold pairs;rw[List.length_zipWith,N.length,L.length]
     refine⟨λhi=>?_,λhi=>?_⟩
     .have hi:i<(pairs z.ds A.ds).length:=hi;have h1:i<us.length:=by lia
      have h2:i<ws.length:=by lia
      refine⟨⟨us,ws,us[i],ws[i],G,J,gE h1,gE h2⟩,?_⟩;rintro x H' ⟨pp,K,M,j,rfl,rfl,hx,hy⟩;obtain⟨d,hd,dd⟩:=N.get (hx us G);obtain⟨f,hf,df⟩:=L.get (hy ws J);have y:=O.newx (o:=.tup [K,M]) j;have F:=O.new (o:=.tup [K,M]) j;refine⟨y,F,⟨m.stays _ _ _ _ _ _ r y F (m.st _ _ _ r),n.stays _ _ _ _ _ _ s y F (n.st _ _ _ s)⟩,.tup [d,f],?_,?_⟩
      .unfold pairs;rw[List.getElem?_zipWith,hd,hf]
      .exact aM (.of zT) (zS (dd.ext y) (zS (df.ext y) zZ))
     .have hi:(pairs z.ds A.ds).length<=i:=hi;refine⟨us,ws,G,J,?_⟩;by_cases h1:us.length<=i
      .exact .inl h1
      .exact .inr #[0]
    .intro C S1 H1 D S2 H2 ⟨r,s⟩ x w hs;exact⟨m.stays _ _ _ _ _ _ r x w λp j=>hs p (Ă _ j),n.stays _ _ _ _ _ _ s x w λp j=>hs p (ó _ j)⟩
    .intro p j;rcases é.mp j with h|h
     .exact m.st _ _ _ p1 p h
     .exact n.st _ _ _ p2 p h
   .exact c.elim
  .exact c.elim
 .exact c.elim
end
structure EnSt(k:Bool)(e it l:Addr)(i:Nat)(h:Heap):Prop where
 e: ∃old,IsEnum h e it i old
 s:IsSub k h it l i
section
variable{prog:ņ}{w:World}{A:Ņ}{E:VP}{s:Ń}{k:Bool}{e it l:Addr}{i:Nat}{its:B0}
def Jx{x old:ń}(S:IsEnum s.heap e it i old)(U:IsSub k s.heap it l i)(hl:IsSeq k s.heap l its)(hx:its[i]? =some x)(r:e≠it)
  (hQ: ∀h',IsEnumOut h' e it ((i:Int)+1) x ↑0->IsSub k h' it l (i+1)->h'.get? ↑0=some {cls:=.type "tuple",data:=.seq #[.int i s.toks,x]}->
   (∀b o,b≠e->b≠it->s.heap.get? b=some o->h'.get? b=some o)->Q (.ref ↑0) {s with heap:=h',toks:=s.toks+1}):
  wpAny (model prog w) A (Builtin.«enumerate.__next__» ⟨[.ref e],[]⟩) (λfin s'=> ∃v,fin=.done (.ret v)/\Q v s') E s:=by
 obtain⟨C,g,d,p,u⟩:=s;show wpAny _ _ (field (.ref e) 2 >>= _) _ _ _;refine wB (ð S rfl rfl (wB (fE U hl hx λy N a=>?_)))
 replace a:Heap.SameBut it C y:=a
 have L:IsEnum y e it i old:=(a.2 e r).trans S;show wpAny _ _ _ _ _ ⟨y,g,d,p,u⟩;refine wB (ð L rfl rfl ?_);show wpAny _ _ _ _ _ ⟨y,g,d,p,u⟩;refine wB (ð L rfl rfl ?_);show wpAny _ _ (mkInt i >>= _) _ _ ⟨y,g,d,p,u⟩;refine wB (wpAny_mkInt ?_);show wpAny _ _ _ _ _ ⟨y,g,d,_,u⟩;refine wB (ô L (by simp) λI M c=>?_)
 replace c:Heap.SameBut e y I:=c
 replace M:IsEnum I e it ((i:Int)+1) old:=M
 show wpAny _ _ _ _ _ ⟨I,g,d,_,u⟩;refine wB (ô M (by simp) λm X h=>?_)
 replace h:Heap.SameBut e I m:=h
 replace X:IsEnum m e it ((i:Int)+1) old:=X
 show wpAny _ _ _ _ _ ⟨m,g,d,_,u⟩;refine wB (wpAny_newTuple ?_);have H:m.objs.size=C.objs.size:=by rw[h.1,c.1,a.1]
 have Y:e<C.objs.size:=â S;have K:IsEnum (m.push {cls:=.type "tuple",data:=.seq #[.int i p,x]}) e it ((i:Int)+1) old:=hP0 _ X;have Z:(m.push {cls:=.type "tuple",data:=.seq #[.int i p,x]}).get? C.objs.size=some {cls:=.type "tuple",data:=.seq #[.int i p,x]}:=by rw[<-H];exact ã _ rfl
 have kd: ∀b o,b≠e->b≠it->C.get? b=some o->(m.push {cls:=.type "tuple",data:=.seq #[.int i p,x]}).get? b=some o:=λb o G P q=>
  hP0 _ (h.extBut b o G (c.extBut b o G (a.extBut b o P q)))
 have sd:IsSub k (m.push {cls:=.type "tuple",data:=.seq #[.int i p,x]}) it l (i+1):=N.move λo q=>hP0 _ (h.extBut _ o (Ne.symm r) (c.extBut _ o (Ne.symm r) q));generalize m.push {cls:=.type "tuple",data:=.seq #[.int i p,x]}=hd at K Z kd sd ⊢;show wpAny _ _ _ _ _ ⟨hd,g,d,_,u⟩;rw[H];refine wB ?_;unfold Builtin.SmallTypes.ownedTupleIsFree;refine wB (ð K rfl rfl (wP ?_));simp only[if_true];refine wB (Ę (wB (ð K rfl rfl (wB (ô K (by simp) λJ ef z=>?_)))))
 replace z:Heap.SameBut e hd J:=z
 replace ef:IsEnum J e it ((i:Int)+1) x:=ef
 show wpAny _ _ _ _ _ ⟨J,g,d,_,u⟩;refine wB ?_;unfold Builtin.SmallTypes.ownedTupleHandOut;refine wB (ô ef (by simp) λF W B=>?_)
 replace B:Heap.SameBut e J F:=B
 replace W:IsEnumOut F e it ((i:Int)+1) x C.objs.size:=W
 refine ô W (by simp) λj O D=>?_
 replace D:Heap.SameBut e F j:=D
 replace O:IsEnumOut j e it ((i:Int)+1) x C.objs.size:=O
 have T: ∀b o,b≠e->hd.get? b=some o->j.get? b=some o:=λb o n q=>D.extBut b o n (B.extBut b o n (z.extBut b o n q));exact wB (wpAny_letGo (wP ⟨_,rfl,hQ j O (sd.move λo q=>T _ o (Ne.symm r) q) (T _ _ (ù Y) Z) λb o G P q=>T b o G (kd b o G P q)⟩))
def SK(k:Bool)(l:Addr)(its:B0):
  Meets (Builtin.«enumerate.__new__» ⟨[.type "enumerate",.ref l],[]⟩) (λ_ R s=>IsSeq k s.heap l its/\
   R (.ok (.ret (.ref (↑0+1)))) {s with heap:=(s.heap.push (qL k l)).push {cls:=.type "enumerate",data:=.fields #[.none,.bool false,.ref ↑0,rawInt 0,.none,.none]}}):=
 .of_wp λprog w A R s h=>by
  obtain⟨j,g,d,m,n⟩:=s;obtain⟨i,h⟩:=h;have e:=sub_enumerate;have a:=i;have b: ∀(h:Heap)(o:Obj),(h.push o).objs.size=h.objs.size+1:=λh o=>ĭ ..
  wp_walk
  refine wpAny_stack_any λst=>wP ?_;split
  .rename_i c _ _ _ _ _;cases (c==Value.type "enumerate")
   .wp_walk using qM a
    exact⟨_,rfl,by simp only[b];exact h⟩
   .wp_walk using qM a
    exact⟨_,rfl,by simp only[b];exact h⟩
  .wp_walk using qM a
   exact⟨_,rfl,by simp only[b];exact h⟩
end
def IV(K:J9)(F:List MV->Sto->R Er):Sp:=λvs H Q _=> ∃ds,DenL K [] H ds vs/\ds.length=1/\ ∀g:Gm,g.K=K->Post g W0 [] H (F ds []) Q
def Ck{g:Gm}{F:List MV->Sto->R Er}: ∀vs H Q E,IV g.K F vs H Q E->SD g 1 F vs H Q E:=λvs H Q E ⟨ds,l,b,q⟩=>⟨[],[],ds,⟨rfl,by simp,λl a o h=>by simp at h⟩,l,b,q g rfl⟩
def Sz{K:J9}{a:Addr}(b:Bb H)(h:SqL K H a xs):SqF K H a xs:=by
 rcases h with(h|⟨o,h⟩)|h
 .rcases b a with z|⟨o,ys,z⟩
  .rw[z]at h;cases h
  .rw[z]at h;cases h
 .exact .inl ⟨o,h⟩
 .exact .inr h
def Cm{K:J9}{F:List MV->Sto->R Er}{a:Addr}{b:Za}(c:Bb H)(e:SqL K H a (b.map V.int))(h: ∃S,F [.scr (b.map MV.int)] []=.ok (.val (.bl true)) S):IV K F [.ref a] H (λv _=>v=.bl true) λ_ _ _=>False:=by obtain⟨S,h⟩:=h;refine⟨_,zS (UR (Sz c e) (IO b)) zZ,rfl,λg _=>?_⟩;rw[h];exact λv α' H' x w d=>IP d.1
theorem gV(b:β)(S:Sto)(k:β->Sto->R γ):(R.ok b S).bind k=k b S:=by have h:=R.bind_ok b S k;exact Eq.trans h rfl
theorem Jy(d:MV)(S:Sto):Ii (some (some d)) S=.ok (.val d) S:=rfl
theorem qN:OR S (S++T):=⟨by rw[lA];lia,λl a=>.inl (á a)⟩
def AC(n:Nat)(i:Int):lo n (.int i):=by unfold lo;trivial
def SN(n:Nat)(i:Db):lo n (.str i):=by unfold lo;trivial
def Co(n:Nat)(i:Bool):lo n (.bl i):=by unfold lo;trivial
def Cp(n:Nat):lo n .non:=by unfold lo;trivial
def SO{n:Nat}{ds:K1}(h:tX n ds):lo n (.tup ds):=by unfold lo;exact h
theorem cN{n:Nat}: ∀{ds:K1},(∀d∈ds,lo n d)->tX n ds
 |[],_=>by unfold tX;trivial
 |d::ds,h=>by unfold tX;exact⟨h d mF0,cN λe a=>h e (mO _ a)⟩
def Cq{d:MV}(h:lo ↑1 d)(a: ∀l,d≠.loc l):jI S (.val d) (S++T)=.ok (.val d) S:=by
 unfold jI;rw[iP qN];have e:(S++T).take ↑1=S:=by simp
 cases d with
 |loc l=>exact absurd rfl (a l)
 |_=>dsimp only;rw[iP h,e]
def Cr{ds:K1}(h:tX ↑1 ds):jI S (.new ds) (S++T)=.ok (.new ds) S:=by
 unfold jI;rw[iP qN];have e:(S++T).take ↑1=S:=by simp
 dsimp only;rw[iP h,e]
theorem Cs{l:Nat}{ds:K1}(b:↑1<=l)(a:(S++T)[l]? =some (.lst ds))(h:tX ↑1 ds):jI S (.val (.loc l)) (S++T)=.ok (.new ds) S:=by
 unfold jI;rw[iP qN];have e:(S++T).take ↑1=S:=by simp
 dsimp only;rw[iN #[0],a];dsimp only;rw[iP h,e]
def qO{n:Nat}{F:List MV->Sto->R Er}{d:MV}(a:rs.length=n)(b:F (zE rs S).1 (zE rs S).2=.ok (.val d) (S++T))(h:lo ↑1 d)(hd: ∀l,d≠.loc l):zH n F rs S=.ok (.val d) S:=by unfold zH;rw[iP a,b];exact Cq h hd
def mZ{n:Nat}{F:List MV->Sto->R Er}{ds:K1}(a:rs.length=n)(b:F (zE rs S).1 (zE rs S).2=.ok (.new ds) (S++T))(h:tX ↑1 ds):zH n F rs S=.ok (.new ds) S:=by unfold zH;rw[iP a,b];exact Cr h
def ER{n:Nat}{F:List MV->Sto->R Er}{l:Nat}{ds:K1}(b:rs.length=n)(c:F (zE rs S).1 (zE rs S).2=.ok (.val (.loc l)) (S++T))(a:↑1<=l)(d:(S++T)[l]? =some (.lst ds))(h:tX ↑1 ds):zH n F rs S=.ok (.new ds) S:=by unfold zH;rw[iP b,c];exact Cs a d h
def eU{n:Nat}{F:List MV->Sto->R Er}{d:MV}(a:rs.length=n)(b:F (zE rs S).1 (zE rs S).2=.ok (.val d) S)(h:lo ↑1 d)(hd: ∀l,d≠.loc l):zH n F rs S=.ok (.val d) S:=qO a (by rw[aN];exact b) h hd
section
variable{S:Sto}
theorem Yv(b:Bool)(S:Sto):nO (.val (.bl b)) S=.ok b S:=rfl
theorem as_int(i:Int)(S:Sto):UU (.val (.int i)) S=.ok (some i) S:=rfl
theorem Ta(b:Bool)(S:Sto):EL (.val (.bl b)) S=.ok b S:=rfl
theorem add_int(i j:Int)(S:Sto):xA (.val (.int i)) (.val (.int j)) S=.ok (.val (.int (i+j))) S:=rfl
theorem sub_int(i j:Int)(S:Sto):Bt (.val (.int i)) (.val (.int j)) S=.ok (.val (.int (i - j))) S:=rfl
def add_str{x y:Db}(h:x.length+y.length<=sizeLine):xA (.val (.str x)) (.val (.str y)) S=.ok (.val (.str (x++y))) S:=iP h
def Jz{x y:K1}(h:x.length+y.length<=sizeLine):xA (.val (.tup x)) (.val (.tup y)) S=.ok (.val (.tup (x++y))) S:=iP h
def AD{p q:Er}{x y:K1}(h1:Jk S p=some x)(a:Jk S q=some y)(h:x.length+y.length<=sizeLine):xA p q S=.ok (.new (x++y)) S:=by
 have e:UZ p q S=.ok (.new (x++y)) S:=by unfold UZ;rw[h1,a];exact iP h
 unfold xA;split
 .cases h1
 .cases h1
 .cases h1
 .exact e
theorem Tb{g:Int->Int->Bool}(i j:Int)(S:Sto):E9 g (.val (.int i)) (.val (.int j)) S=.ok (.val (.bl (g i j))) S:=rfl
def Ka(i j:Int):Hu (.int i) (.int j)=decide (i=j):=by
 show(i==j)=_;by_cases h:i=j
 .subst h;simp
 .rw[dF0 h];simpa using h
def Kb(x y:Db):Hu (.str (cH x)) (.str (cH y))=decide (x=y):=by
 show(cH x==cH y)=_;by_cases h:x=y
 .subst h;simp
 .rw[dF0 h];have:=λz=>h (uA z);simpa using this
theorem KY(n:Nat)(i j:Int):eqv S (n+1) (.int i) (.int j)=some (decide (i=j)):=by rw[<-Ka];rfl
theorem uO(n:Nat)(x y:Db):eqv S (n+1) (.str x) (.str y)=some (decide (x=y)):=by rw[<-Kb];rfl
theorem Tc(n:Nat)(x:Int)(y:Db):eqv S (n+1) (.int x) (.str y)=some false:=rfl
theorem Td(n:Nat)(x:Db)(y:Int):eqv S (n+1) (.str x) (.int y)=some false:=rfl
theorem Kc(d f:MV):CP (.val d) (.val f) S=match eqv S (zF+1) d f with |some k=>.ok (.val (.bl k)) S|none=>.no:=rfl
theorem Ke(d f:MV):EQ (.val d) (.val f) S=match eqv S (zF+1) d f with |some k=>.ok (.val (.bl !k)) S|none=>.no:=rfl
def KZ{d f:MV}{k:Bool}(h:eqv S (zF+1) d f=some k):CP (.val d) (.val f) S=.ok (.val (.bl k)) S:=by rw[Kc,h]
def Te{d f:MV}{k:Bool}(h:eqv S (zF+1) d f=some k):EQ (.val d) (.val f) S=.ok (.val (.bl !k)) S:=by rw[Ke,h]
def eq_int(i j:Int)(S:Sto):CP (.val (.int i)) (.val (.int j)) S=.ok (.val (.bl (decide (i=j)))) S:=KZ (KY _ i j)
def eq_str(x y:Db)(S:Sto):CP (.val (.str x)) (.val (.str y)) S=.ok (.val (.bl (decide (x=y)))) S:=KZ (uO _ x y)
theorem lt_int(i j:Int)(S:Sto):Oe (.val (.int i)) (.val (.int j)) S=.ok (.val (.bl (decide (i<j)))) S:=rfl
theorem lt_str(i j:Db)(S:Sto):Oe (.val (.str i)) (.val (.str j)) S=.ok (.val (.bl (decide (i<j)))) S:=rfl
theorem LC{b:Int}(h:0<b)(d:b<1073741824)(a:Int)(S:Sto):OT (.val (.int a)) (.val (.int b)) S=.ok (.val (.int (a / b))) S:=by
 refine iP ⟨h,?_⟩;have c:b.natAbs<2 ^ 30:=by omega
 have:=(Nat.log2_lt (by omega:b.natAbs≠0)).mpr c
 lia
def mod_lit{b:Int}(h:0<b)(a:Int)(S:Sto):HD (.val (.int a)) (.val (.int b)) S=.ok (.val (.int (a % b))) S:=iP h
def DA{b:Int}(h: -(2 ^ 64)<b/\b<2 ^ 64)(a:Int)(S:Sto):uI (.val (.int a)) (.val (.int b)) S=.ok (.val (.int (a * b))) S:=iP (Or.inr (Or.inl h))
def OY{a:Int}(h: -(2 ^ 64)<a/\a<2 ^ 64)(b:Int)(S:Sto):uI (.val (.int a)) (.val (.int b)) S=.ok (.val (.int (a * b))) S:=iP (Or.inl h)
theorem Kf(ρ:Rho)(i:Nat)(d:MV)(S:Sto):EM ρ i (.val d) S=.ok (.next (ρ.set i (some d))) S:=rfl
theorem Kg(ρ:Rho)(i:Nat)(ds:K1)(S:Sto):EM ρ i (.new ds) S=.ok (.next (ρ.set i (some (.loc ↑1)))) (S++[.lst ds]):=rfl
theorem Kh(S:Sto):zE [] S=([],S):=rfl
theorem Ki(d:MV)(rs:List Er)(S:Sto):zE (.val d::rs) S=(d::(zE rs S).1,(zE rs S).2):=rfl
theorem zD{F G:AY}{ρ':Rho}{S:Sto}(h:F ρ S=.ok (.next ρ') S'):zI F G ρ S=G ρ' S':=by unfold zI;rw[h];rfl
theorem iW{F G:AY}{S:Sto}{r:Er}(h:F ρ S=.ok (.ret r) S'):zI F G ρ S=.ok (.ret r) S':=by unfold zI;rw[h];rfl
def gP(S:Sto):stay [] S:=jN
def yH{b:AY}{gs:K5}{d:MV}{ds:K1}{a ρ':Rho}{c:Sto}(e:gf d ρ S=.ok a c)(h:b a c=.ok (.next ρ') S')(hs:stay gs S'):wK gf b gs (d::ds) ρ S=wK gf b gs ds ρ' S':=by
 conv=>lhs;unfold wK
 rw[e,gV,h,gV];dsimp only;rw[iP hs]
def Kj{b:AY}{gs:K5}{d:MV}{ds:K1}{a:Rho}{c:Sto}{r:Er}(e:gf d ρ S=.ok a c)(h:b a c=.ok (.ret r) S'):wK gf b gs (d::ds) ρ S=.ok (.ret r) S':=by
 conv=>lhs;unfold wK
 rw[e,gV,h,gV]
theorem LD{α:Type}{xs:List α}{i:Int}(a:0<=i)(h1:i<xs.length): ∃c,sC xs i=some c:=by refine⟨xs[i.toNat]'#[0],?_⟩;unfold sC IF;rw[iP a,iP h1];exact gE _
def VE{α:Type}{P:α->Prop}{xs:List α}{i:Int}{e:α}(h: ∀e∈xs,P e)(z:sC xs i=some e):P e:=by
 unfold sC at z
 cases q:IF xs.length i with
 |none=>rw[q]at z;cases z
 |some j=>rw[q]at z;exact h e (è z)
def ix_str{x:Db}{i:Int}{c:Nat}(h:x.length<=sizeLine)(a:sC x i=some c):gW (.val (.str x)) (.val (.int i)) S=.ok (.val (.str [c])) S:=by show(if x.length<=sizeLine then match sC x i with |some c=>R.ok _ S|none=>.no else .no)=_;rw[iP h,a]
def Tf{ds:K1}{i:Int}{d:MV}(a:sC ds i=some d):gW (.new ds) (.val (.int i)) S=.ok (.val d) S:=by show(match sC ds i with |some d=>R.ok _ S|none=>.no)=_;rw[a]
def fF{l:Nat}{ds:K1}{i:Int}{d:MV}(b:S[l]? =some (.lst ds))(a:sC ds i=some d):gW (.val (.loc l)) (.val (.int i)) S=.ok (.val d) S:=by
 have e:jB S (.val (.loc l))=some ds:=by unfold jB;dsimp only;rw[b]
 show(match jB S _ with |some ds=>getL ds _ S|none=>.no)=_;rw[e];show(match sC ds i with |some d=>R.ok _ S|none=>.no)=_;rw[a]
def xU{l:Nat}{ds:K1}(b:S[l]? =some (.lst ds)):lW [.val (.loc l)] S=.ok (.val (.int ds.length)) S:=by
 have e:jB S (.val (.loc l))=some ds:=by unfold jB;dsimp only;rw[b]
 have a:itemsOf S (.val (.loc l))=some ds:=by unfold itemsOf;exact e
 show(match itemsOf S _ with |some ds=>R.ok _ S|none=>.no)=_;rw[a]
def fG{l:Nat}{ds:K1}(a:S[l]? =some (.lst ds)):jB S (.val (.loc l))=some ds:=by unfold jB;dsimp only;rw[a]
def DB{l:Nat}{ds:K1}(a:S[l]? =some (.lst ds)):Jk S (.val (.loc l))=some ds:=by unfold Jk;dsimp only;rw[a]
def wM{l:Nat}{ds:K1}(a:S[l]? =some (.lst ds)):CY (.val (.loc l)) S=.ok ⟨ds,[(l,ds)]⟩ S:=by unfold CY;dsimp only;rw[a]
def yW{l:Nat}{ds:K1}(b:S[l]? =some (.lst ds)):stay [(l,ds)] S:=λp a=>by
 have:=by simpa using a
 subst this;exact b
def tG{j:Int}(h: -(2 ^ 62)<=j/\j<2 ^ 62):fC [.val (.int j)] S=.ok ⟨(List.range j.toNat).map λk=>.int (k:Nat),[]⟩ S:=iP h
def cut_str{x:Db}(h:x.length<=sizeLine)(lo hi:J7):oS (.val (.str x)) lo hi S=.ok (.val (.str (cE x lo hi))) S:=iP h
def Kk{α:Type}(x:List α)(k:Int)(c:0<=k):cE x none (some k)=x.take k.toNat:=by
 unfold cE;have h1:HT.sIx x.length 0 none=0:=rfl;rw[h1];have b:HT.sIx x.length x.length (some k)=min k.toNat x.length:=by unfold HT.sIx;simp only;split<;>omega
 rw[b,drop_zero,Nat.sub_zero];by_cases a:k.toNat<=x.length
 .rw[min_eq_left a]
 .rw[min_eq_right (by omega),take_length,Ā (by omega)]
def fits{n:Nat}(h:n<=1000000):n<=sizeLine:=by rw[ė];exact ø h (by decide)
def AG(h:rs.length<=1000000):wF rs S=.ok (.new (zE rs S).1) (zE rs S).2:=iP (fits h)
def SQ(h:rs.length<=1000000):jM rs S=.ok (.val (.tup (zE rs S).1)) (zE rs S).2:=iP (fits h)
def SR(S:Sto):wF [] S=.ok (.new []) S:=AG (by simp)
def lst1(a:MV)(S:Sto):wF [.val a] S=.ok (.new [a]) S:=AG (by simp)
def Tg(a b:MV)(S:Sto):wF [.val a,.val b] S=.ok (.new [a,b]) S:=AG (by simp)
def Th(a b c:MV)(S:Sto):wF [.val a,.val b,.val c] S=.ok (.new [a,b,c]) S:=AG (by simp)
def lst6(a b c d e f:MV)(S:Sto):wF [.val a,.val b,.val c,.val d,.val e,.val f] S=.ok (.new [a,b,c,d,e,f]) S:=AG (by simp)
def tup2(a b:MV)(S:Sto):jM [.val a,.val b] S=.ok (.val (.tup [a,b])) S:=SQ (by simp)
def Yw(a b c:MV)(S:Sto):jM [.val a,.val b,.val c] S=.ok (.val (.tup [a,b,c])) S:=SQ (by simp)
theorem Ti(i:Int)(S:Sto):HF [.val (.int i),.val (.typ "str")] S=.ok (.val (.bl false)) S:=rfl
theorem Tj(i:Db)(S:Sto):HF [.val (.str i),.val (.typ "str")] S=.ok (.val (.bl true)) S:=rfl
theorem Tl(i:Int)(S:Sto):HF [.val (.int i),.val (.typ "tuple")] S=.ok (.val (.bl false)) S:=rfl
theorem To(i:Db)(S:Sto):HF [.val (.str i),.val (.typ "tuple")] S=.ok (.val (.bl false)) S:=rfl
theorem Tp(i:K1)(S:Sto):HF [.val (.tup i),.val (.typ "tuple")] S=.ok (.val (.bl true)) S:=rfl
theorem Tq(i:Bool)(S:Sto):HF [.val (.bl i),.val (.typ "bool")] S=.ok (.val (.bl true)) S:=rfl
theorem OZ{gf:MV->Rho->Sto->R Rho}{cf:AZ}{ef:AX}{ρb:Rho}{gs:K5}{F:MV->MV}(hs:stay gs S):
  ∀{ds:K1},(∀d∈ds, ∃ρ1,gf d ρb S=.ok ρ1 S/\cf ρ1 S=.ok true S/\ef ρ1 S=.ok (.val (F d)) S)->zX gf cf ef ρb gs ds S=.ok (ds.map F) S
 |[],_=>rfl
 |d::ds,st=>by obtain⟨ρ1,h1,a,b⟩:=st d mF0;have e:=OZ hs (ds:=ds) λd hd=>st d (mO _ hd);unfold zX;rw[h1,yM,gV,a,yM,gV,iP rfl,b,yM,gV];unfold kC;rw[gV,iP hs,e];rfl
theorem IW{gf:MV->Rho->Sto->R Rho}{cf:AZ}{ef:AX}{ρb:Rho}{gs:K5}(hs:stay gs S):
  ∀{ds:K1},(∀d∈ds, ∃ρ1,gf d ρb S=.ok ρ1 S/\cf ρ1 S=.ok false S)->zX gf cf ef ρb gs ds S=.ok [] S
 |[],_=>rfl
 |d::ds,st=>by obtain⟨ρ1,h1,a⟩:=st d mF0;have e:=IW hs (ef:=ef) λd hd=>st d (mO _ hd);unfold zX;rw[h1,yM,gV,a,yM,gV,iN xF0,iP hs,e]
def Nm(x:Db):Prop:=1<=x.length/\x.length<=8/\ ∀c∈x,97<=c/\c<=122
def Vl:MV->Prop
 |.int i=> -(10 ^ 30)<i/\i<10 ^ 30
 |.str x=>Nm x
 |_=>False
def Vl.cases{d:MV}(h:Vl d):(∃i,d=.int i/\ -(10 ^ 30)<i/\i<10 ^ 30)\/ ∃x,d=.str x/\Nm x:=by
 cases d with
 |int i=>exact .inl ⟨i,rfl,h⟩
 |str x=>exact .inr ⟨x,rfl,h⟩
 |_=>exact h.elim
end
def Ite(K:J9)(k:Bool)(l:Addr):It:=
 ⟨λi H=> ∃xs x,GV k K H l xs/\xs[i]? =some x,
   λi H v H'=> ∃p x,H p=none/\v=.ref p/\H'=wC H p (.tup [.int (i:Nat),x])/\(∀xs,GV k K H l xs->xs[i]? =some x),
   λi H=> ∃xs,GV k K H l xs/\xs.length<=i⟩
section
variable{prog:ņ}{w:World}{A:Ņ}{E:VP}{s:Ń}{k:Bool}{l:Addr}{its:B0}
def YV(e:IsSeq k s.heap l its)
  (h: ∀h',EnSt k (↑0+1) ↑0 l 0 h'->(∀c o,s.heap.get? c=some o->h'.get? c=some o)->Q (.ref (↑0+1)) {s with heap:=h'}):
  wpAny (model prog w) A (call (.type "enumerate") [.ref l]) Q E s:=by
 refine callType_new F.called_enumerate (by decide) (F.typeCall_enumerate_1 _) (F.newCall_enumerate_1 _) (λa=>F.args_object_init_2 a _) F.entry_enumerate_new (SK k l its) ⟨e,?_⟩;have i:(s.heap.push (qL k l)).objs.size=↑0+1:=ĭ ..;have d:=by have:=ã (s.heap.push (qL k l)) (o:={cls:=.type "enumerate",data:=.fields #[.none,.bool false,.ref ↑0,rawInt 0,.none,.none]}) rfl;rw[i]at this;exact this
 refine⟨⟨_,d,rfl⟩,h _ ⟨⟨_,d⟩,IsSub.mk' (hP0 _ (ã _ rfl))⟩ λb o x=>hP0 _ (hP0 _ x)⟩
end
theorem YW{P:ņ}{w:World}{K:J9}{elts:J8}{kt:Nat}{pt:Pos}{k:Bool}{e it l:Addr}(hne:e≠it):
  Turn P w K (.Tuple elts kt pt) (Ite K k l) [e,it] e (λi h=>EnSt k e it l i h) where
 mem:=by simp
 obj:=λi h st b hb=>by
  obtain⟨⟨old,he⟩,hs⟩:=st;have hb':b=e\/b=it:=by simpa using hb
  rcases hb' with rfl|rfl
  .exact⟨_,he,λv q=>by cases q⟩
  .exact hs.there
 keep:=λi h h' st kk=>by obtain⟨⟨old,he⟩,hs⟩:=st;exact⟨⟨old,kk e (by simp) _ he⟩,hs.move λo q=>kk it (by simp) o q⟩
 item:=by
  intro X hP hw hK hc i pins s σ H E I hf st hg;subst hP hw hK;obtain⟨xs,x,q1,hx⟩:=hg;obtain⟨its,r1,p1,_⟩:=I.seqK q1;obtain⟨u,hu,ru⟩:=r1.get hx;obtain⟨⟨old,he⟩,hs⟩:=st;have hT:s.TypeIs (.ref e) "enumerate":=⟨_,he,rfl⟩
  unfold pyNext
  refine wB (Ĉ (î hT F.slot_enumerate_next (ì F.slot_enumerate_next hT F.entry_enumerate_next
   (Jx he hs p1 (by simpa using hu) hne λh' a1 a2 a3 a4=>wP ⟨_,rfl,?_⟩) (F.args_enumerate_next_1 _))))
  refine wpAny_letOwnedTupleGo_enum a1 λh2 z2 sb2=>?_;have hpn:H ↑0=none:=I.hok.fresh (à _)
  have I0:Inv X pins σ _ {s with heap:=s.heap.push {cls:=.type "tuple",data:=.seq #[.int i s.toks,u]},toks:=s.toks+1}:=
   I.laid (o:=.tup [.int (i:Nat),x]) (λb o e=>hP0 _ e) (à _) ⟨by show 2<=sizeLine;decide,_,.cons ⟨_,rfl⟩ (.cons ru .nil),⟨_,ã _ rfl,rfl,_,rfl⟩⟩
  have lt: ∀b∈[e,it],b<s.heap.objs.size:=λb hb=>by
   have hb':b=e\/b=it:=by simpa using hb
   rcases hb' with rfl|rfl
   .exact â he
   .obtain⟨o,eo,_⟩:=hs.there;exact â eo
  have fr: ∀b∈[e,it],wC H ↑0 (.tup [.int (i:Nat),x]) b=none:=λb hb=>by rw[zL (ë (lt b hb))];exact(hf b hb).1
  have mv: ∀b o,b∉[e,it]->(s.heap.push {cls:=.type "tuple",data:=.seq #[.int i s.toks,u]}).get? b=some o->h2.get? b=some o:=λb o hb eo=>by
   simp only[mC,nM,or_false,not_or]at hb;refine sb2.extBut _ _ hb.1 ?_;by_cases hbs:b=↑0
   .subst hbs;rw[ã _ rfl]at eo;cases eo;exact a3
   .rw[Heap.get?_push_ne _ _ _ hbs]at eo;exact a4 b o hb.1 hb.2 eo
  have I2:=I0.turnedL (t':=s.toks+1) mv λb hb=>let ⟨_,c2,c3,c4,c5,c6⟩:=hf b hb;⟨fr b hb,c2,c3,c4,c5,c6⟩;refine⟨.ref ↑0,_,I2,rfl,⟨_,x,hpn,rfl,rfl,λzs hz=>?_⟩,⟨⟨u,?_⟩,?_⟩,fr⟩
  .rw[I.seqK_inj hz q1];exact hx
  .simpa using z2
  .exact a2.move λo eo=>sb2.extBut _ _ (Ne.symm hne) eo
 done:=by
  intro X hP hw hK hc i pins s σ H E I hf st hg;subst hP hw hK;obtain⟨xs,q1,hx⟩:=hg;obtain⟨its,r1,p1,_⟩:=I.seqK q1;obtain⟨⟨old,he⟩,hs⟩:=st;have hT:s.TypeIs (.ref e) "enumerate":=⟨_,he,rfl⟩
  have e1:=r1.length;unfold pyNext;refine wB (Ĉ (î hT F.slot_enumerate_next (ì F.slot_enumerate_next hT F.entry_enumerate_next ?_ (F.args_enumerate_next_1 _))));show wpAny _ _ (field (.ref e) 2 >>= _) _ _ _;refine wB (ð he rfl rfl ?_);refine wB (uN (I.ok.hd hc) hs p1 (by simp;lia) λh' x hk hx'=>?_);obtain⟨o,ho,hcl⟩:=hx';refine wB (ğ ⟨o,ho,hcl⟩ isSubtype_stop (wP ⟨rfl,?_⟩));refine I.turnedL (λb o hb eo=>?_) hf;simp only[mC,nM,or_false,not_or]at hb;exact hk b o hb.2 eo
 self:=λ_ _ _ _ _ st h=>let ⟨⟨_,he⟩,_⟩:=st;wpAny_pyIter_enum he h
def Yx(K:J9)(ta:TA):TI:=λσ H R=>ta σ H λvs H1=> ∃k l,vs=[.ref l]/\(∃xs,GV k K H1 l xs)/\R (Ite K k l) H1
section
variable{X:Cx}{W:XW}{a:Expr}{elts:J8}{kt:Nat}{pt p pos:Pos}{ta:TA}{af:Rho->Sto->R (List Er)}
def Kl(i:Gl X "enumerate")(o:X.mg "enumerate"=none)(j:PA X [a] ta)(hs:starEach [a] X.env=[(false,eval a X.env)]:=by rfl):
  PI X (.Tuple elts kt pt) (.Call (.Name "enumerate" p) [a] [] pos) (Yx X.K ta):=by
 intro pins s σ H R I h;refine Call_ (oM I i o Jw (Č (kY (j pos pins s σ H _ I h) λus e ⟨vs,H1,I1,n,z⟩=>?_) (by rw[hs];rfl) (by rfl)));obtain⟨k,l,rfl,⟨xs,w⟩,q⟩:=z
 cases n with
 |cons r rr=>
  cases rr;cases r;obtain⟨its,A,p1,_⟩:=I1.seqK w;refine YV p1 λh' st v=>let ⟨⟨_,u⟩,_⟩:=id st;wpAny_pyIter_enum u ?_;have y:Inv X pins σ H1 {e with heap:=h'}:=I1.kept v;refine⟨_,_,_,_,H1,rfl,y,YW (ù (Nat.lt_succ_self _)),st,λb m=>?_,q⟩
  have c:e.heap.objs.size<=b:=by
   have d:=by simpa using m
   rcases d with h|h<;>rw[h]<;>(first |exact à _|exact Ē _ _)
  exact I1.fpOk c (I1.hok.fresh c)
noncomputable def SS(xs:K1):List MV:=xs.zipIdx.map λp=>.tup [.int (p.2:Nat),p.1]
def Yy(rs:List Er)(S:Sto):R Wk:=match rs with
 |[p]=>match srcOf S p with
  |some a=>.ok ⟨SS a.ds,a.gs⟩ S
  |none=>.no
 |_=>.no
theorem Km(G:Gl X "enumerate")(M:X.mg "enumerate"=none)(m:EK X W [a] af)(hs:starEach [a] X.env=[(false,eval a X.env)]:=by rfl):
  GT X W (.Tuple elts kt pt) (.Call (.Name "enumerate" p) [a] [] pos) (λρ S=>(af ρ S).bind Yy):=by
 obtain⟨t,m,k⟩:=m;refine⟨_,Kl G M m hs,λα ρ S σ H Z I sl q=>k α ρ S σ H _ I sl (q.bind λvs rs S1 s H1 e O D T b=>?_)⟩
 replace b:=b.shift O
 unfold Yy at b;split at b
 .rename_i U;split at b
  .rename_i j N;obtain⟨u,rfl,P⟩:=OP T;obtain⟨l1,K,rfl,p1,c⟩:=AB D N P;have L:=c.get _ _ _ p1;have B:(SS j.ds).length=j.ds.length:=by unfold SS;rw[lM,List.length_zipIdx]
   refine⟨j.k,l1,rfl,⟨_,L.choose_spec.1⟩,b.here D ⟨λα S H=>K α S H,?_,p1,?_,?_⟩⟩
   .intro i v S2 F h E;obtain⟨us,r,C⟩:=c.get _ _ _ h;have Y:=C.length;refine⟨λhi=>?_,λhi=>?_⟩
    .have hi:i<(SS j.ds).length:=hi;have h1:i<us.length:=by lia
     refine⟨⟨us,_,r,gE h1⟩,?_⟩;rintro x H' ⟨pp,A,y,rfl,rfl,Q⟩;obtain⟨d,hd,J⟩:=C.get (Q us r);have n:=E.newx (o:=.tup [.int (i:Nat),A]) y;have z:=E.new (o:=.tup [.int (i:Nat),A]) y;refine⟨n,z,c.stays _ _ _ _ _ _ h n z (c.st _ _ _ h),.tup [.int (i:Nat),d],?_,?_⟩
     .unfold SS;rw[ö,List.getElem?_zipIdx,hd];simp
     .exact aM (.of zT) (zS (wL _) (zS (J.ext n) zZ))
    .have hi:(SS j.ds).length<=i:=hi;exact⟨us,r,by lia⟩
   .intro s S1 H1 v S2 F h x w hs;exact c.stays _ _ _ _ _ _ h x w hs
   .exact c.st _ _ _ p1
  .exact b.elim
 .exact b.elim
end
instance:DecidableEq MV:=λ_ _=>Classical.propDecidable _
def look(kvs:K6)(k:MV):Option MV:=(kvs.find? λp=>decide (p.1=k)).map (·.2)
def putK(kvs:K6)(k d:MV):List (MV×MV):=if(look kvs k).isSome=true then kvs.map (λp=>if p.1=k then(p.1,d)else p)else kvs++[(k,d)]
noncomputable def tH:MV->Bool
 |.tup _=>true
 |_=>false
theorem PB:xD .non=some (.key none):=by unfold xD;rfl
theorem fH(i:Int):xD (.int i)=some (.key (some (.inl i))):=by unfold xD;rfl
theorem fI(x:Db):xD (.str x)=some (.key (some (.inr (cH x)))):=by unfold xD;rfl
def fM(ds:K1):xD (.tup ds)=(jH ds).map .tup:=by
 conv=>lhs;unfold xD
theorem rM:jH []=some []:=by unfold jH;rfl
def fN(d:MV)(ds:K1):jH (d::ds)=(xD d).bind λk=>(jH ds).map (k::·):=by
 conv=>lhs;unfold jH
mutual
theorem uP: ∀{d e:MV}{k:NK},xD d=some k->xD e=some k->d=e
 |.int i,e,k,hd,a=>by
  rw[fH]at hd;cases hd
  cases e with
  |int j=>rw[fH]at a;cases a;rfl
  |str x=>rw[fI]at a;cases a
  |tup ds=>rw[fM]at a;cases z:jH ds<;>rw[z]at a<;>cases a
  |_=>unfold xD at a;cases a
 |.str x,e,k,hd,a=>by
  rw[fI]at hd;cases hd
  cases e with
  |int j=>rw[fH]at a;cases a
  |str y=>
   rw[fI]at a;have a:=ä a;injection a with a
   injection a with a
   injection a with a
   rw[uA a]
  |tup ds=>rw[fM]at a;cases z:jH ds<;>rw[z]at a<;>cases a
  |_=>unfold xD at a;cases a
 |.tup ds,e,k,hd,a=>by
  rw[fM]at hd
  cases z:jH ds with
  |none=>rw[z]at hd;cases hd
  |some ks=>
   rw[z]at hd;cases hd
   cases e with
   |int j=>rw[fH]at a;cases a
   |str y=>rw[fI]at a;cases a
   |tup es=>
    rw[fM]at a
    cases b:jH es with
    |none=>rw[b]at a;cases a
    |some ks'=>rw[b]at a;cases a;rw[IX z b]
   |_=>unfold xD at a;cases a
 |.non,e,k,hd,a=>by
  rw[PB]at hd;cases hd
  cases e with
  |non=>rfl
  |int j=>rw[fH]at a;cases a
  |str x=>rw[fI]at a;cases a
  |tup ds=>rw[fM]at a;cases z:jH ds<;>rw[z]at a<;>cases a
  |_=>unfold xD at a;cases a
 |.bl _,e,k,hd,a=>by unfold xD at hd;cases hd
 |.scr _,e,k,hd,a=>by unfold xD at hd;cases hd
 |.loc _,e,k,hd,a=>by unfold xD at hd;cases hd
 |.typ _,e,k,hd,a=>by unfold xD at hd;cases hd
 |.obj _ _ _,e,k,hd,a=>by unfold xD at hd;cases hd
theorem IX: ∀{ds es:K1}{ks:List NK},jH ds=some ks->jH es=some ks->ds=es
 |[],es,ks,hd,he=>by
  rw[rM]at hd;cases hd
  cases es with
  |nil=>rfl
  |cons e es=>
   rw[fN]at he;cases z:xD e<;>rw[z]at he
   .cases he
   .cases a:jH es<;>rw[a]at he<;>cases he
 |d::ds,es,ks,hd,he=>by
  rw[fN]at hd
  cases z:xD d with
  |none=>rw[z]at hd;cases hd
  |some k=>
   rw[z]at hd
   cases a:jH ds with
   |none=>rw[a]at hd;cases hd
   |some ks2=>
    rw[a]at hd
    cases es with
    |nil=>rw[rM]at he;cases he;cases hd
    |cons e es=>
     rw[fN]at he
     cases c:xD e with
     |none=>rw[c]at he;cases he
     |some k'=>
      rw[c]at he
      cases b:jH es with
      |none=>rw[b]at he;cases he
      |some ks4=>
       rw[b]at he;cases hd;cases he;rw[uP z c,IX a b]
end
section
variable{X:Cx}{pins:J5}{σ:St}{H:Hp}{s:Ń}{α:B9}
mutual
theorem AH(I:↑2): ∀{d:MV}{k:NK}{x:V}{u:ń},xD d=some k->Den X.K α H d x->RelV x u->HC (mk X.prog X.w) s.heap k u
 |.int i,k,x,u,hk,hd,r=>by rw[fH]at hk;cases hk;cases xN hd;obtain⟨t,rfl⟩:=r;exact xS.mpr (by show mU (.inl i) (.int i t)=true;simp[mU,Value.isInt])
 |.str y,k,x,u,hk,hd,r=>by rw[fI]at hk;cases hk;cases xO hd;obtain⟨t,rfl⟩:=r;exact xS.mpr (by show mU (.inr (cH y)) (.str (cH y) t)=true;simp[mU,Value.isStrOf])
 |.tup ds,k,x,u,hk,hd,r=>by
  rw[fM]at hk
  cases z:jH ds with
  |none=>rw[z]at hk;cases hk
  |some ks=>
   rw[z]at hk;cases hk;obtain⟨a,vs,rfl,e,l⟩:=yR hd;cases r;obtain⟨its,c,pt,_⟩:=I.tuple e;obtain⟨o,h,j,n,b⟩:=pt;exact xI.mpr ⟨a,o,its.toArray,n,rfl,h,j,b,by simpa using VF I z l c⟩
 |.non,k,x,u,hk,hd,r=>by rw[PB]at hk;cases hk;cases nP hd;cases r;exact xS.mpr rfl
 |.bl _,k,x,u,hk,hd,r=>by unfold xD at hk;cases hk
 |.scr _,k,x,u,hk,hd,r=>by unfold xD at hk;cases hk
 |.loc _,k,x,u,hk,hd,r=>by unfold xD at hk;cases hk
 |.typ _,k,x,u,hk,hd,r=>by unfold xD at hk;cases hk
 |.obj _ _ _,k,x,u,hk,hd,r=>by unfold xD at hk;cases hk
theorem VF(I:↑2): ∀{ds:K1}{ks:List NK}{xs:List V}{us:A0},jH ds=some ks->DenL X.K α H ds xs->Vals xs us->qH (mk X.prog X.w) s.heap ks us
 |[],ks,xs,us,hk,hd,r=>by rw[rM]at hk;cases hk;cases hd.isnil;cases r;exact wD.mpr rfl
 |d::ds,ks,xs,us,hk,hd,r=>by
  rw[fN]at hk;obtain⟨v,vs,rfl,a,l⟩:=hd.uncons
  cases r with
  |cons r1 r2=>
   cases z:xD d with
   |none=>rw[z]at hk;cases hk
   |some k=>
    rw[z]at hk
    cases b:jH ds with
    |none=>rw[b]at hk;cases hk
    |some ks2=>
     rw[b]at hk;cases hk;exact yI.mpr ⟨_,_,rfl,AH I z a r1,VF I b l r2⟩
end
def DD(X:Cx)(H:Hp)(d:Addr)(xs:List (NK×Addr×ń)):Prop:=H d=some (DN X.prog X.w d xs)\/(xs=[]/\H d=some (.dK []))
def DD.nf{d:Addr}{xs:List (NK×Addr×ń)}(h:DD X H d xs): ∀a u,H d≠some (.frz a u):=h.elim (λz=>Gh z) λz=>by first |exact Gh z.2|exact z.elim
def Yz{S:Sto}{d:Addr}(ob:ObD X.g α H d (.dic kvs))(b:kvs.all (λp=>tH p.1)=true): ∃xs,DD X H d xs/\DenN X.K α H kvs xs:=by
 rcases ob with⟨ks,h,l⟩|⟨xs,h,l⟩
 .cases l with
  |nil=>exact⟨[],.inr ⟨rfl,h⟩,.nil⟩
  |@cons k k' dd v fs gs hkd a l=>
   rw[List.all_cons,aE]at b
   cases k with
   |tup ds=>exact absurd hkd (by unfold KeyD;exact λz=>z)
   |_=>exact absurd b.1 xF0
 .exact⟨xs,.inl h,l⟩
theorem LE(I:↑2): ∀{kvs:K6}{xs:List (NK×Addr×ń)},DenN X.K α H kvs xs-> ∀x∈xs,(zW X.prog X.w).is s.heap x.1 x.2.1
 |_,_,.nil=>λx b=>by simp at b
 |_,_,.cons k e a d r l=>λx b=>by
  rcases mC.mp b with rfl|b
  .exact⟨AH I k a rfl,e⟩
  .exact LE I l x b
def rN(I:↑2){xs:List (NK×Addr×ń)}{d:Addr}(h:DD X H d xs)(l:DenN X.K α H kvs xs):s.heap.DictOfH (zW X.prog X.w) d xs/\xs.length<=sizeLine/\(d==sysModules)=false:=by
 rcases h with h|⟨rfl,h⟩
 .obtain⟨⟨p,hs,o,es,ep,c,e,hd,j,m⟩,_⟩:=(I.hok d _ h)
  exact⟨⟨o,es,ep,c,e,hd,j,LE I l,m⟩,p,hs⟩
 .obtain⟨_,hs,vs,q,o,es,ep,c,e,hd,_,k,_⟩:=(I.hok d _ h)
  cases q;have j:es.toList=[]:=by cases i:es.toList with |nil=>rfl|cons a b=>rw[i]at k;cases k
  exact⟨⟨o,es,ep,c,e,hd,by rw[j];rfl,λx n=>by simp at n,nodup_nil⟩,zero_le _,hs⟩
def yY(p:MV×MV)(kvs:K6)(k:MV):look (p::kvs) k=if p.1=k then some p.2 else look kvs k:=by
 unfold look;rw[find?_cons];by_cases h:p.1=k
 .rw[dT0 h,iP h];rfl
 .rw[dF0 h,iN h]
def tI(x:NK×Addr×ń)(xs:List (NK×Addr×ń))(k:NK):atKey (x::xs) k=if x.1=k then some x.2 else atKey xs k:=by
 unfold atKey;rw[find?_cons];by_cases h:x.1=k
 .rw[dT0 h,iP h];rfl
 .rw[dF0 h,iN h]
theorem DC: ∀{kvs:K6}{xs:List (NK×Addr×ń)}{k:MV}{nk:NK},DenN X.K α H kvs xs->xD k=some nk->(atKey xs nk).isSome=(look kvs k).isSome
 |_,_,k,nk,.nil,hk=>rfl
 |_,_,k,nk,.cons (k:=k') (nk:=nk') hk' e a d r l,hk=>by
  rw[yY,tI];by_cases h:k'=k
  .subst h;have:=by rw[hk]at hk';exact(ä hk').symm
   rw[iP this,iP rfl];rfl
  .have:nk'≠nk:=λz=>h (uP hk' (by rw[hk,z]));rw[iN this,iN h];exact DC l hk
theorem LF: ∀{kvs:K6}{xs:List (NK×Addr×ń)}{k d:MV}{nk:NK}{v:V}{u:ń},DenN X.K α H kvs xs->xD k=some nk->Den X.K α H d v->RelV v u->DenN X.K α H (kvs.map λp=>if p.1=k then(p.1,d)else p) (xs.map (putAt nk u))
 |_,_,k,d,nk,v,u,.nil,hk,hd,r=>.nil
 |_,_,k,d,nk,v,u,.cons (k:=k') (nk:=nk') hk' e a dd rr l,hk,hd,r=>by
  rw[æ,æ];unfold putAt;by_cases h:k'=k
  .have b:=by subst h;rw[hk]at hk';exact(ä hk').symm
   rw[iP h,iP b];exact .cons hk' e a hd r (LF l hk hd r)
  .have b:nk'≠nk:=λz=>h (uP hk' (by rw[hk,z]));rw[iN h,iN b];exact .cons hk' e a dd rr (LF l hk hd r)
theorem DenN.append: ∀{kvs b:K6}{xs c:List (NK×Addr×ń)},DenN X.K α H kvs xs->DenN X.K α H b c->DenN X.K α H (kvs++b) (xs++c)
 |_,_,_,_,.nil,h=>h
 |_,_,_,_,.cons hk e a d r l,h=>.cons hk e a d r (DenN.append l h)
def LG{xs:List (NK×Addr×ń)}{k d:MV}{nk:NK}{a:Addr}{u:ń}(l:DenN X.K α H kvs xs)(c:xD k=some nk)(e:lV nk<=4)(i:Den X.K α H k (.ref a))(hd:Den X.K α H d v)(r:RelV v u):DenN X.K α H (putK kvs k d) (storedH xs nk a u):=by
 unfold putK;have b:=DC l c;by_cases h:(look kvs k).isSome=true
 .rw[iP h];rw[h]at b;obtain⟨p,m⟩:=ñ.mp b;rw[storedH_old m];exact LF l c hd r
 .rw[iN h]
  have j:atKey xs nk=none:=by
   cases z:atKey xs nk with
   |none=>rfl
   |some p=>rw[z]at b;exact absurd b.symm h
  rw[storedH_new j];exact l.append (.cons c e i hd r .nil)
end
section
variable{X:Cx}{W:XW}{a b o i:Expr}{f g:AX}{pos:Pos}
def LH{pins:J5}{s:Ń}(I:↑2):sysModules<s.heap.objs.size:=lt_trans (by decide) ((I.mod.glob.keeps I.bk).lt)
theorem Wd.put{j:Gm}{p:Addr}{d:HO}{m:MO}(w:Wd j α S H)(e:H p=none)(q:ObD j (α++[p]) (wC H p d) p m):Ext α H (α++[p]) (wC H p d)/\Wd j (α++[p]) (S++[m]) (wC H p d):=by
 have x:=w.newx (o:=d) e;have y:=w.new (o:=d) e;have z:=w.fresh e;refine⟨⟨⟨⟨[p],rfl⟩,x.tup,x.frz⟩,λb s=>?_,x.keep,x.has⟩,⟨?_,?_,λl c v h1 i=>?_⟩⟩
 .rcases é.mp s with h|h
  .exact .inl h
  .rw[mS.mp h];exact .inr e
 .rw[lA,lA,w.len];rfl
 .exact į.mpr ⟨w.nd,by simp,λa r c u=>by rw[mS.mp u];rintro rfl;exact z r⟩
 .by_cases n:l<α.length
  .rw[á n]at h1;rw[á (by rw[<-w.len];exact n)]at i;exact(y.obj l c v h1 i).move (Ex0.grow α [p] _) rfl
  .have k:l=α.length:=by
    have:=(gS.mp h1).1;rw[lA,lS]at this
    lia
   subst k;rw[å (à _),sub_self]at h1;rw[å (by rw[w.len];exact à _),w.len,sub_self]at i;cases h1;cases i;exact q
noncomputable def ES(S:Sto):R Er:=.ok (.val (.loc ↑1)) (S++[.dic []])
def Ct:zP X W (.Dict [] [] pos) (λ_ S=>ES S):=by
 refine⟨λσ H Q=> ∀p,H p=none->Q (.ref p) (wC H p (.dK [])),λpins s σ H Q I h=>?_,λα ρ S σ H Q a sl q p c=>?_⟩
 .exact wpAny_Dict_empty ⟨.ref ↑0,_,I.laid (o:=.dK []) (λ_ _ q=>hP0 _ q) (à _)
   ⟨zero_le _,ļ.mpr (Ne.symm (ë (LH I))),[],.nil,Heap.DictOf.new s.heap⟩,rfl,h _ (I.hok.fresh (à _))⟩
 .obtain⟨x,b⟩:=a.put (m:=.dic []) c (.inl ⟨[],zT,.nil⟩);exact q _ _ _ x b (DenE.val (oQ (by rw[<-a.len,å (à _),sub_self];rfl)))
def cF(S:Sto):Er->Option (Nat×List (MV×MV))
 |.val (.loc l)=>match S[l]? with
  |some (.dic kvs)=>if kvs.all (λp=>tH p.1)=true then some (l,kvs)else none
  |_=>none
 |_=>none
def keyOk(k:MV):Bool:=tH k&&(match xD k with |some nk=>decide (lV nk<=4)|none=>false)
def uQ{k:MV}(h:keyOk k=true): ∃a,xD k=some a/\lV a<=4/\tH k=true:=by
 unfold keyOk at h;rw[aE]at h
 cases z:xD k with
 |none=>rw[z]at h;exact absurd h.2 xF0
 |some a=>rw[z]at h;exact⟨a,rfl,Ě h.2,h.1⟩
def tK(i:Wd X.g α S H){r:Er}{x:V}{l:Nat}(e:cF S r=some (l,kvs))(d:DenX X.K α H r x):
  ∃c xs,x=.ref c/\α[l]? =some c/\S[l]? =some (.dic kvs)/\DD X H c xs/\DenN X.K α H kvs xs:=by
 unfold cF at e;split at e
 .rename_i n;obtain⟨c,rfl,h⟩:=fB d;split at e
  .rename_i k a;split at e
   .rename_i b;obtain⟨rfl,rfl⟩:=Prod.mk.inj (ä e);obtain⟨xs,j,l⟩:=Yz (S:=S) (i.obj _ c _ h a) b;exact⟨c,xs,rfl,h,a,j,l⟩
   .cases e
  .cases e
 .cases e
def DE{k:MV}{x:V}(h:tH k=true)(d:Den X.K α H k x): ∃a,x=.ref a:=by
 cases k with
 |tup ds=>obtain⟨a,_,rfl,_⟩:=yR d;exact⟨a,rfl⟩
 |_=>exact absurd h xF0
def Zb(X:Cx):TSet:=λo i v H Q=> ∃(α:B9)(kvs:K6)(xs:List (NK×Addr×ń))(a d:Addr)(k:MV)(nk:NK),o=.ref d/\i=.ref a/\DD X H d xs/\DenN X.K α H kvs xs/\xD k=some nk/\lV nk<=4/\Den X.K α H k (.ref a)/\xs.length<sizeLine/\
 ∀u,RelV v u->Q (wC H d (DN X.prog X.w d (storedH xs nk a u)))
def tL{xs:List (NK×Addr×ń)}{k:NK}{a:Addr}{u:ń}:(storedH xs k a u).length<=xs.length+1:=by
 cases h:atKey xs k with
 |none=>rw[storedH_new h,lA];exact à _
 |some p=>rw[storedH_old h,lM];exact le_succ _
theorem YX(hu:X.A.units+64<cLine):Hd X (Zb X):=by
 intro pins s σ H o i v ov iv u Q I M J S h;obtain⟨α,kvs,xs,a,d,k,Z,rfl,rfl,D,l,T,e,F,hz,q⟩:=h;cases M;cases J;obtain⟨N,m,hs⟩:=rN I D l;refine wpAny_setItem_heap (knd:=zW X.prog X.w) (show X.A.units+1+4<cLine by omega) ⟨AH I T F rfl,e⟩ N (λh' p y=>⟨_,?_,q u S⟩) m;have E:Pe (H d):=by rcases D with z|⟨_,z⟩<;>rw[z]<;>exact trivial
 obtain⟨c,es,ep,B,W,hd,O,_,U⟩:=p;refine I.write E (.inl rfl) (λb uo G P=>(y.2 b G).trans P) ⟨c,B⟩ ?_;refine⟨⟨by have:=tL (xs:=xs) (k:=Z) (a:=a) (u:=u);lia,hs,c,es,ep,B,W,hd,O,U⟩,⟨c,B⟩,?_⟩;rintro h1 h2 ⟨K,L,o',C,n,j,r⟩ Y;exact⟨K,L,o',C,n,Y o' j,r⟩
def IY(p q:Er)(d:MV)(ρ:Rho)(S:Sto):R Rho:=match q with
 |.val k=>match cF S p with
  |some (l,kvs)=>if keyOk k=true/\kvs.length<1000000 then .ok ρ (S.set l (.dic (putK kvs k d)))else .no
  |none=>.no
 |_=>.no
theorem DenN.length: ∀{kvs xs},DenN X.K α H kvs xs->xs.length=kvs.length
 |_,_,.nil=>rfl
 |_,_,.cons _ _ _ _ _ l=>by rw[lC,lC,DenN.length l]
def Kn(N:X.A.units+64<cLine)(s:zP X W o f)(hi:zP X W i g)
  (ha: ∀v,assign (.Subscript o i pos) X.env v=(do
   let ov <-holding [v] (eval o X.env);let C <-holding [v,ov] (eval i X.env)
   standAt pos
   holding [v,ov,C] (setItem ov C v)
   release [v,ov,C] []):=by intro _;rfl):YI X W (.Subscript o i pos) (λd ρ S=>(f ρ S).bind λp S1=>(g ρ S1).bind λq S2=>IY p q d ρ S2):=by
 obtain⟨to,s,Y⟩:=s;obtain⟨ti,hi,U⟩:=hi;refine⟨_,RN s hi (YX N) ha,λα ρ S σ H d v Q M sl O q=>Y α ρ S σ H _ M sl (q.bind λu p S1 D H1 e1 j Z d1 q1=>U D ρ S1 σ H1 _ Z (sl.ext j) ((q1.shift j).bind λu2 p2 S2 b H2 e2 h B F a=>?_))⟩
 replace a:=a.shift h
 have E:=DenX.ext h d1.1;have y:=(O.ext j).ext h;unfold IY at a;split at a
 .rename_i k;split at a
  .rename_i l kvs e;split at a
   .rename_i I;obtain⟨L,h1,K,P⟩:=uQ I.1;obtain⟨c,xs,rfl,J,hS,n,r⟩:=tK B e E;obtain⟨G,rfl⟩:=DE P F.1;refine⟨b,kvs,xs,G,c,k,L,rfl,rfl,n,r,h1,K,F.1,?_,λu T=>?_⟩
    .rw[r.length];exact ç I.2 (fits (à _))
    .have m:=B.writex J n.nf (o:=DN X.prog X.w c (storedH xs L G u));have z:=((sl.ext j).ext h).ext m;exact a σ b _ m (B.write J n.nf (.inr ⟨_,zT,(LG r h1 K F.1 y T).ex0 m.toEx0⟩)) z
   .exact a.elim
  .exact a.elim
 .exact a.elim
end
def FsD(g:Gm)(α:B9)(H:Hp)(d:Option Addr)(fs:List (Str×MV)):Prop:=fs=[]\/ ∃a gs od,d=some a/\H a=some (.frz od (.xd gs))/\DenF g.K α H fs gs
abbrev WE(g:Gm)(E:XK):XW:=λc fs _ α H=> ∀C d,g.mg c=some (.ref C)->FsD g α H d fs->E (.ref C) d H
noncomputable def Tr:MV->Bool
 |.non=>true
 |.bl _=>true
 |.int _=>true
 |.str _=>true
 |_=>false
def Post.wmono[Dn β τ]{g:Gm}{W a:XW}(f: ∀c fs S α' H',W c fs S α' H'->a c fs S α' H'): ∀{m:R β}{Q:τ->Hp->Prop},Post g W α H m Q->Post g a α H m Q
 |.ok b S,Q,q=>q
 |.exc c fs S,_,q=>λα' H' x w=>f _ _ _ _ _ (q α' H' x w)
 |.no,_,q=>q
def XCl(K:J9)(C:Addr)(i:A0)(a:Option ń):Prop:=
 ∃k q N bs hd e c m b h j k1 k2 d o,K.lookup C=some (excClassObj k q C N bs i hd e c m b h j k1 k2 d o "ValueError.__new__")/\PySem.W.nsOkIn K N=true/\PySem.W.nsIn K N "__init__"=some a/\(∀n∈qn,PySem.W.nsIn K N n=some none)/\hd=true
def XEach(K:J9)(mg:H9)(M:Addr):List (Str×Addr)->Prop
 |[]=>True
 |(c,C)::r=>(mg c=some (.ref C)/\ ∃i,XCl K C (.ref M::E8) i)/\XEach K mg M r
theorem XEach.at{K:J9}{mg:H9}{M:Addr}: ∀{cs:List (Str×Addr)},XEach K mg M cs-> ∀{c C},(c,C)∈cs->mg c=some (.ref C)/\ ∃i,XCl K C (.ref M::E8) i
 |_::r,h,c',C',z=>by
  rcases mC.mp z with z|z
  .cases z;exact h.1
  .exact XEach.at h.2 z
def spX(g:Gm)(n:Nat)(F:List MV->Sto->R Er):Sp:=λvs H Q E=> ∃α S ds,Wd g α S H/\DenL g.K α H ds vs/\ds.length=n/\Post g (WE g E) α H (F ds S) Q
def VG(n:Nat)(F:List MV->Sto->R Er)(rs:List Er)(S:Sto):R Er:=if rs.length=n then(match F (zE rs S).1 (zE rs S).2 with
 |.ok r S2=>jI S r S2
 |.exc c fs S2=>if fs.all (λp=>Tr p.2)=true then(jI S (.val .non) S2).bind λ_ S3=>.exc c fs S3 else .no
 |.no=>.no)else .no
section
variable{P:ņ}{w:World}{K:J9}{mg:H9}{base:Heap}
def _root_.L2.FnOk.noX{k n:Nat}{f:Addr}{fd:FuncData}{ps:C0}{g:Gm}{F:List MV->Sto->R Er}(G:FnOk P w K mg base (CXe P w) k f fd ps (spX g n F)):FnOk P w K mg base EB k f fd ps (SD g n F):=by
 have c: ∀{vs H Q}, ∀{E},SD g n F vs H Q E->spX g n F vs H Q E0:=λ⟨α,S,ds,h1,q,u,i⟩=>⟨α,S,ds,h1,q,u,i.wmono λ_ _ _ _ _ z=>z.elim⟩
 refine⟨λvs H Q E h=>G.len vs H Q E0 (c h),λA a s H b us vs Q E o j p m h=>codeAny_mono (G.run A a s H b us vs Q E0 o j p m (c h)) λr s' d=>?_⟩
 cases r with
 |error e=>
  obtain⟨_,_,_,_,_,_,_,_,_,_,_,_,_,_,_,z⟩:=d;exact z
 |ok fl=>cases fl<;>exact d
end
end M
end L2
namespace L2
open PySem PySem.Spec PyProof.Rows
structure Out(X:Cx)(pins:J5)(H:Hp)(s:Ń)(b:Addr):Prop where
 s0:X.s₀.heap.get? b=none
 h:H b=none
 pin: ∀p∈X.pn++pins,p.1≠b
 fld: ∃o vs,s.heap.get? b=some o/\o.data=.fields vs
section
variable{X:Cx}{pins:J5}{σ:St}{H:Hp}{s:Ń}{e b:Addr}
def Out.ne(o:Out X pins H s b){c:Addr}{a:Obj}(d:s.heap.get? c=some a)(nf: ∀vs,a.data≠.fields vs):c≠b:=λz=>by obtain⟨h,vs,h1,e⟩:=o.fld;rw[z,h1]at d;cases d;exact nf vs e
def Out.loc(o:Out X pins H s b)(I:↑2):X.env.locals≠b:=by obtain⟨m,⟨c,es,ep,h1,a,_⟩,_⟩:=I.loc;exact o.ne h1 λvs z=>by rw[a]at z;cases z
def HdA(A:Ņ)(H:Hp):Prop:= ∃e a u,A.handled=some (.ref e)/\H e=some (.frz a u)/\ ∃vs,a.data=.fields vs/\vs[2]? =some .none
end
end L2
namespace L2
namespace M
open PySem PySem.Spec PyProof.Rows
noncomputable def endF(i:Nat):Fl->Sto->R Fl
 |.next ρ,S=>.ok (.next (ρ.set i none)) S
 |.ret r,S=>.ok (.ret r) S
 |.brk ρ,S=>.ok (.brk (ρ.set i none)) S
 |.cont ρ,S=>.ok (.cont (ρ.set i none)) S
def Ts(a:C0)(i:Nat)(kn:Er->Sto->R Fl)(b:AY)(ρ:Rho):R Er->R Fl
 |.ok r S=>kn r S
 |.exc c fs S=>if c∈a then(noX (b (ρ.set i (some (.loc S.length))) (S++[.ins c fs]))).bind (endF i)else .no
 |.no=>.no
end M
end L2
namespace Srt
open PySem PyProof.Rows
def aO:Bool->Keyed->Array Keyed->Nat->Nat->Nat->StateT SortSt Sem (Option Nat):=sortPriv% PySem.Builtin.gallop
def jP:Nat->StateT SortSt Sem Unit:=sortPriv% PySem.Builtin.setMinGallop
def ET:Array Keyed->Array Keyed->StateT SortSt Sem (Array Keyed):=sortPriv% PySem.Builtin.mergeLo
def EU:Array Keyed->Array Keyed->StateT SortSt Sem (Array Keyed):=sortPriv% PySem.Builtin.mergeHi
section
variable{M:Model}{A:Ņ}{E:VP}{s:Ń}{σ:Type}
def Ko{x:σ}{Q:PUnit->σ->Prop}{st:σ}(h:Q ⟨⟩ x):wpS M A E s (set x:StateT σ Sem PUnit) Q st:=by unfold wpS;rw[StateT.run_set];exact wP ⟨rfl,h⟩
def fO{x:String}{Q:Unit->σ->Prop}{st:σ}(h:Q () st):wpS M A E s (liftM (rule x):StateT σ Sem Unit) Q st:=wpS_lift (Ę ⟨rfl,h⟩)
end
end Srt
set_option autoImplicit false
namespace Srt
variable{β:Type}{le:β->β->Prop}
structure Two(le:β->β->Prop)(T out xs ys:List β):Prop where
 hx:(out++xs).Pairwise le
 hy:(out++ys).Pairwise le
 pm:(out++(xs++ys)).Perm T
def Two.movexs{T out e xs ys:List β}(h:Two le T out (e++xs) ys)(j: ∀z,z∈e-> ∀y,y∈ys->le z y):Two le T (out++e) xs ys:=by
 refine⟨by simpa only[aA]using h.hx,?_,by simpa only[aA]using h.pm⟩;have a:=ê.mp h.hx;have b:=ê.mp h.hy;have c:=ê.mp a.2.1;refine ê.mpr ⟨ê.mpr ⟨a.1,c.1,λx i y d=>a.2.2 x i y (Ă _ d)⟩,b.2.1,λx i y d=>?_⟩
 cases é.mp i with
 |inl q=>exact b.2.2 x q y d
 |inr q=>exact j x q y d
def Two.swap{T out xs ys:List β}(h:Two le T out xs ys):Two le T out ys xs:=
 ⟨h.hy,h.hx,(List.Perm.append_left out List.perm_append_comm).trans h.pm⟩
def Two.moveys{T out a xs ys:List β}(h:Two le T out xs (a++ys))(b: ∀z,z∈a-> ∀x,x∈xs->le z x):Two le T (out++a) xs ys:=
 (h.swap.movexs b).swap
def Two.fin{T out xs ys:List β}(h:Two le T out xs ys)(d: ∀x,x∈xs-> ∀y,y∈ys->le x y):(out++xs++ys).Pairwise le/\(out++xs++ys).Perm T:=by
 have a:=ê.mp h.hx;have b:=ê.mp h.hy;refine⟨ê.mpr ⟨h.hx,b.2.1,λx e y c=>?_⟩,by rw[aA];exact h.pm⟩
 cases é.mp e with
 |inl q=>exact b.2.2 x q y c
 |inr q=>exact d x q y c
structure TwoR(le:β->β->Prop)(T xs ys R:List β):Prop where
 hx:(xs++R).Pairwise le
 hy:(ys++R).Pairwise le
 pm:(xs++ys++R).Perm T
def TwoR.swap{T R xs ys:List β}(h:TwoR le T xs ys R):TwoR le T ys xs R:=
 ⟨h.hy,h.hx,(List.Perm.append_right R List.perm_append_comm).trans h.pm⟩
def TwoR.moveys{T R e xs ys:List β}(h:TwoR le T xs (ys++e) R)(j: ∀x,x∈xs-> ∀z,z∈e->le x z):TwoR le T xs ys (e++R):=by
 refine⟨?_,by simpa only[aA]using h.hy,by simpa only[aA]using h.pm⟩;have a:=ê.mp h.hx;have b:=ê.mp h.hy;have c:=ê.mp b.1;refine ê.mpr ⟨a.1,ê.mpr ⟨c.2.1,a.2.1,λz k y d=>b.2.2 z (ó _ k) y d⟩,λx i y d=>?_⟩
 cases é.mp d with
 |inl q=>exact j x i y q
 |inr q=>exact a.2.2 x i y q
def TwoR.movexs{T R a xs ys:List β}(h:TwoR le T (xs++a) ys R)(b: ∀y,y∈ys-> ∀z,z∈a->le y z):TwoR le T xs ys (a++R):=
 (h.swap.moveys b).swap
def TwoR.fin{T R xs ys:List β}(h:TwoR le T xs ys R)(d: ∀x,x∈xs-> ∀y,y∈ys->le x y):(xs++ys++R).Pairwise le/\(xs++ys++R).Perm T:=by
 have a:=ê.mp h.hx;have b:=ê.mp h.hy;refine⟨ê.mpr ⟨ê.mpr ⟨a.1,b.1,d⟩,a.2.1,λx e y c=>?_⟩,h.pm⟩
 cases é.mp e with
 |inl q=>exact a.2.2 x q y c
 |inr q=>exact b.2.2 x q y c
def EV(l:List β)(i k:Nat):l.drop i=(l.drop i).take k++l.drop (i+k):=by rw[<-List.drop_drop,ē]
def EW(l:List β)(i k:Nat)(h:i<=k):l.take k=l.take i++(l.take k).drop i:=by have:=ē i (l.take k);rw[List.take_take,min_eq_left h]at this;exact this.symm
end Srt
namespace Srt
open PySem PyProof.Rows
abbrev SM:=StateT SortSt Sem
def bey(lf:Bool)(x:Keyed)(v:Array Keyed)(b i:Nat):SM (Option Bool):=
 elem' v (b+i) >>= λy=>if lf=true then lt' y x else lt' x y >>= λr=>pure (r.map λq=>!q)
abbrev G3:=Option (Option Nat)×Nat×Nat
def gUp(f:Nat->SM (Option Bool))(n m h:Nat):SM G3:=
 forIn [0:n] ((none,0,1):G3) λ_ c=>
  if c.2.2>=m then pure (.done (none,c.2.1,c.2.2))else f (h+c.2.2) >>= λo=>match o with
   |some q=>if(!q)=true then pure (.done (none,c.2.1,c.2.2))else pure (.yield (none,c.2.2,2 * c.2.2+1))
   |_=>pure (.done (some none,c.2.1,c.2.2))
def gDn(f:Nat->SM (Option Bool))(n m h:Nat):SM G3:=
 forIn [0:n] ((none,0,1):G3) λ_ c=>
  if c.2.2>=m then pure (.done (none,c.2.1,c.2.2))else f (h - c.2.2) >>= λo=>match o with
   |some q=>if q=true then pure (.done (none,c.2.1,c.2.2))else pure (.yield (none,c.2.2,2 * c.2.2+1))
   |_=>pure (.done (some none,c.2.1,c.2.2))
def gBin(f:Nat->SM (Option Bool))(n lo hi:Nat):SM G3:=
 forIn [0:n] ((none,lo,hi):G3) λ_ c=>
  if c.2.1>=c.2.2 then pure (.done (none,c.2.1,c.2.2))else f (c.2.1+(c.2.2 - c.2.1) / 2) >>= λo=>match o with
   |some q=>if q=true then pure (.yield (none,c.2.1+(c.2.2 - c.2.1) / 2+1,c.2.2))else pure (.yield (none,c.2.1,c.2.1+(c.2.2 - c.2.1) / 2))
   |_=>pure (.done (some none,c.2.1,c.2.2))
def Tt(f:Nat->SM (Option Bool))(n lo hi:Nat):SM (Option Nat):=
 gBin f n lo hi >>= λc=>match c.1 with
  |some r=>pure r
  |none=>pure (some c.2.2)
def gal(f:Nat->SM (Option Bool))(n h:Nat):SM (Option Nat):=
 f h >>= λo=>match o with
  |some q=>if q=true then gUp f n (n - h) h >>= λc=>(match c.1 with
     |some r=>pure r
     |none=>Tt f n (h+c.2.1+1) (h+min c.2.2 (n - h)))
    else gDn f n (h+1) h >>= λc=>(match c.1 with
     |some r=>pure r
     |none=>Tt f n (h+1 - min c.2.2 (h+1)) (h - c.2.1))
  |_=>pure none
theorem EX(lf:Bool)(x:Keyed)(v:Array Keyed)(b n h:Nat):aO lf x v b n h=gal (bey lf x v b) n h:=by kernel_rfl
section
variable{M:Model}{A:Ņ}{E:VP}{s:Ń}
def Tells(M:Model)(A:Ņ)(E:VP)(s:Ń)(st:SortSt)(f:Nat->SM (Option Bool))(p:Nat->Bool)(n:Nat):Prop:=
 ∀i,i<n-> ∀Q:Option Bool->SortSt->Prop,Q (some (p i)) st->wpS M A E s (f i) Q st
variable{st:SortSt}{f:Nat->SM (Option Bool)}{p:Nat->Bool}{n h:Nat}
theorem Tu{Q:G3->SortSt->Prop}(k:Tells M A E s st f p n)(q:h<n)(m:p h=true)
  (hq: ∀l o,l<o->h+l<n->p (h+l)=true->(n - h<=o\/(h+o<n/\p (h+o)=false))->Q (none,l,o) st):
  wpS M A E s (gUp f n (n - h) h) Q st:=by
 refine Ć (I:=λx c a=>a=st/\ ∃l o,c=(none,l,o)/\x+1<=o/\l<o/\h+l<n/\p (h+l)=true) ?_ ?_ ⟨rfl,0,1,rfl,by lia,by lia,by lia,m⟩
 .rintro x c a _ r ⟨rfl,l,o,rfl,h1,e,i,d⟩;dsimp only;by_cases b:o>=n - h
  .rw[iP b];exact wpS_pure (hq l o e i d (.inl b))
  .rw[iN b];refine wpS_bind (k _ #[0] _ ?_)
   cases j:p _ with
   |false=>exact wpS_pure (hq l o e i d (.inr ⟨by lia,j⟩))
   |true=>exact wpS_pure ⟨rfl,o,2 * o+1,rfl,by lia,by lia,by lia,j⟩
 .rintro c a ⟨rfl,l,o,rfl,h1,e,i,d⟩;exact hq l o e i d (.inl #[0])
theorem Tv{Q:G3->SortSt->Prop}(k:Tells M A E s st f p n)(q:h<n)(m:p h=false)
  (hq: ∀l o,l<o->l<=h->p (h - l)=false->(h+1<=o\/(o<=h/\p (h - o)=true))->Q (none,l,o) st):
  wpS M A E s (gDn f n (h+1) h) Q st:=by
 refine Ć (I:=λx c a=>a=st/\ ∃l o,c=(none,l,o)/\x+1<=o/\l<o/\l<=h/\p (h - l)=false) ?_ ?_ ⟨rfl,0,1,rfl,by lia,by lia,by lia,m⟩
 .rintro x c a _ r ⟨rfl,l,o,rfl,h1,e,i,d⟩;by_cases b:o>=h+1
  .rw[iP b];exact wpS_pure (hq l o e i d (.inl b))
  .rw[iN b];refine wpS_bind (k _ #[0] _ ?_)
   cases j:p _ with
   |true=>exact wpS_pure (hq l o e i d (.inr ⟨by lia,j⟩))
   |false=>exact wpS_pure ⟨rfl,o,2 * o+1,rfl,by lia,by lia,by lia,j⟩
 .rintro c a ⟨rfl,l,o,rfl,h1,e,i,d⟩;exact hq l o e i d (.inl #[0])
theorem VH{Q:Option Nat->SortSt->Prop}{lo hi:Nat}(w:Tells M A E s st f p n)(u: ∀i j,i<=j->j<n->p j=true->p i=true)
  (h1:lo<=hi) (h2:hi<=n) (h3: ∀i,i<lo->p i=true) (h4: ∀i,hi<=i->i<n->p i=false)
  (hq: ∀r,r<=n->(∀i,i<r->p i=true)->(∀i,r<=i->i<n->p i=false)->Q (some r) st):
  wpS M A E s (Tt f n lo hi) Q st:=by
 refine wpS_bind (wpS_mono (Ć (I:=λx c a=>a=st/\ ∃l r,c=(none,l,r)/\l<=r/\r<=n/\r - l<=n - x/\(∀i,i<l->p i=true)/\(∀i,r<=i->i<n->p i=false))
  (Q:=λc a=>a=st/\ ∃l r,c=(none,l,r)/\r<=n/\(∀i,i<r->p i=true)/\(∀i,r<=i->i<n->p i=false)) ?_ ?_ ⟨rfl,lo,hi,rfl,h1,h2,by lia,h3,h4⟩) ?_)
 .rintro x c a _ z ⟨rfl,l,r,rfl,y,d,v,e,b⟩;dsimp only;by_cases h:l>=r
  .rw[iP h];have:l=r:=by lia
   subst this;exact wpS_pure ⟨rfl,l,l,rfl,d,e,b⟩
  .rw[iN h];refine wpS_bind (w _ #[0] _ ?_)
   cases m:p _ with
   |true=>exact wpS_pure ⟨rfl,_,r,rfl,by lia,d,by lia,λi hi=>u i _ #[0] #[0] m,b⟩
   |false=>
    refine wpS_pure ⟨rfl,l,_,rfl,by lia,by lia,by lia,e,λi q k=>?_⟩
    cases o:p i with
    |false=>rfl
    |true=>rw[u _ i q k o]at m;cases m
 .rintro c a ⟨rfl,l,r,rfl,y,d,v,e,b⟩;have:l=r:=by lia
  subst this;exact⟨rfl,l,l,rfl,d,e,b⟩
 .rintro c a ⟨rfl,l,r,rfl,d,e,b⟩;exact wpS_pure (hq r d e b)
theorem Cu{Q:Option Nat->SortSt->Prop}(c:Tells M A E s st f p n)(d: ∀i j,i<=j->j<n->p j=true->p i=true)(k:h<n)
  (hq: ∀r,r<=n->(∀i,i<r->p i=true)->(∀i,r<=i->i<n->p i=false)->Q (some r) st):
  wpS M A E s (gal f n h) Q st:=by
 have q: ∀i j,i<=j->j<n->p i=false->p j=false:=by
  intro i j h1 e b
  cases w:p j with
  |false=>rfl
  |true=>rw[d i j h1 e w]at b;cases b
 refine wpS_bind (c h k _ ?_)
 cases u:p h with
 |true=>
  refine wpS_bind (Tu c k u λl o h1 e b a=>?_);dsimp only;refine VH c d (by omega) (by omega) (λi hi=>d i _ #[0] e b) (λi v m=>?_) hq;rcases a with a|⟨a,h7⟩
  .omega
  .exact q _ i (by omega) m h7
 |false=>
  refine wpS_bind (Tv c k u λl o h1 e b a=>?_);dsimp only;refine VH c d (by omega) (by omega) (λi hi=>?_) (λi v m=>q _ i v m b) hq;rcases a with a|⟨a,h7⟩
  .omega
  .exact d i _ (by omega) (by omega) h7
end
end Srt
namespace Srt
open PySem PyProof.Rows
variable{v:Array Keyed}
def kD{β:Type}{l:List β}{i:Nat}{z:β}(h:z∈l.drop i): ∃j,i+j<l.length/\l[i+j]? =some z:=by obtain⟨j,a,e⟩:=List.mem_iff_getElem.mp h;rw[õ]at a;refine⟨j,by omega,?_⟩;rw[getElem_drop]at e;rw[<-e,gE (by omega)]
def tM{β:Type}{l:List β}{i k:Nat}{z:β}(h:z∈(l.drop i).take k): ∃j,j<k/\i+j<l.length/\l[i+j]? =some z:=by obtain⟨j,a,e⟩:=List.mem_iff_getElem.mp h;rw[lT,õ]at a;refine⟨j,by omega,by omega,?_⟩;rw[getElem_take,getElem_drop]at e;rw[<-e,gE (by omega)]
theorem iY{β:Type}{l:List β}{k:Nat}{z:β}(h:z∈l.take k): ∃j,j<k/\j<l.length/\l[j]? =some z:=by obtain⟨j,a,e⟩:=List.mem_iff_getElem.mp h;rw[lT]at a;refine⟨j,by lia,by lia,?_⟩;rw[getElem_take]at e;rw[<-e,gE #[0]]
section
variable{M:Model}{A:Ņ}{E:VP}{s:Ń}
structure Cmp(M:Model)(A:Ņ)(E:VP)(s:Ń)(kd:SortKind)(D:Keyed->Prop)(lt:Keyed->Keyed->Bool):Prop where
 go: ∀x y,D x->D y-> ∀st:SortSt,kindOf st=kd-> ∀Q:Option Bool->SortSt->Prop,Q (some (lt x y)) st->wpS M A E s (lt' x y) Q st
 tr: ∀x y z,lt y x=false->lt z y=false->lt z x=false
 as: ∀x y,lt x y=true->lt y x=false
variable{kd:SortKind}{D:Keyed->Prop}{lt:Keyed->Keyed->Bool}
abbrev Le(lt:Keyed->Keyed->Bool)(x y:Keyed):Prop:=lt y x=false
def Cmp.rf(C:Cmp M A E s kd D lt)(x:Keyed):Le lt x x:=by
 show lt x x=false
 cases h:lt x x with
 |false=>rfl
 |true=>exact absurd h (by rw[C.as x x h];simp)
def SL(lt:Keyed->Keyed->Bool)(l:List Keyed)(b n:Nat):Prop:= ∀i j x y,i<=j->j<n->l[b+i]? =some x->l[b+j]? =some y->lt y x=false
def yE{st:SortSt}{i:Nat}{Q:Keyed->SortSt->Prop}{x:Keyed}(e:v.toList[i]? =some x)(h:Q x st):wpS M A E s (elem' v i) Q st:=by
 rw[elem'_eq];have:v[i]? =some x:=by rw[<-ò];exact e
 rw[this];exact wpS_pure h
def wN{i:Nat}(h:i<v.size): ∃x,v.toList[i]? =some x:=⟨v.toList[i]'(by simpa using h),gE _⟩
noncomputable def pB(lt:Keyed->Keyed->Bool)(lf:Bool)(x:Keyed)(l:List Keyed)(b i:Nat):Bool:=(l[b+i]?).elim false λy=>if lf=true then lt y x else !lt x y
theorem tells(C:Cmp M A E s kd D lt){st:SortSt}(e:kindOf st=kd)(j: ∀y,y∈v.toList->D y){x:Keyed}(h:D x){b n:Nat}(k:b+n<=v.size)(lf:Bool):
  Tells M A E s st (bey lf x v b) (pB lt lf x v.toList b) n:=by
 intro i hi Q c;obtain⟨y,d⟩:=wN (v:=v) (i:=b+i) #[0];have a:=j y (è d);unfold pB at c;rw[d]at c;refine wpS_bind (yE d ?_)
 cases lf with
 |true=>exact C.go y x a h st e _ c
 |false=>
  show wpS M A E s _ Q st;exact wpS_bind (C.go x y h a st e _ (wpS_pure c))
theorem LI(C:Cmp M A E s kd D lt){st:SortSt}(p:kindOf st=kd)(w: ∀y,y∈v.toList->D y){x:Keyed}(F:D x){b n h:Nat}(q:b+n<=v.size)(u:h<n)
  (hs:SL lt v.toList b n) {Q:Option Nat->SortSt->Prop}
  (hq: ∀r,r<=n->(∀i y,i<r->v.toList[b+i]? =some y->lt x y=false)->(∀i y,r<=i->i<n->v.toList[b+i]? =some y->lt x y=true)->Q (some r) st):
  wpS M A E s (aO false x v b n h) Q st:=by
 rw[EX];refine Cu (tells C p w F q false) (λi j h1 k c=>?_) u (λr h1 k c=>hq r h1 (λi y a e=>?_) (λi y a e B=>?_))
 .obtain⟨y,o⟩:=wN (v:=v) (i:=b+i) #[0];obtain⟨z,m⟩:=wN (v:=v) (i:=b+j) #[0];unfold pB at c ⊢;rw[m]at c;rw[o];have d:_=true:=c;show(!lt x y)=true;have:=hs i j y z h1 k o m;have a:=by simpa using d
  rw[C.tr y z x this a];rfl
 .have:=k i a;unfold pB at this;rw[e]at this;have h':_=true:=this;simpa using h'
 .have:=c i a e;unfold pB at this;rw[B]at this;have h':_=false:=this;simpa using h'
theorem LK(C:Cmp M A E s kd D lt){st:SortSt}(q:kindOf st=kd)(B: ∀y,y∈v.toList->D y){x:Keyed}(G:D x){b n h:Nat}(u:b+n<=v.size)(w:h<n)
  (hs:SL lt v.toList b n) {Q:Option Nat->SortSt->Prop}
  (hq: ∀r,r<=n->(∀i y,i<r->v.toList[b+i]? =some y->lt y x=true)->(∀i y,r<=i->i<n->v.toList[b+i]? =some y->lt y x=false)->Q (some r) st):
  wpS M A E s (aO true x v b n h) Q st:=by
 rw[EX];refine Cu (tells C q B G u true) (λi j h1 m a=>?_) w (λr h1 m a=>hq r h1 (λi y c e=>?_) (λi y c e F=>?_))
 .obtain⟨y,p⟩:=wN (v:=v) (i:=b+i) #[0];obtain⟨z,o⟩:=wN (v:=v) (i:=b+j) #[0];unfold pB at a ⊢;rw[o]at a;rw[p];have d:lt z x=true:=a;show lt y x=true;have:=hs i j y z h1 m p o
  cases k:lt y x with
  |true=>rfl
  |false=>exact absurd d (by rw[C.tr x y z k this];simp)
 .have:=m i c;unfold pB at this;rw[e]at this;exact this
 .have:=a i c e;unfold pB at this;rw[F]at this;exact this
end
end Srt
namespace Srt
open PySem PyProof.Rows
abbrev V:=Array Keyed
abbrev L5:=Option V×V×Nat×Nat×Nat
abbrev L6:=Option V×V×Nat×Nat×Nat×Nat
abbrev L7:=Option V×V×Nat×Nat×Nat×Nat×Nat
noncomputable abbrev Ak(a b o:V)(i j:Nat):V:=o++a.extract i a.size++b.extract j b.size
noncomputable abbrev Wp(a b o:V)(i j:Nat):V:=o++b.extract j b.size++a.extract i a.size
def Tw(a b:V)(g:Nat)(c:L6):SM (ForInStep L6):=
 elem' b c.2.2.2.1 >>= λy=>elem' a c.2.2.1 >>= λx=>lt' y x >>= λr=>match r with
  |some q=>if q=true then elem' b c.2.2.2.1 >>= λy=>
     if(c.2.2.2.1+1==b.size)=true then pure (.done (some (Ak a b (c.2.1.push y) c.2.2.1 (c.2.2.2.1+1)),c.2.1.push y,c.2.2.1,c.2.2.2.1+1,0,c.2.2.2.2.2+1))
     else if c.2.2.2.2.2+1>=g then pure (.done (none,c.2.1.push y,c.2.2.1,c.2.2.2.1+1,0,c.2.2.2.2.2+1))
     else pure (.yield (none,c.2.1.push y,c.2.2.1,c.2.2.2.1+1,0,c.2.2.2.2.2+1))
    else elem' a c.2.2.1 >>= λx=>
     if(c.2.2.1+1+1==a.size)=true then pure (.done (some (Wp a b (c.2.1.push x) (c.2.2.1+1) c.2.2.2.1),c.2.1.push x,c.2.2.1+1,c.2.2.2.1,c.2.2.2.2.1+1,0))
     else if c.2.2.2.2.1+1>=g then pure (.done (none,c.2.1.push x,c.2.2.1+1,c.2.2.2.1,c.2.2.2.2.1+1,0))
     else pure (.yield (none,c.2.1.push x,c.2.2.1+1,c.2.2.2.1,c.2.2.2.2.1+1,0))
  |_=>pure (.done (some (Ak a b c.2.1 c.2.2.1 c.2.2.2.1),c.2.1,c.2.2.1,c.2.2.2.1,c.2.2.2.2.1,c.2.2.2.2.2))
def in1(a b:V)(t g:Nat)(c:L6):SM L6:=forIn [0:t] c λ_ c=>Tw a b g c
def Tx(a b o:V)(i j g p q:Nat):SM (ForInStep L7):=
 elem' a i >>= λx=>if(i+1+1==a.size)=true then pure (.done (some (Wp a b (o.push x) (i+1) j),o.push x,i+1,j,g,p,q))
  else if(decide (p<7)&&decide (q<7))=true then pure (.done (none,o.push x,i+1,j,g,p,q))else pure (.yield (none,o.push x,i+1,j,g,p,q))
def Ua(a b o:V)(i j g p q:Nat):SM (ForInStep L7):=
 elem' b j >>= λy=>if(j+1==b.size)=true then pure (.done (some (Ak a b (o.push y) i (j+1)),o.push y,i,j+1,g,p,q))
  else elem' a i >>= λx=>aO true x b (j+1) (b.size - (j+1)) 0 >>= λr=>match r with
   |some k=>if k>0 then
      if(j+1+k==b.size)=true then pure (.done (some (Ak a b (o.push y++b.extract (j+1) (j+1+k)) i (j+1+k)),o.push y++b.extract (j+1) (j+1+k),i,j+1+k,g,p,k))
      else Tx a b (o.push y++b.extract (j+1) (j+1+k)) i (j+1+k) g p k
     else Tx a b (o.push y) i (j+1) g p k
   |_=>pure (.done (some (Ak a b (o.push y) i (j+1)),o.push y,i,j+1,g,p,q))
def Ub(a b o:V)(i j g p q:Nat):SM (ForInStep L7):=
 jP g >>= λ_=>elem' b j >>= λy=>aO false y a i (a.size - i) 0 >>= λr=>match r with
  |some k=>if k>0 then
     if(i+k+1==a.size)=true then pure (.done (some (Wp a b (o++a.extract i (i+k)) (i+k) j),o++a.extract i (i+k),i+k,j,g,k,q))
     else if(i+k==a.size)=true then pure (.done (some (Ak a b (o++a.extract i (i+k)) (i+k) j),o++a.extract i (i+k),i+k,j,g,k,q))
     else Ua a b (o++a.extract i (i+k)) (i+k) j g k q
    else Ua a b o i j g k q
  |_=>pure (.done (some (Ak a b o i j),o,i,j,g,p,q))
def in2(a b:V)(t:Nat)(c:L7):SM L7:=forIn [0:t] c λ_ c=>
 if c.2.2.2.2.1>1 then Ub a b c.2.1 c.2.2.1 c.2.2.2.1 (c.2.2.2.2.1 - 1) c.2.2.2.2.2.1 c.2.2.2.2.2.2
 else Ub a b c.2.1 c.2.2.1 c.2.2.2.1 c.2.2.2.2.1 c.2.2.2.2.2.1 c.2.2.2.2.2.2
def Zc(a b:V)(t:Nat)(c:L5):SM L5:=forIn [0:t] c λ_ c=>
 in1 a b t c.2.2.2.2 (none,c.2.1,c.2.2.1,c.2.2.2.1,0,0) >>= λd=>match d.1 with
  |some r=>pure (.done (some r,d.2.1,d.2.2.1,d.2.2.2.1,c.2.2.2.2))
  |none=>liftM (rule "list.sort.gallop") >>= λ_=>in2 a b t (none,d.2.1,d.2.2.1,d.2.2.2.1,c.2.2.2.2+1,d.2.2.2.2.1,d.2.2.2.2.2) >>= λe=>match e.1 with
   |some r=>pure (.done (some r,e.2.1,e.2.2.1,e.2.2.2.1,e.2.2.2.2.1))
   |none=>jP (e.2.2.2.2.1+1) >>= λ_=>pure (.yield (none,e.2.1,e.2.2.1,e.2.2.2.1,e.2.2.2.2.1+1))
def mLo(a b:V):SM V:=
 liftM (rule "list.sort.merge-lo") >>= λ_=>elem' b 0 >>= λy=>if(1==b.size)=true then pure (Ak a b #[y] 0 1)
  else if(0+1==a.size)=true then pure (Wp a b #[y] 0 1)
  else get >>= λst=>Zc a b (a.size+b.size) (none,#[y],0,1,gallopOf st) >>= λc=>match c.1 with
   |some r=>pure r
   |none=>liftM (unsupported "internal:list.sort.merge-bound")
theorem PC(a b:V):ET a b=mLo a b:=by kernel_rfl
end Srt
namespace Srt
open PySem PyProof.Rows
variable{o:V}{j:Nat}
def AI(v:V)(i:Nat):(v.extract i v.size).toList=v.toList.drop i:=by rw[Array.toList_extract];exact Ā (by simp)
def LL(v:V)(i k:Nat):(v.extract i (i+k)).toList=(v.toList.drop i).take k:=by rw[Array.toList_extract,List.extract_eq_take_drop,Nat.add_sub_cancel_left]
def Sg(st a:SortSt):Prop:= ∃g,a=SortSt.mk' (kindOf st) (arrOf st) (pendingOf st) g (failedOf st)
def Sg.refl(st:SortSt):Sg st st:=⟨gallopOf st,rfl⟩
theorem Sg.kind{st a:SortSt}(h:Sg st a):kindOf a=kindOf st:=by obtain⟨g,rfl⟩:=h;rfl
section
variable{M:Model}{A:Ņ}{E:VP}{s:Ń}{kd:SortKind}{D:Keyed->Prop}{lt:Keyed->Keyed->Bool}{a b:V}
def DF{st a:SortSt}(h:Sg st a){g:Nat}{Q:Unit->SortSt->Prop}(b: ∀a,Sg st a->Q () a):wpS M A E s (jP g) Q a:=by obtain⟨c,rfl⟩:=h;exact wpS_modify (b _ ⟨g,rfl⟩)
abbrev TwoA(lt:Keyed->Keyed->Bool)(a b o:V)(i j:Nat):Prop:=Two (Le lt) (a.toList++b.toList) o.toList (a.toList.drop i) (b.toList.drop j)
def FinA(lt:Keyed->Keyed->Bool)(a b r:V):Prop:=r.toList.Pairwise (Le lt)/\r.toList.Perm (a.toList++b.toList)
def LM{β:Type}{l:List β}{i:Nat}{x:β}(h:l[i]? =some x):l.drop i=x::l.drop (i+1):=by obtain⟨hi,e⟩:=gS.mp h;rw[<-e];exact Ħ hi
def heads{β:Type}{le:β->β->Prop}(rf: ∀x,le x x){l:List β}{i:Nat}{x:β}(h:(l.drop i).Pairwise le)(e:l[i]? =some x): ∀z,z∈l.drop i->le x z:=by
 rw[LM e]at h ⊢;intro z a
 cases a with
 |head=>exact rf x
 |tail _ a=>exact(List.pairwise_cons.mp h).1 z a
def TwoA.sa{i:Nat}(h:TwoA lt a b o i j):(a.toList.drop i).Pairwise (Le lt):=(ê.mp h.hx).2.1
def TwoA.sb{i:Nat}(h:TwoA lt a b o i j):(b.toList.drop j).Pairwise (Le lt):=(ê.mp h.hy).2.1
theorem VI{l:List Keyed}{i n:Nat}(h:(l.drop i).Pairwise (Le lt))(rf: ∀x,Le lt x x):SL lt l i n:=by
 intro p q x y h1 j b a;by_cases e:p=q
 .subst e;rw[b]at a;cases a;exact rf x
 .obtain⟨k,d⟩:=gS.mp b;obtain⟨m,c⟩:=gS.mp a;have:=List.pairwise_iff_getElem.mp h p q (by rw[õ];lia) (by rw[õ];lia) #[0];rw[getElem_drop,getElem_drop,d,c]at this;exact this
def TwoA.pushB{i:Nat}{y:Keyed}(h:TwoA lt a b o i j)(e:b.toList[j]? =some y)(c: ∀x,x∈a.toList.drop i->Le lt y x):TwoA lt a b (o.push y) i (j+1):=by
 have h':Two (Le lt) (a.toList++b.toList) o.toList (a.toList.drop i) ([y]++b.toList.drop (j+1)):=by rw[show [y]++b.toList.drop _=b.toList.drop j from(LM e).symm];exact h
 have:=h'.moveys λz d x k=>by rw[mS.mp d];exact c x k
 show Two _ _ (o.push y).toList _ _;rw[Array.toList_push];exact this
def TwoA.pushA{i:Nat}{x:Keyed}(h:TwoA lt a b o i j)(e:a.toList[i]? =some x)(c: ∀y,y∈b.toList.drop j->Le lt x y):TwoA lt a b (o.push x) (i+1) j:=by
 have h':Two (Le lt) (a.toList++b.toList) o.toList ([x]++a.toList.drop (i+1)) (b.toList.drop j):=by rw[show [x]++a.toList.drop _=a.toList.drop i from(LM e).symm];exact h
 have:=h'.movexs λz d y k=>by rw[mS.mp d];exact c y k
 show Two _ _ (o.push x).toList _ _;rw[Array.toList_push];exact this
def TwoA.cutA{i k:Nat}(h:TwoA lt a b o i j)(c: ∀n z,n<k->a.toList[i+n]? =some z-> ∀y,y∈b.toList.drop j->Le lt z y):TwoA lt a b (o++a.extract i (i+k)) (i+k) j:=by
 have h':Two (Le lt) (a.toList++b.toList) o.toList ((a.toList.drop i).take k++a.toList.drop (i+k)) (b.toList.drop j):=by rw[<-EV];exact h
 have:=h'.movexs λz d y m=>by obtain⟨n,h1,_,e⟩:=tM d;exact c n z h1 e y m
 show Two _ _ (o++a.extract i _).toList _ _;rw[ü,LL];exact this
def TwoA.cutB{i k:Nat}(h:TwoA lt a b o i j)(c: ∀n z,n<k->b.toList[j+n]? =some z-> ∀x,x∈a.toList.drop i->Le lt z x):TwoA lt a b (o++b.extract j (j+k)) i (j+k):=by
 have h':Two (Le lt) (a.toList++b.toList) o.toList (a.toList.drop i) ((b.toList.drop j).take k++b.toList.drop (j+k)):=by rw[<-EV];exact h
 have:=h'.moveys λz d y m=>by obtain⟨n,h1,_,e⟩:=tM d;exact c n z h1 e y m
 show Two _ _ (o++b.extract j _).toList _ _;rw[ü,LL];exact this
def TwoA.dnB{i:Nat}(h:TwoA lt a b o i j)(d:b.size<=j):FinA lt a b (Ak a b o i j):=by
 have e:(Ak a b o i j).toList=o.toList++a.toList.drop i++b.toList.drop j:=by rw[ü,ü,AI,AI]
 unfold FinA;rw[e];exact h.fin λx _ y c=>by rw[drop_of_length_le (by simpa using d)]at c;cases c
def TwoA.dnA{i:Nat}(h:TwoA lt a b o i j)(hi:a.size<=i):FinA lt a b (Ak a b o i j):=by
 have e:(Ak a b o i j).toList=o.toList++a.toList.drop i++b.toList.drop j:=by rw[ü,ü,AI,AI]
 unfold FinA;rw[e];exact h.fin λx c y _=>by rw[drop_of_length_le (by simpa using hi)]at c;cases c
theorem TwoA.la{i:Nat}(h:TwoA lt a b o i j)(hi:i+1=a.size)(hz: ∀x y,a.toList[a.size - 1]? =some x->y∈b.toList->Le lt y x):FinA lt a b (Wp a b o i j):=by
 have e:(Wp a b o i j).toList=o.toList++b.toList.drop j++a.toList.drop i:=by rw[ü,ü,AI,AI]
 unfold FinA;rw[e];refine h.swap.fin λy d x k=>?_;obtain⟨n,h1,c⟩:=kD k;have m:a.toList.length=a.size:=by simp
 exact hz x y (by rw[show a.size - 1=i+n by lia];exact c) (List.mem_of_mem_drop d)
def TwoA.len{i:Nat}(h:TwoA lt a b o i j):o.size+((a.size - i)+(b.size - j))=a.size+b.size:=by have:=h.pm.length_eq;simpa [lA,õ]using this
def I1(lt:Keyed->Keyed->Bool)(a b o:V)(i j:Nat):Prop:=i+1<a.size/\j<b.size/\TwoA lt a b o i j
structure Set2(M:Model)(A:Ņ)(E:VP)(s:Ń)(kd:SortKind)(D:Keyed->Prop)(lt:Keyed->Keyed->Bool)(a b:V):Prop where
 C:Cmp M A E s kd D lt
 da: ∀x,x∈a.toList->D x
 db: ∀x,x∈b.toList->D x
 lst: ∀x y,a.toList[a.size - 1]? =some x->y∈b.toList->Le lt y x
def N6(lt:Keyed->Keyed->Bool)(a b:V)(n:Nat)(c:L6):Prop:= ∃o i j p q,c=(none,o,i,j,p,q)/\I1 lt a b o i j/\n<=o.size
def P6(lt:Keyed->Keyed->Bool)(a b:V)(n:Nat)(c:L6):Prop:=(∃r e,c=(some r,e)/\FinA lt a b r)\/N6 lt a b n c
def N7(lt:Keyed->Keyed->Bool)(a b:V)(n:Nat)(c:L7):Prop:= ∃o i j g p q,c=(none,o,i,j,g,p,q)/\I1 lt a b o i j/\n<=o.size
def P7(lt:Keyed->Keyed->Bool)(a b:V)(n:Nat)(c:L7):Prop:=(∃r e,c=(some r,e)/\FinA lt a b r)\/N7 lt a b n c
theorem Kp(Z:Set2 M A E s kd D lt a b){st:SortSt}(B:kindOf st=kd){i p q g:Nat}(h:I1 lt a b o i j){Q:ForInStep L6->SortSt->Prop}
  (hd: ∀c,P6 lt a b (o.size+1) c->Q (.done c) st) (hy: ∀c,N6 lt a b (o.size+1) c->Q (.yield c) st):wpS M A E s (Tw a b g (none,o,i,j,p,q)) Q st:=by
 obtain⟨h1,w,r⟩:=h;obtain⟨y,n⟩:=wN w;obtain⟨x,ex⟩:=wN (v:=a) (i:=i) #[0];have G:=heads Z.C.rf r.sb n;have F:=heads Z.C.rf r.sa ex;unfold Tw;refine wpS_bind (yE n (wpS_bind (yE ex (wpS_bind (Z.C.go y x (Z.db y (è n)) (Z.da x (è ex)) st B _ ?_)))))
 cases k:lt y x with
 |true=>
  have e:=r.pushB n λz u=>Z.C.tr y x z (Z.C.as y x k) (F z u);have hs:(o.push y).size=o.size+1:=Ĝ ..;refine wpS_bind (yE n ?_);dsimp only;by_cases d:j+1=b.size
  .rw[iP (by simpa using d)];exact wpS_pure (hd _ (.inl ⟨_,_,rfl,e.dnB #[0]⟩))
  .rw[iN (by simpa using d)];have m:I1 lt a b _ i _:=⟨h1,by lia,e⟩
   split
   .exact wpS_pure (hd _ (.inr ⟨_,_,_,_,_,rfl,m,by lia⟩))
   .exact wpS_pure (hy _ ⟨_,_,_,_,_,rfl,m,by lia⟩)
 |false=>
  have e:=r.pushA ex λz u=>Z.C.tr x y z k (G z u);have hs:(o.push x).size=o.size+1:=Ĝ ..;refine wpS_bind (yE ex ?_);dsimp only;by_cases d:i+1+1=a.size
  .rw[iP (by simpa using d)];exact wpS_pure (hd _ (.inl ⟨_,_,rfl,e.la d Z.lst⟩))
  .rw[iN (by simpa using d)];have m:I1 lt a b _ _ j:=⟨by lia,w,e⟩
   split
   .exact wpS_pure (hd _ (.inr ⟨_,_,_,_,_,rfl,m,by lia⟩))
   .exact wpS_pure (hy _ ⟨_,_,_,_,_,rfl,m,by lia⟩)
theorem N6.mono{n m:Nat}{c:L6}(h:N6 lt a b n c)(e:m<=n):N6 lt a b m c:=by obtain⟨o,i,j,p,q,h1,d,k⟩:=h;exact⟨o,i,j,p,q,h1,d,by lia⟩
def P6.mono{n m:Nat}{c:L6}(h:P6 lt a b n c)(e:m<=n):P6 lt a b m c:=h.imp id λh=>h.mono e
theorem Uc(Z:Set2 M A E s kd D lt a b){st:SortSt}(k:kindOf st=kd){i g t:Nat}(q:1<=t)(h:I1 lt a b o i j){Q:L6->SortSt->Prop}
  (hq: ∀c,P6 lt a b (o.size+1) c->Q c st):wpS M A E s (in1 a b t g (none,o,i,j,0,0)) Q st:=by
 refine Ć (I:=λx c d=>d=st/\N6 lt a b (o.size+x) c) ?_ ?_ ⟨rfl,o,i,j,0,0,rfl,h,by lia⟩
 .rintro x c d _ _ ⟨rfl,o',p,u,v,r,rfl,h',n⟩;refine Kp Z k h' (λc e=>hq c (e.mono #[0])) (λc e=>⟨rfl,e.mono #[0]⟩)
 .rintro c d ⟨rfl,m⟩;exact hq c (.inr (m.mono #[0]))
theorem VJ(Z:Set2 M A E s kd D lt a b){st:SortSt}{i g p q:Nat}(h1:i+1<a.size)(k:j<b.size)(m:TwoA lt a b o i j)
  (hl: ∀x,a.toList[i]? =some x-> ∀y,y∈b.toList.drop j->Le lt x y) {n:Nat} (hn:n<=o.size) {Q:ForInStep L7->SortSt->Prop}
  (hd: ∀c,P7 lt a b n c->Q (.done c) st) (hy: ∀c,N7 lt a b n c->Q (.yield c) st):wpS M A E s (Tx a b o i j g p q) Q st:=by
 obtain⟨x,ex⟩:=wN (v:=a) (i:=i) #[0];have e:=m.pushA ex (hl x ex);have hs:(o.push x).size=o.size+1:=Ĝ ..;refine wpS_bind (yE ex ?_);by_cases d:i+1+1=a.size
 .rw[iP (by simpa using d)];exact wpS_pure (hd _ (.inl ⟨_,_,rfl,e.la d Z.lst⟩))
 .rw[iN (by simpa using d)];have h:I1 lt a b _ _ j:=⟨by lia,k,e⟩
  split
  .exact wpS_pure (hd _ (.inr ⟨_,_,_,_,_,_,rfl,h,by lia⟩))
  .exact wpS_pure (hy _ ⟨_,_,_,_,_,_,rfl,h,by lia⟩)
theorem VL(Z:Set2 M A E s kd D lt a b){st:SortSt}(N:kindOf st=kd){i g p q:Nat}(h1:i+1<a.size)(T:j<b.size)(L:TwoA lt a b o i j)
  (hl: ∀y,b.toList[j]? =some y-> ∀x,x∈a.toList.drop i->Le lt y x) {n:Nat} (hn:n<=o.size) {Q:ForInStep L7->SortSt->Prop}
  (hd: ∀c,P7 lt a b n c->Q (.done c) st) (hy: ∀c,N7 lt a b n c->Q (.yield c) st):wpS M A E s (Ua a b o i j g p q) Q st:=by
 obtain⟨y,w⟩:=wN T;obtain⟨x,ex⟩:=wN (v:=a) (i:=i) #[0];have h:=L.pushB w (hl y w);have hs:(o.push y).size=o.size+1:=Ĝ ..;have O:=heads Z.C.rf L.sa ex;refine wpS_bind (yE w ?_);by_cases G:j+1=b.size
 .rw[iP (by simpa using G)];exact wpS_pure (hd _ (.inl ⟨_,_,rfl,h.dnB #[0]⟩))
 .rw[iN (by simpa using G)];refine wpS_bind (yE ex (wpS_bind (LK Z.C N Z.db (Z.da x (è ex)) #[0] #[0] (VI h.sb Z.C.rf) λk k1 k2 J=>?_)));dsimp only;by_cases K:k>0
  .rw[iP K];have H:=h.cutB λm z U S r d=>Z.C.tr z x r (Z.C.as z x (k2 m z U S)) (O r d);have P:(o.push y++b.extract (j+1) (j+1+k)).size>=o.size+1:=by rw[Array.size_append];lia
   by_cases I:j+1+k=b.size
   .rw[iP (by simpa using I)];exact wpS_pure (hd _ (.inl ⟨_,_,rfl,H.dnB #[0]⟩))
   .rw[iN (by simpa using I)];refine VJ Z h1 #[0] H (λr d F e=>?_) #[0] hd hy;rw[ex]at d;cases d;obtain⟨m,B,u⟩:=kD e;rw[í]at B;exact J (k+m) F #[0] #[0] (by rw[<-add_assoc];exact u)
  .rw[iN K];refine VJ Z h1 #[0] h (λr d F e=>?_) #[0] hd hy;rw[ex]at d;cases d;obtain⟨m,B,u⟩:=kD e;rw[í]at B;exact J m F #[0] #[0] u
theorem VM(Z:Set2 M A E s kd D lt a b){r st:SortSt}(T:Sg r st)(Y:kindOf r=kd){i g p q:Nat}(h:I1 lt a b o i j){n:Nat}(hn:n<=o.size)
  {Q:ForInStep L7->SortSt->Prop} (hd: ∀c st,Sg r st->P7 lt a b n c->Q (.done c) st) (hy: ∀c st,Sg r st->N7 lt a b n c->Q (.yield c) st):
  wpS M A E s (Ub a b o i j g p q) Q st:=by
 obtain⟨h1,N,F⟩:=h;obtain⟨y,B⟩:=wN N;have W:=heads Z.C.rf F.sb B;refine wpS_bind (DF T λaa d=>?_);have u:=d.kind.trans Y;refine wpS_bind (yE B (wpS_bind (LI Z.C u Z.da (Z.db y (è B)) #[0] #[0] (VI F.sa Z.C.rf) λk k1 k2 S=>?_)));dsimp only;by_cases O:k>0
 .rw[iP O];have I:=F.cutA λm z X hz G e=>Z.C.tr z y G (k2 m z X hz) (W G e);have U:(o++a.extract i (i+k)).size>=o.size:=by rw[Array.size_append];lia
  by_cases L:i+k+1=a.size
  .rw[iP (by simpa using L)];exact wpS_pure (hd _ _ d (.inl ⟨_,_,rfl,I.la L Z.lst⟩))
  .rw[iN (by simpa using L)];by_cases P:i+k=a.size
   .rw[iP (by simpa using P)];exact wpS_pure (hd _ _ d (.inl ⟨_,_,rfl,I.dnA #[0]⟩))
   .rw[iN (by simpa using P)];refine VL Z u #[0] N I (λG e H w=>?_) #[0] (λc v=>hd c _ d v) (λc v=>hy c _ d v);rw[B]at e;cases e;obtain⟨m,K,J⟩:=kD w;rw[í]at K;exact Z.C.as _ _ (S (k+m) H #[0] #[0] (by rw[<-add_assoc];exact J))
 .rw[iN O];refine VL Z u h1 N F (λG e H w=>?_) hn (λc v=>hd c _ d v) (λc v=>hy c _ d v);rw[B]at e;cases e;obtain⟨m,K,J⟩:=kD w;rw[í]at K;exact Z.C.as _ _ (S m H #[0] #[0] J)
def Ud(Z:Set2 M A E s kd D lt a b){d st:SortSt}(v:Sg d st)(u:kindOf d=kd){i g p q t:Nat}(h:I1 lt a b o i j){n:Nat}(w:n<=o.size)
  {Q:L7->SortSt->Prop} (hq: ∀c st,Sg d st->P7 lt a b n c->Q c st):wpS M A E s (in2 a b t (none,o,i,j,g,p,q)) Q st:=by
 refine Ć (I:=λx c e=>Sg d e/\N7 lt a b n c) ?_ ?_ ⟨v,o,i,j,g,p,q,rfl,h,w⟩
 .rintro x c e _ _ ⟨k,o',z,F,B,G,C,rfl,h',r⟩;split
  .exact VM Z k u h' r (λc st hs m=>hq c st hs m) (λc st hs m=>⟨hs,m⟩)
  .exact VM Z k u h' r (λc st hs m=>hq c st hs m) (λc st hs m=>⟨hs,m⟩)
 .rintro c e ⟨k,y⟩;exact hq c e k (.inr y)
theorem Ue(Z:Set2 M A E s kd D lt a b){st:SortSt}(J:kindOf st=kd)(sa:a.toList.Pairwise (Le lt))(sb:b.toList.Pairwise (Le lt))(T:1<=a.size)(nb:1<=b.size)
  (h0: ∀x y,a.toList[0]? =some x->b.toList[0]? =some y->Le lt y x)
  {Q:V->SortSt->Prop} (hq: ∀r h,Sg st h->FinA lt a b r->Q r h):wpS M A E s (ET a b) Q st:=by
 rw[PC];refine wpS_bind (fO ?_);obtain⟨y,w⟩:=wN (v:=b) (i:=0) #[0];obtain⟨x,ex⟩:=wN (v:=a) (i:=0) #[0];have H:TwoA lt a b #[] 0 0:=⟨by simpa using sa,by simpa using sb,by simp⟩
 have G:=heads Z.C.rf H.sa ex;have q:=H.pushB w λz P=>Z.C.tr y x z (h0 x y ex w) (G z P);refine wpS_bind (yE w ?_);by_cases K:1=b.size
 .rw[iP (by simpa using K)];exact wpS_pure (hq _ _ (Sg.refl st) (q.dnB #[0]))
 .rw[iN (by simpa using K)];by_cases F:0+1=a.size
  .rw[iP (by simpa using F)];exact wpS_pure (hq _ _ (Sg.refl st) (q.la F Z.lst))
  .rw[iN (by simpa using F)];refine wpS_bind (wpS_get ?_);refine wpS_bind (wpS_mono (Q:=λc h=>Sg st h/\ ∃r e,c=(some r,e)/\FinA lt a b r) ?_ ?_)
   .unfold Zc;refine Ć (I:=λx c h=>Sg st h/\ ∃o i j g,c=(none,o,i,j,g)/\I1 lt a b o i j/\x+1<=o.size) ?_ ?_ ⟨Sg.refl st,_,_,_,_,rfl,⟨by lia,by lia,q⟩,by simp⟩
    .rintro n c h _ _ ⟨k,o,i,j,g,rfl,u,O⟩;refine wpS_bind (Uc Z (k.kind.trans J) #[0] u λd hd=>?_);rcases hd with⟨r,e,rfl,p⟩|⟨o',i',j',p',q',rfl,hI',hn'⟩
     .exact wpS_pure ⟨k,r,_,rfl,p⟩
     .dsimp only;refine wpS_bind (fO ?_);refine wpS_bind (Ud Z k J hI' hn' λe S m L=>?_);rcases L with⟨r,e,rfl,p⟩|⟨o2,i2,j2,g2,p2,q2,rfl,hI2,hn2⟩
      .exact wpS_pure ⟨m,r,_,rfl,p⟩
      .dsimp only;refine wpS_bind (DF m λN B=>?_);exact wpS_pure ⟨B,o2,i2,j2,_,rfl,hI2,by lia⟩
    .rintro c h ⟨k,o,i,j,g,rfl,u,O⟩;have:=u.2.2.len
     lia
   .rintro c h ⟨k,r,e,rfl,p⟩;exact wpS_pure (hq r h k p)
end
end Srt
namespace Srt
open PySem PyProof.Rows
variable{o:V}{j:Nat}
abbrev H5:=Option V×Nat×Nat×V×Nat
abbrev H6:=Option V×Nat×Nat×V×Nat×Nat
abbrev H7:=Option V×Nat×Nat×V×Nat×Nat×Nat
noncomputable abbrev Gk(a b o:V)(i j:Nat):V:=a.extract 0 i++b.extract 0 j++o.reverse
noncomputable abbrev Wq(a b o:V)(i j:Nat):V:=b.extract 0 j++a.extract 0 i++o.reverse
def Ug(a b:V)(g:Nat)(c:H6):SM (ForInStep H6):=
 elem' b (c.2.2.1 - 1) >>= λy=>elem' a (c.2.1 - 1) >>= λx=>lt' y x >>= λr=>match r with
  |some q=>if q=true then elem' a (c.2.1 - 1) >>= λx=>
     if(c.2.1 - 1==0)=true then pure (.done (some (Gk a b (c.2.2.2.1.push x) (c.2.1 - 1) c.2.2.1),c.2.1 - 1,c.2.2.1,c.2.2.2.1.push x,c.2.2.2.2.1+1,0))
     else if c.2.2.2.2.1+1>=g then pure (.done (none,c.2.1 - 1,c.2.2.1,c.2.2.2.1.push x,c.2.2.2.2.1+1,0))
     else pure (.yield (none,c.2.1 - 1,c.2.2.1,c.2.2.2.1.push x,c.2.2.2.2.1+1,0))
    else elem' b (c.2.2.1 - 1) >>= λy=>
     if(c.2.2.1 - 1==1)=true then pure (.done (some (Wq a b (c.2.2.2.1.push y) c.2.1 (c.2.2.1 - 1)),c.2.1,c.2.2.1 - 1,c.2.2.2.1.push y,0,c.2.2.2.2.2+1))
     else if c.2.2.2.2.2+1>=g then pure (.done (none,c.2.1,c.2.2.1 - 1,c.2.2.2.1.push y,0,c.2.2.2.2.2+1))
     else pure (.yield (none,c.2.1,c.2.2.1 - 1,c.2.2.2.1.push y,0,c.2.2.2.2.2+1))
  |_=>pure (.done (some (Gk a b c.2.2.2.1 c.2.1 c.2.2.1),c.2.1,c.2.2.1,c.2.2.2.1,c.2.2.2.2.1,c.2.2.2.2.2))
def Zd(a b:V)(t g:Nat)(c:H6):SM H6:=forIn [0:t] c λ_ c=>Ug a b g c
def F1(a b o:V)(i j g p q:Nat):SM (ForInStep H7):=
 elem' a (i - 1) >>= λx=>if(i - 1==0)=true then pure (.done (some (Gk a b (o.push x) (i - 1) j),i - 1,j,o.push x,g,p,q))
  else if(decide (p<7)&&decide (q<7))=true then pure (.done (none,i - 1,j,o.push x,g,p,q))else pure (.yield (none,i - 1,j,o.push x,g,p,q))
def F3(a b o:V)(i j g p q:Nat):SM (ForInStep H7):=
 elem' b (j - 1) >>= λy=>if(j - 1==1)=true then pure (.done (some (Wq a b (o.push y) i (j - 1)),i,j - 1,o.push y,g,p,q))
  else elem' a (i - 1) >>= λx=>aO true x b 0 (j - 1) (j - 1 - 1) >>= λr=>match r with
   |some k=>if j - 1 - k>0 then
      if(k==1)=true then pure (.done (some (Wq a b (o.push y++(b.extract k (j - 1)).reverse) i k),i,k,o.push y++(b.extract k (j - 1)).reverse,g,p,j - 1 - k))
      else if(k==0)=true then pure (.done (some (Gk a b (o.push y++(b.extract k (j - 1)).reverse) i k),i,k,o.push y++(b.extract k (j - 1)).reverse,g,p,j - 1 - k))
      else F1 a b (o.push y++(b.extract k (j - 1)).reverse) i k g p (j - 1 - k)
     else F1 a b (o.push y) i (j - 1) g p (j - 1 - k)
   |_=>pure (.done (some (Gk a b (o.push y) i (j - 1)),i,j - 1,o.push y,g,p,q))
def F4(a b o:V)(i j g p q:Nat):SM (ForInStep H7):=
 jP g >>= λ_=>elem' b (j - 1) >>= λy=>aO false y a 0 i (i - 1) >>= λr=>match r with
  |some k=>if i - k>0 then
     if(k==0)=true then pure (.done (some (Gk a b (o++(a.extract k i).reverse) k j),k,j,o++(a.extract k i).reverse,g,i - k,q))
     else F3 a b (o++(a.extract k i).reverse) k j g (i - k) q
    else F3 a b o i j g (i - k) q
  |_=>pure (.done (some (Gk a b o i j),i,j,o,g,p,q))
def Ze(a b:V)(t:Nat)(c:H7):SM H7:=forIn [0:t] c λ_ c=>
 if c.2.2.2.2.1>1 then F4 a b c.2.2.2.1 c.2.1 c.2.2.1 (c.2.2.2.2.1 - 1) c.2.2.2.2.2.1 c.2.2.2.2.2.2
 else F4 a b c.2.2.2.1 c.2.1 c.2.2.1 c.2.2.2.2.1 c.2.2.2.2.2.1 c.2.2.2.2.2.2
def Zf(a b:V)(t:Nat)(c:H5):SM H5:=forIn [0:t] c λ_ c=>
 Zd a b t c.2.2.2.2 (none,c.2.1,c.2.2.1,c.2.2.2.1,0,0) >>= λd=>match d.1 with
  |some r=>pure (.done (some r,d.2.1,d.2.2.1,d.2.2.2.1,c.2.2.2.2))
  |none=>liftM (rule "list.sort.gallop") >>= λ_=>Ze a b t (none,d.2.1,d.2.2.1,d.2.2.2.1,c.2.2.2.2+1,d.2.2.2.2.1,d.2.2.2.2.2) >>= λe=>match e.1 with
   |some r=>pure (.done (some r,e.2.1,e.2.2.1,e.2.2.2.1,e.2.2.2.2.1))
   |none=>jP (e.2.2.2.2.1+1) >>= λ_=>pure (.yield (none,e.2.1,e.2.2.1,e.2.2.2.1,e.2.2.2.2.1+1))
def mHi(a b:V):SM V:=
 liftM (rule "list.sort.merge-hi") >>= λ_=>elem' a (a.size - 1) >>= λx=>if(a.size - 1==0)=true then pure (Gk a b #[x] (a.size - 1) b.size)
  else if(b.size==1)=true then pure (Wq a b #[x] (a.size - 1) b.size)
  else get >>= λst=>Zf a b (a.size+b.size) (none,a.size - 1,b.size,#[x],gallopOf st) >>= λc=>match c.1 with
   |some r=>pure r
   |none=>liftM (unsupported "internal:list.sort.merge-bound")
theorem PD(a b:V):EU a b=mHi a b:=by kernel_rfl
theorem LN(v:V)(i:Nat):(v.extract 0 i).toList=v.toList.take i:=by rw[Array.toList_extract];rfl
def Uh(v:V)(t i:Nat):(v.extract t i).toList=(v.toList.take i).drop t:=by rw[Array.toList_extract,drop_take]
theorem tN{β:Type}{l:List β}{t i:Nat}{z:β}(h:z∈(l.take i).drop t): ∃n,t<=n/\n<i/\l[n]? =some z:=by obtain⟨j,h1,a⟩:=kD h;rw[lT]at h1;rw[ĩ #[0]]at a;exact⟨t+j,by lia,by lia,a⟩
def DG{β:Type}{l:List β}{i:Nat}{x:β}(h:l[i]? =some x):l.take (i+1)=l.take i++[x]:=by obtain⟨hi,e⟩:=gS.mp h;rw[<-e];exact(List.take_append_getElem hi).symm
def PF{β:Type}{le:β->β->Prop}(rf: ∀x,le x x){l:List β}{i:Nat}{x:β}(h:(l.take (i+1)).Pairwise le)(e:l[i]? =some x): ∀z,z∈l.take (i+1)->le z x:=by
 rw[DG e]at h ⊢;intro z a;rcases é.mp a with q|q
 .exact(ê.mp h).2.2 z q x (mS.mpr rfl)
 .rw[mS.mp q];exact rf x
section
variable{M:Model}{A:Ņ}{E:VP}{s:Ń}{kd:SortKind}{D:Keyed->Prop}{lt:Keyed->Keyed->Bool}{a b:V}
theorem VN{l:List Keyed}{n:Nat}(h:(l.take n).Pairwise (Le lt))(rf: ∀x,Le lt x x):SL lt l 0 n:=by
 intro p q x y h1 i b a;rw[ă]at b a;by_cases e:p=q
 .subst e;rw[b]at a;cases a;exact rf x
 .obtain⟨j,d⟩:=gS.mp b;obtain⟨k,c⟩:=gS.mp a;have:=List.pairwise_iff_getElem.mp h p q (by rw[lT];lia) (by rw[lT];lia) #[0];rw[getElem_take,getElem_take,d,c]at this;exact this
abbrev TwoH(lt:Keyed->Keyed->Bool)(a b o:V)(i j:Nat):Prop:=TwoR (Le lt) (a.toList++b.toList) (a.toList.take i) (b.toList.take j) o.toList.reverse
def TwoH.sa{i:Nat}(h:TwoH lt a b o i j):(a.toList.take i).Pairwise (Le lt):=(ê.mp h.hx).1
def TwoH.sb{i:Nat}(h:TwoH lt a b o i j):(b.toList.take j).Pairwise (Le lt):=(ê.mp h.hy).1
def TwoH.pushA{i:Nat}{x:Keyed}(h:TwoH lt a b o (i+1) j)(e:a.toList[i]? =some x)(c: ∀y,y∈b.toList.take j->Le lt y x):TwoH lt a b (o.push x) i j:=by
 have h':TwoR (Le lt) (a.toList++b.toList) (a.toList.take i++[x]) (b.toList.take j) o.toList.reverse:=by rw[<-DG e];exact h
 have:=h'.movexs λy k z d=>by rw[mS.mp d];exact c y k
 show TwoR _ _ _ _ (o.push x).toList.reverse;rw[Array.toList_push,List.reverse_append];exact this
def TwoH.pushB{i:Nat}{y:Keyed}(h:TwoH lt a b o i (j+1))(e:b.toList[j]? =some y)(c: ∀x,x∈a.toList.take i->Le lt x y):TwoH lt a b (o.push y) i j:=by
 have h':TwoR (Le lt) (a.toList++b.toList) (a.toList.take i) (b.toList.take j++[y]) o.toList.reverse:=by rw[<-DG e];exact h
 have:=h'.moveys λx k z d=>by rw[mS.mp d];exact c x k
 show TwoR _ _ _ _ (o.push y).toList.reverse;rw[Array.toList_push,List.reverse_append];exact this
def VO(o v:V)(t i:Nat):(o++(v.extract t i).reverse).toList.reverse=(v.toList.take i).drop t++o.toList.reverse:=by rw[ü,List.reverse_append,Array.toList_reverse,List.reverse_reverse,Uh]
def TwoH.cutA{i t:Nat}(c:t<=i)(h:TwoH lt a b o i j)(d: ∀n z,t<=n->n<i->a.toList[n]? =some z-> ∀y,y∈b.toList.take j->Le lt y z):TwoH lt a b (o++(a.extract t i).reverse) t j:=by
 have h':TwoR (Le lt) (a.toList++b.toList) (a.toList.take t++(a.toList.take i).drop t) (b.toList.take j) o.toList.reverse:=by rw[<-EW _ t i c];exact h
 have:=h'.movexs λy m z e=>by obtain⟨n,h1,k,p⟩:=tN e;exact d n z h1 k p y m
 show TwoR _ _ _ _ (o++(a.extract t i).reverse).toList.reverse;rw[VO];exact this
def TwoH.cutB{i t:Nat}(c:t<=j)(h:TwoH lt a b o i j)(d: ∀n z,t<=n->n<j->b.toList[n]? =some z-> ∀x,x∈a.toList.take i->Le lt x z):TwoH lt a b (o++(b.extract t j).reverse) i t:=by
 have h':TwoR (Le lt) (a.toList++b.toList) (a.toList.take i) (b.toList.take t++(b.toList.take j).drop t) o.toList.reverse:=by rw[<-EW _ t j c];exact h
 have:=h'.moveys λx p z e=>by obtain⟨n,h1,k,m⟩:=tN e;exact d n z h1 k m x p
 show TwoR _ _ _ _ (o++(b.extract t j).reverse).toList.reverse;rw[VO];exact this
def TwoH.dn{i:Nat}(h:TwoH lt a b o i j)(hz:i=0\/j=0):FinA lt a b (Gk a b o i j):=by
 have e:(Gk a b o i j).toList=a.toList.take i++b.toList.take j++o.toList.reverse:=by rw[ü,ü,LN,LN,Array.toList_reverse]
 unfold FinA;rw[e];refine h.fin λx d y c=>?_;rcases hz with rfl|rfl
 .cases d
 .cases c
theorem TwoH.fb{i:Nat}(h:TwoH lt a b o i 1)(hz: ∀x y,x∈a.toList->b.toList[0]? =some y->Le lt y x):FinA lt a b (Wq a b o i 1):=by
 have e:(Wq a b o i 1).toList=b.toList.take 1++a.toList.take i++o.toList.reverse:=by rw[ü,ü,LN,LN,Array.toList_reverse]
 unfold FinA;rw[e];refine h.swap.fin λy c x j=>?_;obtain⟨n,h1,k,d⟩:=iY c;exact hz x y (mem_of_mem_take j) (by rw[show 0=n by lia];exact d)
theorem TwoH.len{i:Nat}(h:TwoH lt a b o i j)(h1:i<=a.size)(c:j<=b.size):o.size+(i+j)=a.size+b.size:=by
 have:=h.pm.length_eq;simp only[lA,lT,List.length_reverse,í]at this
 lia
def J1(lt:Keyed->Keyed->Bool)(a b o:V)(i j:Nat):Prop:=1<=i/\i<=a.size/\2<=j/\j<=b.size/\TwoH lt a b o i j
structure Set3(M:Model)(A:Ņ)(E:VP)(s:Ń)(kd:SortKind)(D:Keyed->Prop)(lt:Keyed->Keyed->Bool)(a b:V):Prop extends Set2 M A E s kd D lt a b where
 fst: ∀x y,x∈a.toList->b.toList[0]? =some y->Le lt y x
def R6(lt:Keyed->Keyed->Bool)(a b:V)(n:Nat)(c:H6):Prop:= ∃i j o p q,c=(none,i,j,o,p,q)/\J1 lt a b o i j/\n<=o.size
def S6(lt:Keyed->Keyed->Bool)(a b:V)(n:Nat)(c:H6):Prop:=(∃r e,c=(some r,e)/\FinA lt a b r)\/R6 lt a b n c
def R7(lt:Keyed->Keyed->Bool)(a b:V)(n:Nat)(c:H7):Prop:= ∃i j o g p q,c=(none,i,j,o,g,p,q)/\J1 lt a b o i j/\n<=o.size
def S7(lt:Keyed->Keyed->Bool)(a b:V)(n:Nat)(c:H7):Prop:=(∃r e,c=(some r,e)/\FinA lt a b r)\/R7 lt a b n c
theorem R6.mono{n m:Nat}{c:H6}(h:R6 lt a b n c)(e:m<=n):R6 lt a b m c:=by obtain⟨o,i,j,p,q,h1,d,k⟩:=h;exact⟨o,i,j,p,q,h1,d,by lia⟩
def S6.mono{n m:Nat}{c:H6}(h:S6 lt a b n c)(e:m<=n):S6 lt a b m c:=h.imp id λh=>h.mono e
theorem Kq(Z:Set3 M A E s kd D lt a b){st:SortSt}(F:kindOf st=kd){i p q g:Nat}(h:J1 lt a b o i j){Q:ForInStep H6->SortSt->Prop}
  (hd: ∀c,S6 lt a b (o.size+1) c->Q (.done c) st) (hy: ∀c,R6 lt a b (o.size+1) c->Q (.yield c) st):wpS M A E s (Ug a b g (none,i,j,o,p,q)) Q st:=by
 obtain⟨h1,I,J,B,u⟩:=h;obtain⟨i,rfl⟩: ∃k,i=k+1:=⟨i - 1,by lia⟩
 obtain⟨j,rfl⟩: ∃k,j=k+1:=⟨j - 1,by lia⟩
 obtain⟨y,r⟩:=wN (v:=b) (i:=j) #[0];obtain⟨x,ex⟩:=wN (v:=a) (i:=i) #[0];have H:=PF Z.C.rf u.sb r;have G:=PF Z.C.rf u.sa ex;unfold Ug;simp only[Nat.add_sub_cancel];refine wpS_bind (yE r (wpS_bind (yE ex (wpS_bind (Z.C.go y x (Z.db y (è r)) (Z.da x (è ex)) st F _ ?_)))))
 cases m:lt y x with
 |true=>
  have e:=u.pushA ex λz w=>Z.C.tr z y x (H z w) (Z.C.as y x m);have hs:(o.push x).size=o.size+1:=Ĝ ..;refine wpS_bind (yE ex ?_);by_cases d:i=0
  .rw[iP (by simpa using d)];exact wpS_pure (hd _ (.inl ⟨_,_,rfl,e.dn (.inl d)⟩))
  .rw[iN (by simpa using d)];have n:J1 lt a b _ i (j+1):=⟨by lia,by lia,J,B,e⟩
   split
   .exact wpS_pure (hd _ (.inr ⟨_,_,_,_,_,rfl,n,by lia⟩))
   .exact wpS_pure (hy _ ⟨_,_,_,_,_,rfl,n,by lia⟩)
 |false=>
  have e:=u.pushB r λz w=>Z.C.tr z x y (G z w) m;have hs:(o.push y).size=o.size+1:=Ĝ ..;refine wpS_bind (yE r ?_);by_cases d:j=1
  .rw[iP (by simpa using d)];subst d;exact wpS_pure (hd _ (.inl ⟨_,_,rfl,e.fb Z.fst⟩))
  .rw[iN (by simpa using d)];have n:J1 lt a b _ (i+1) j:=⟨h1,I,by lia,by lia,e⟩
   split
   .exact wpS_pure (hd _ (.inr ⟨_,_,_,_,_,rfl,n,by lia⟩))
   .exact wpS_pure (hy _ ⟨_,_,_,_,_,rfl,n,by lia⟩)
theorem Kr(Z:Set3 M A E s kd D lt a b){st:SortSt}(k:kindOf st=kd){i g t:Nat}(q:1<=t)(h:J1 lt a b o i j){Q:H6->SortSt->Prop}
  (hq: ∀c,S6 lt a b (o.size+1) c->Q c st):wpS M A E s (Zd a b t g (none,i,j,o,0,0)) Q st:=by
 refine Ć (I:=λx c d=>d=st/\R6 lt a b (o.size+x) c) ?_ ?_ ⟨rfl,i,j,o,0,0,rfl,h,by lia⟩
 .rintro x c d _ _ ⟨rfl,p,u,o',v,r,rfl,h',n⟩;refine Kq Z k h' (λc e=>hq c (e.mono #[0])) (λc e=>⟨rfl,e.mono #[0]⟩)
 .rintro c d ⟨rfl,m⟩;exact hq c (.inr (m.mono #[0]))
theorem Cv(Z:Set3 M A E s kd D lt a b){st:SortSt}{i g p q:Nat}(h1:i+1<=a.size)(m:2<=j)(e:j<=b.size)(r:TwoH lt a b o (i+1) j)
  (hl: ∀x,a.toList[i]? =some x-> ∀y,y∈b.toList.take j->Le lt y x) {n:Nat} (hn:n<=o.size) {Q:ForInStep H7->SortSt->Prop}
  (hd: ∀c,S7 lt a b n c->Q (.done c) st) (hy: ∀c,R7 lt a b n c->Q (.yield c) st):wpS M A E s (F1 a b o (i+1) j g p q) Q st:=by
 obtain⟨x,ex⟩:=wN (v:=a) (i:=i) #[0];have h:=r.pushA ex (hl x ex);have hs:(o.push x).size=o.size+1:=Ĝ ..;unfold F1;refine wpS_bind (yE ex ?_);by_cases d:i=0
 .rw[iP (by simpa using d)];exact wpS_pure (hd _ (.inl ⟨_,_,rfl,h.dn (.inl d)⟩))
 .rw[iN (by simpa using d)];have k:J1 lt a b _ i j:=⟨by lia,by lia,m,e,h⟩
  split
  .exact wpS_pure (hd _ (.inr ⟨_,_,_,_,_,_,rfl,k,by lia⟩))
  .exact wpS_pure (hy _ ⟨_,_,_,_,_,_,rfl,k,by lia⟩)
theorem Cw(Z:Set3 M A E s kd D lt a b){st:SortSt}(W:kindOf st=kd){i g p q:Nat}(h1:i+1<=a.size)(h2:1<=j)(T:j+1<=b.size)(O:TwoH lt a b o (i+1) (j+1))
  (hl: ∀y,b.toList[j]? =some y-> ∀x,x∈a.toList.take (i+1)->Le lt x y) {n:Nat} (hn:n<=o.size) {Q:ForInStep H7->SortSt->Prop}
  (hd: ∀c,S7 lt a b n c->Q (.done c) st) (hy: ∀c,R7 lt a b n c->Q (.yield c) st):wpS M A E s (F3 a b o (i+1) (j+1) g p q) Q st:=by
 obtain⟨y,F⟩:=wN (v:=b) (i:=j) #[0];obtain⟨x,ex⟩:=wN (v:=a) (i:=i) #[0];have w:=O.pushB F (hl y F);have hs:(o.push y).size=o.size+1:=Ĝ ..;have P:=PF Z.C.rf O.sa ex;unfold F3;simp only[Nat.add_sub_cancel];refine wpS_bind (yE F ?_);by_cases H:j=1
 .rw[iP (by simpa using H)];subst H;exact wpS_pure (hd _ (.inl ⟨_,_,rfl,w.fb Z.fst⟩))
 .rw[iN (by simpa using H)];refine wpS_bind (yE ex (wpS_bind (LK Z.C W Z.db (Z.da x (è ex)) #[0] #[0] (VN w.sb Z.C.rf) λk k1 k2 Y=>?_)));dsimp only;have r: ∀h,h∈b.toList.take k->Le lt h x:=by intro h e;obtain⟨m,U,m2,X⟩:=iY e;exact Z.C.as _ _ (k2 m h U (by rw[ă];exact X))
  by_cases N:j - k>0
  .rw[iP N];have B:=w.cutB k1 λm z K J hz u d=>Z.C.tr u x z (P u d) (Y m z K J (by rw[ă];exact hz));have S:(o.push y++(b.extract k j).reverse).size>=o.size+1:=by rw[Array.size_append];lia
   by_cases I:k=1
   .rw[iP (by simpa using I)];subst I;exact wpS_pure (hd _ (.inl ⟨_,_,rfl,B.fb Z.fst⟩))
   .rw[iN (by simpa using I)];by_cases L:k=0
    .rw[iP (by simpa using L)];exact wpS_pure (hd _ (.inl ⟨_,_,rfl,B.dn (.inr L)⟩))
    .rw[iN (by simpa using L)];refine Cv Z h1 #[0] #[0] B (λu d h e=>?_) #[0] hd hy;rw[ex]at d;cases d;exact r h e
  .rw[iN N];have G:k=j:=by lia
   subst G;refine Cv Z h1 #[0] #[0] w (λu d h e=>?_) #[0] hd hy;rw[ex]at d;cases d;exact r h e
theorem Cy(Z:Set3 M A E s kd D lt a b){u st:SortSt}(T:Sg u st)(Y:kindOf u=kd){i g p q:Nat}(h:J1 lt a b o i j){n:Nat}(hn:n<=o.size)
  {Q:ForInStep H7->SortSt->Prop} (hd: ∀c st,Sg u st->S7 lt a b n c->Q (.done c) st) (hy: ∀c st,Sg u st->R7 lt a b n c->Q (.yield c) st):
  wpS M A E s (F4 a b o i j g p q) Q st:=by
 obtain⟨h1,h2,h3,h4,I⟩:=h;obtain⟨j,rfl⟩: ∃k,j=k+1:=⟨j - 1,by lia⟩
 obtain⟨y,H⟩:=wN (v:=b) (i:=j) #[0];have W:=PF Z.C.rf I.sb H;unfold F4;refine wpS_bind (DF T λaa e=>?_);have B:=e.kind.trans Y;refine wpS_bind (yE H (wpS_bind (LI Z.C B Z.da (Z.db y (è H)) #[0] #[0] (VN I.sa Z.C.rf) λk k1 k2 k3=>?_)));dsimp only;have G: ∀w,w∈a.toList.take k->Le lt w y:=by intro w r;obtain⟨m,X,m2,m3⟩:=iY r;exact k2 m w X (by rw[ă];exact m3)
 by_cases S:i - k>0
 .rw[iP S];have P:=I.cutA k1 λm z N O hz J d=>Z.C.tr J y z (W J d) (Z.C.as _ _ (k3 m z N O (by rw[ă];exact hz)));have U:(o++(a.extract k i).reverse).size>=o.size:=by rw[Array.size_append];lia
  by_cases L:k=0
  .rw[iP (by simpa using L)];exact wpS_pure (hd _ _ e (.inl ⟨_,_,rfl,P.dn (.inl L)⟩))
  .rw[iN (by simpa using L)];obtain⟨k,rfl⟩: ∃m,k=m+1:=⟨k - 1,by lia⟩
   refine Cw Z B #[0] #[0] #[0] P (λJ d w r=>?_) #[0] (λc F=>hd c _ e F) (λc F=>hy c _ e F);rw[H]at d;cases d;exact G w r
 .rw[iN S];have K:k=i:=by lia
  subst K;obtain⟨k,rfl⟩: ∃m,k=m+1:=⟨k - 1,by lia⟩
  refine Cw Z B #[0] #[0] #[0] I (λJ d w r=>?_) hn (λc F=>hd c _ e F) (λc F=>hy c _ e F);rw[H]at d;cases d;exact G w r
def Kt(Z:Set3 M A E s kd D lt a b){d st:SortSt}(v:Sg d st)(u:kindOf d=kd){i g p q t:Nat}(h:J1 lt a b o i j){n:Nat}(w:n<=o.size)
  {Q:H7->SortSt->Prop} (hq: ∀c st,Sg d st->S7 lt a b n c->Q c st):wpS M A E s (Ze a b t (none,i,j,o,g,p,q)) Q st:=by
 refine Ć (I:=λx c e=>Sg d e/\R7 lt a b n c) ?_ ?_ ⟨v,i,j,o,g,p,q,rfl,h,w⟩
 .rintro x c e _ _ ⟨k,z,F,o',B,G,C,rfl,h',r⟩;split
  .exact Cy Z k u h' r (λc st hs m=>hq c st hs m) (λc st hs m=>⟨hs,m⟩)
  .exact Cy Z k u h' r (λc st hs m=>hq c st hs m) (λc st hs m=>⟨hs,m⟩)
 .rintro c e ⟨k,y⟩;exact hq c e k (.inr y)
theorem Ui(Z:Set3 M A E s kd D lt a b){st:SortSt}(C:kindOf st=kd)(sa:a.toList.Pairwise (Le lt))(sb:b.toList.Pairwise (Le lt))(K:1<=a.size)(nb:1<=b.size)
  {Q:V->SortSt->Prop} (hq: ∀r h,Sg st h->FinA lt a b r->Q r h):wpS M A E s (EU a b) Q st:=by
 rw[PD];refine wpS_bind (fO ?_);obtain⟨x,ex⟩:=wN (v:=a) (i:=a.size - 1) #[0]
 have N:TwoH lt a b #[] (a.size - 1+1) b.size:=by
  rw[Nat.sub_add_cancel K];refine⟨?_,?_,?_⟩
  .rw[Ā (by simp)];simpa using sa
  .rw[Ā (by simp)];simpa using sb
  .rw[Ā (by simp),Ā (by simp)];simp
 have u:TwoH lt a b #[x] _ b.size:=N.pushA ex λy J=>Z.lst x y ex (mem_of_mem_take J);refine wpS_bind (yE ex ?_);by_cases w:a.size - 1=0
 .rw[iP (by simpa using w)];exact wpS_pure (hq _ _ (Sg.refl st) (u.dn (.inl w)))
 .rw[iN (by simpa using w)];by_cases z:b.size=1
  .rw[iP (by simpa using z)];rw[z]at u ⊢;exact wpS_pure (hq _ _ (Sg.refl st) (u.fb Z.fst))
  .rw[iN (by simpa using z)];refine wpS_bind (wpS_get ?_);refine wpS_bind (wpS_mono (Q:=λc h=>Sg st h/\ ∃r e,c=(some r,e)/\FinA lt a b r) ?_ ?_)
   .unfold Zf;refine Ć (I:=λx c h=>Sg st h/\ ∃i j o g,c=(none,i,j,o,g)/\J1 lt a b o i j/\x+1<=o.size) ?_ ?_ ⟨Sg.refl st,_,_,_,_,rfl,⟨by lia,by lia,by lia,by lia,u⟩,by simp⟩
    .rintro n c h _ _ ⟨k,i,j,o,g,rfl,p,F⟩;dsimp only;refine wpS_bind (Kr Z (k.kind.trans C) #[0] p λd hd=>?_);rcases hd with⟨r,e,rfl,m⟩|⟨i',j',o',p',q',rfl,hI',hn'⟩
     .exact wpS_pure ⟨k,r,_,rfl,m⟩
     .dsimp only;refine wpS_bind (fO ?_);refine wpS_bind (Kt Z k C hI' hn' λe H q L=>?_);rcases L with⟨r,e,rfl,m⟩|⟨i2,j2,o2,g2,p2,q2,rfl,hI2,hn2⟩
      .exact wpS_pure ⟨q,r,_,rfl,m⟩
      .dsimp only;refine wpS_bind (DF q λG B=>?_);exact wpS_pure ⟨B,i2,j2,o2,_,rfl,hI2,by lia⟩
    .rintro c h ⟨k,i,j,o,g,rfl,p,F⟩;have:=p.2.2.2.2.len p.2.1 p.2.2.2.1
     lia
   .rintro c h ⟨k,r,e,rfl,m⟩;exact wpS_pure (hq r h k m)
end
end Srt
namespace Srt
open PySem PyProof.Rows
variable{j m:Nat}{v:V}
abbrev C2:=Option (Option Nat)×Nat
abbrev C3:=Option (Option Nat)×Nat×Nat
def Uj(lo a n:Nat):SM C2:=forIn [a:n] ((none,a):C2) λ_ c=>ltAt' (lo+c.2) (lo+c.2 - 1) >>= λo=>match o with
 |some q=>if q=true then pure (.done (none,c.2))else pure (.yield (none,c.2+1))
 |_=>pure (.done (some none,c.2))
def tl3(lo m n:Nat):SM (Option Nat):=reverseSlice' lo (lo+m) >>= λ_=>Uj lo m n >>= λc=>match c.1 with
 |some r=>pure r
 |none=>pure (some c.2)
def Uk(lo a n:Nat):SM C3:=forIn [a:n] ((none,a,0):C3) λ_ c=>ltAt' (lo+c.2.1) (lo+c.2.1 - 1) >>= λo=>match o with
 |some q=>if q=true then
    if c.2.2>0 then reverseSlice' (lo+c.2.1 - (c.2.2+1)) (lo+c.2.1) >>= λ_=>pure (.yield (none,c.2.1+1,0))else pure (.yield (none,c.2.1+1,0))
   else ltAt' (lo+c.2.1 - 1) (lo+c.2.1) >>= λo=>match o with
    |some q=>if q=true then pure (.done (none,c.2.1,c.2.2))else pure (.yield (none,c.2.1+1,c.2.2+1))
    |_=>pure (.done (some none,c.2.1,c.2.2))
 |_=>pure (.done (some none,c.2.1,c.2.2))
def Ul(lo m n:Nat):SM (Option Nat):=liftM (rule "list.sort.descending-run") >>= λ_=>Uk lo (m+1) n >>= λc=>match c.1 with
 |some r=>pure r
 |none=>if c.2.2>0 then reverseSlice' (lo+c.2.1 - (c.2.2+1)) (lo+c.2.1) >>= λ_=>tl3 lo c.2.1 n else tl3 lo c.2.1 n
def Zg(lo n:Nat):SM (Option Nat):=Uj lo 1 n >>= λc=>match c.1 with
 |some r=>pure r
 |none=>if(c.2==n)=true then pure (some c.2)else if c.2>1 then ltAt' lo (lo+c.2 - 1) >>= λo=>(match o with
    |some q=>if q=true then pure (some c.2)else reverseSlice' lo (lo+c.2) >>= λ_=>Ul lo c.2 n
    |_=>pure none)
   else Ul lo c.2 n
theorem HI(lo n:Nat):countRun' lo n=Zg lo n:=by kernel_rfl
def binI(lo k:Nat):SM (Option Bool×Nat×Nat):=forIn [0:k] ((none,0,k):Option Bool×Nat×Nat) λ_ c=>
 if c.2.1>=c.2.2 then pure (.done (none,c.2.1,c.2.2))else ltAt' (lo+k) (lo+(c.2.1+c.2.2) / 2) >>= λo=>match o with
  |some q=>if q=true then pure (.yield (none,c.2.1,(c.2.1+c.2.2) / 2))else pure (.yield (none,(c.2.1+c.2.2) / 2+1,c.2.2))
  |_=>pure (.done (some false,c.2.1,c.2.2))
def Zh(lo n ok:Nat):SM Bool:=(forIn [max ok 1:n] ((none,()):Option Bool×Unit) λk _=>binI lo k >>= λc=>match c.1 with
  |some r=>pure (.done (some r,()))
  |none=>moveDown' (lo+k) (lo+c.2.1) >>= λ_=>pure (.yield (none,()))) >>= λc=>match c.1 with
 |some r=>pure r
 |none=>pure true
theorem CQ(lo n ok:Nat):binarySort' lo n ok=Zh lo n ok:=by kernel_rfl
noncomputable def Kx(d:Keyed)(v:V)(i:Nat):Keyed:=(v[i]?).getD d
def qP{d:Keyed}{u:V}{i:Nat}(h:v[i]? =u[j]?):Kx d v i=Kx d u j:=by unfold Kx;rw[h]
def AK{d:Keyed}{i:Nat}(a:j<=v.size)(k:Nat):Kx d (mirror v i j ((j - i) / 2)) k=if i<=k/\k<j then Kx d v (i+j - 1 - k)else Kx d v k:=by
 have e:=getElem?_mirror_all (i:=i) a k;by_cases h1:i<=k/\k<j
 .rw[iP h1]at e ⊢; exact qP e
 .rw[iN h1]at e ⊢; exact qP e
def IZ{d:Keyed}{a:Nat}(hs:a<v.size)(c:m<=a)(k:Nat):
  Kx d (bubble v a m) k=if k=a - m then Kx d v a else if a - m<k/\k<=a then Kx d v (k - 1)else Kx d v k:=by
 have e:=getElem?_bubble hs m c k;by_cases h1:k=a - m
 .rw[iP h1]at e ⊢; exact qP e
 .rw[iN h1]at e ⊢;by_cases b:a - m<k/\k<=a
  .rw[iP b]at e ⊢; exact qP e
  .rw[iN b]at e ⊢; exact qP e
structure SB(a₀:V)(kd:SortKind)(pd:Array (Nat×Nat×Nat))(f:V)(lo:Nat)(st:SortSt):Prop where
 pm:(arrOf st).Perm a₀
 kind:kindOf st=kd
 fl:failedOf st=none
 pd:pendingOf st=pd
 fx: ∀i,i<lo->(arrOf st)[i]? =f[i]?
section
variable{M:Model}{A:Ņ}{E:VP}{s:Ń}{kd:SortKind}{D:Keyed->Prop}{lt:Keyed->Keyed->Bool}{a₀ f:V}{pd:Array (Nat×Nat×Nat)}{lo:Nat}{st:SortSt}{d:Keyed}
def SB.size(h:SB a₀ kd pd f lo st):(arrOf st).size=a₀.size:=h.pm.size_eq
theorem SB.rev(h:SB a₀ kd pd f lo st){i:Nat}(hi:lo<=i)(a:j<=a₀.size):SB a₀ kd pd f lo (setArr st (mirror (arrOf st) i j ((j - i) / 2))):=
 ⟨(mirror_perm _ _ _ _).trans h.pm,h.kind,h.fl,h.pd,λk b=>by rw[getElem?_mirror_all (by rw[h.size];exact a),iN #[0]];exact h.fx k b⟩
theorem SB.bub(h:SB a₀ kd pd f lo st){i:Nat}(hi:lo+m<=i)(a:i<a₀.size):SB a₀ kd pd f lo (setArr st (bubble (arrOf st) i m)):=
 ⟨(bubble_perm _ _ _).trans h.pm,h.kind,h.fl,h.pd,λk b=>by rw[getElem?_bubble (by rw[h.size];exact a) _ #[0],iN #[0],iN #[0]];exact h.fx k b⟩
def uR(C:Cmp M A E s kd D lt)(h:SB a₀ kd pd f lo st)(b: ∀x,x∈a₀.toList->D x){i:Nat}(hi:i<a₀.size)(c:j<a₀.size){Q:Option Bool->SortSt->Prop}
  (hq:Q (some (lt (Kx d (arrOf st) i) (Kx d (arrOf st) j))) st):wpS M A E s (ltAt' i j) Q st:=by
 obtain⟨x,ex⟩:=wN (by rw[h.size];exact hi);obtain⟨y,a⟩:=wN (by rw[h.size];exact c);have n:=(Ĵ.mp h.pm).mem_iff.mp (è ex);have k:=(Ĵ.mp h.pm).mem_iff.mp (è a);have m:Kx d (arrOf st) i=x:=by unfold Kx;rw[<-ò,ex];rfl
 have e:Kx d (arrOf st) j=y:=by unfold Kx;rw[<-ò,a];rfl
 rw[m,e]at hq;refine wpS_bind (wpS_get ?_);exact wpS_bind (yE ex (wpS_bind (yE a (C.go x y (b x n) (b y k) st h.kind _ hq))))
def LO{i:Nat}{Q:Unit->SortSt->Prop}(h:Q () (setArr st (mirror (arrOf st) i j ((j - i) / 2)))):wpS M A E s (reverseSlice' i j) Q st:=by rw[reverseSlice'_eq];exact wpS_modify h
def Up(lt:Keyed->Keyed->Bool)(d:Keyed)(v:V)(lo n:Nat):Prop:= ∀i j,i<=j->j<n->Le lt (Kx d v (lo+i)) (Kx d v (lo+j))
def Dn(lt:Keyed->Keyed->Bool)(d:Keyed)(v:V)(lo n:Nat):Prop:= ∀i j,i<=j->j<n->Le lt (Kx d v (lo+j)) (Kx d v (lo+i))
theorem Up.step(C:Cmp M A E s kd D lt){x:Nat}(hs:Up lt d v lo x)(m:1<=x)(h:lt (Kx d v (lo+x)) (Kx d v (lo+x - 1))=false):Up lt d v lo (x+1):=by
 intro i j a k;by_cases e:j<x
 .exact hs i j a e
 .have c:j=x:=by lia
  subst c;by_cases b:i=j
  .subst b;exact C.rf _
  .have:=hs i (j - 1) #[0] #[0];rw[show lo+(j - 1)=lo+j - 1 by lia]at this;exact C.tr _ _ _ this h
theorem VR(C:Cmp M A E s kd D lt)(p: ∀x,x∈a₀.toList->D x)(h:SB a₀ kd pd f lo st){a n:Nat}(r:lo+n<=a₀.size)(q:1<=a)(i:a<=n)(hs:Up lt d (arrOf st) lo a){Q:C2->SortSt->Prop}
  (hq: ∀m,a<=m->m<=n->Up lt d (arrOf st) lo m->(m=n\/lt (Kx d (arrOf st) (lo+m)) (Kx d (arrOf st) (lo+m - 1))=true)->Q (none,m) st):wpS M A E s (Uj lo a n) Q st:=by
 refine Ć (I:=λx c e=>e=st/\c=(none,x)/\Up lt d _ lo x) ?_ ?_ ⟨rfl,rfl,hs⟩
 .rintro x c e j o ⟨rfl,rfl,b⟩;refine wpS_bind (uR (d:=d) C h p #[0] #[0] ?_)
  cases k:lt _ _ with
  |true=>exact wpS_pure (hq x j #[0] b (.inr k))
  |false=>exact wpS_pure ⟨rfl,rfl,b.step C #[0] k⟩
 .rintro c e ⟨rfl,rfl,b⟩;rw[show max a n=n by lia]at b ⊢;exact hq n i (à _) b (.inl rfl)
theorem Up.of_mirror(h:SB a₀ kd pd f lo st)(a:lo+m<=a₀.size)(hs:Dn lt d (arrOf st) lo m):Up lt d (mirror (arrOf st) lo (lo+m) ((lo+m - lo) / 2)) lo m:=by intro i j b c;rw[AK (by rw[h.size];exact a),AK (by rw[h.size];exact a),iP #[0],iP #[0]];have:=hs (m - 1 - j) (m - 1 - i) (by omega) (by omega);rw[show lo+(m - 1 - j)=lo+(lo+m) - 1 - (lo+j) by omega,show lo+_=lo+(lo+m) - 1 - (lo+i) by omega]at this;exact this
theorem Cz(C:Cmp M A E s kd D lt)(e: ∀x,x∈a₀.toList->D x)(h:SB a₀ kd pd f lo st){n:Nat}(b:lo+n<=a₀.size)(h1:1<=m)(i:m<=n)(hs:Dn lt d (arrOf st) lo m){Q:Option Nat->SortSt->Prop}
  (hq: ∀m a,SB a₀ kd pd f lo a->1<=m->m<=n->Up lt d (arrOf a) lo m->Q (some m) a):wpS M A E s (tl3 lo m n) Q st:=by
 refine wpS_bind (LO ?_);have h':=h.rev (j:=lo+m) (à _) #[0];exact wpS_bind (VR C e h' b h1 i (Up.of_mirror h #[0] hs) λk k1 k2 c _=>wpS_pure (hq k _ h' #[0] k2 c))
def Zi(lt:Keyed->Keyed->Bool)(d:Keyed)(v:V)(i j:Nat):Prop:= ∀k l,i<=k->k<j->i<=l->l<j->Le lt (Kx d v k) (Kx d v l)
def Dn.mirror(C:Cmp M A E s kd D lt)(h:SB a₀ kd pd f lo st){i n:Nat}(e:j<=a₀.size)(c:Zi lt d (arrOf st) i j)(hs:Dn lt d (arrOf st) lo n):Dn lt d (mirror (arrOf st) i j ((j - i) / 2)) lo n:=by
 have a: ∀k,Le lt (Kx d (PyProof.Rows.mirror (arrOf st) i j ((j - i) / 2)) k) (Kx d (arrOf st) k)/\Le lt (Kx d (arrOf st) k) (Kx d (PyProof.Rows.mirror (arrOf st) i j ((j - i) / 2)) k):=by
  intro k;rw[AK (by rw[h.size];exact e)];split
  .exact⟨c _ _ (by omega) (by omega) (by omega) (by omega),c _ _ (by omega) (by omega) (by omega) (by omega)⟩
  .exact⟨C.rf _,C.rf _⟩
 intro p q b m;exact C.tr _ _ _ (a _).1 (C.tr _ _ _ (hs p q b m) (a _).2)
theorem Ku(C:Cmp M A E s kd D lt)(H: ∀x,x∈a₀.toList->D x)(h:SB a₀ kd pd f lo st){a n:Nat}(W:lo+n<=a₀.size)(h1:1<=a)(B:a<=n)(hs:Dn lt d (arrOf st) lo a){Q:C3->SortSt->Prop}
  (hq: ∀m e b,SB a₀ kd pd f lo b->a<=m->m<=n->Dn lt d (arrOf b) lo m->e+1<=m->Zi lt d (arrOf b) (lo+m - (e+1)) (lo+m)->Q (none,m,e) b):wpS M A E s (Uk lo a n) Q st:=by
 unfold Uk
 refine Ć (I:=λx c b=> ∃e,c=(none,x,e)/\SB a₀ kd pd f lo b/\Dn lt d (arrOf b) lo x/\e+1<=x/\Zi lt d (arrOf b) (lo+x - (e+1)) (lo+x)) ?_ ?_
  ⟨0,rfl,h,hs,by lia,λk l h1 T P S=>by rw[show k=l by lia];exact C.rf _⟩
 .rintro x c b F U ⟨e,rfl,q,o,p,r⟩;dsimp only;have one: ∀v:V,Zi lt d v (lo+(x+1) - (0+1)) (lo+(x+1)):=λv k l h1 T P S=>by rw[show k=l by lia];exact C.rf _
  refine wpS_bind (uR (d:=d) C q H #[0] #[0] ?_)
  cases J:lt _ _ with
  |true=>
   have K:Dn lt d (arrOf b) lo (x+1):=by
    intro i j u N;by_cases z:j<x
    .exact o i j u z
    .have y:j=x:=by lia
     subst y;by_cases w:i=j
     .subst w;exact C.rf _
     .have:=o i (j - 1) #[0] #[0];rw[show lo+_=lo+j - 1 by lia]at this;exact C.tr _ _ _ (C.as _ _ J) this
   dsimp only;rw[iP rfl];by_cases L:e>0
   .rw[iP L];refine wpS_bind (LO (wpS_pure ⟨0,rfl,q.rev #[0] #[0],K.mirror C q #[0] r,by lia,one _⟩))
   .rw[iN L];exact wpS_pure ⟨0,rfl,q,K,by lia,one _⟩
  |false=>
   dsimp only;rw[iN (by simp)];refine wpS_bind (uR (d:=d) C q H #[0] #[0] ?_)
   cases G:lt _ _ with
   |true=>exact wpS_pure (hq x e b q F #[0] o p r)
   |false=>
    refine wpS_pure ⟨_,rfl,q,λi j u N=>?_,by lia,λk l k1 k2 X Y=>?_⟩
    .by_cases z:j<x
     .exact o i j u z
     .have y:j=x:=by lia
      subst y;by_cases w:i=j
      .subst w;exact C.rf _
      .have:=o i (j - 1) #[0] #[0];rw[show lo+_=lo+j - 1 by lia]at this;exact C.tr _ _ _ G this
    .by_cases O:k=lo+x
     .subst O;by_cases cl:l=lo+x
      .subst cl;exact C.rf _
      .exact C.tr _ _ _ G (r _ _ #[0] #[0] #[0] #[0])
     .by_cases cl:l=lo+x
      .subst cl;exact C.tr _ _ _ (r k _ #[0] #[0] #[0] #[0]) J
      .exact r _ _ #[0] #[0] #[0] #[0]
 .rintro c b ⟨e,rfl,q,o,p,r⟩;rw[show max a n=n by lia]at o p r ⊢;exact hq n e b q B (à _) o p r
theorem VT(C:Cmp M A E s kd D lt)(c: ∀x,x∈a₀.toList->D x)(h:SB a₀ kd pd f lo st){n:Nat}(b:lo+n<=a₀.size)(q:m+1<=n)(hs:Dn lt d (arrOf st) lo (m+1)){Q:Option Nat->SortSt->Prop}
  (hq: ∀m a,SB a₀ kd pd f lo a->1<=m->m<=n->Up lt d (arrOf a) lo m->Q (some m) a):wpS M A E s (Ul lo m n) Q st:=by
 refine wpS_bind (fO ?_);refine wpS_bind (Ku C c h b #[0] q hs λk e a i k1 k2 j r p=>?_);by_cases o:e>0
 .rw[iP o];exact wpS_bind (LO (Cz C c (i.rev #[0] #[0]) b #[0] k2 (j.mirror C i #[0] p) hq))
 .rw[iN o];exact Cz C c i b #[0] k2 j hq
theorem VU(C:Cmp M A E s kd D lt)(o: ∀x,x∈a₀.toList->D x)(h:SB a₀ kd pd f lo st){n:Nat}(p:lo+n<=a₀.size)(h1:1<=n){Q:Option Nat->SortSt->Prop}
  (hq: ∀m b,SB a₀ kd pd f lo b->1<=m->m<=n->Up lt d (arrOf b) lo m->Q (some m) b):wpS M A E s (countRun' lo n) Q st:=by
 rw[HI];unfold Zg;refine wpS_bind (VR (d:=d) C o h p (à 1) h1 (λi j c v=>by rw[show i=j by lia];exact C.rf _) λm B z hs r=>?_);dsimp only;by_cases u:m=n
 .rw[iP (by simpa using u)];exact wpS_pure (hq m st h B z hs)
 .rw[iN (by simpa using u)];have e:=r.resolve_left u;by_cases y:m>1
  .rw[iP y];refine wpS_bind (uR (d:=d) C h o #[0] #[0] ?_)
   cases G:lt _ _ with
   |true=>exact wpS_pure (hq m st h B z hs)
   |false=>
    have all:Zi lt d (arrOf st) lo (lo+m):=by intro k l k1 k2 I J;have F:=hs 0 (l - lo) #[0] #[0];have w:=hs (k - lo) (m - 1) #[0] #[0];rw[show lo+0=lo by lia,show lo+_=l by lia]at F;rw[show lo+_=k by lia,show lo+_=lo+m - 1 by lia]at w;exact C.tr _ _ _ w (C.tr _ _ _ G F)
    have dn:Dn lt d (arrOf st) lo (m+1):=by
     intro i j c v;by_cases H:j<m
     .exact all _ _ #[0] #[0] #[0] #[0]
     .have q:j=m:=by lia
      subst q;by_cases a:i=j
      .subst a;exact C.rf _
      .exact C.tr _ _ _ (C.as _ _ e) (all _ _ #[0] #[0] #[0] #[0])
    dsimp only;rw[iN (by simp)];exact wpS_bind (LO (VT C o (h.rev (à _) #[0]) p #[0] (dn.mirror C h #[0] all) hq))
  .rw[iN y];have:m=1:=by lia
   subst this;refine VT C o h p #[0] (λi j c v=>?_) hq;by_cases a:i=j
   .subst a;exact C.rf _
   .rw[show i=0 by lia,show j=1 by lia];exact C.as _ _ e
theorem VV(C:Cmp M A E s kd D lt)(H: ∀x,x∈a₀.toList->D x)(h:SB a₀ kd pd f lo st){n ok:Nat}(S:lo+n<=a₀.size)(L:ok<=n)(hs:Up lt d (arrOf st) lo ok){Q:Bool->SortSt->Prop}
  (hq: ∀a,SB a₀ kd pd f lo a->Up lt d (arrOf a) lo n->Q true a):wpS M A E s (binarySort' lo n ok) Q st:=by
 rw[CQ];unfold Zh
 refine wpS_bind (wpS_mono (Ć (I:=λk c a=>c=(none,())/\SB a₀ kd pd f lo a/\Up lt d (arrOf a) lo (min k n))
  (Q:=λc a=>c=(none,())/\SB a₀ kd pd f lo a/\Up lt d (arrOf a) lo n) ?_ ?_ ?_) ?_)
 .rintro k c a K P ⟨rfl,q,b⟩;rw[show min k n=k by lia]at b;unfold binI
  refine wpS_bind (wpS_mono (Ć (I:=λx c e=>e=a/\ ∃l r,c=(none,l,r)/\l<=r/\r<=k/\r - l<=k - x/\
    (∀i,i<l->Le lt (Kx d (arrOf a) (lo+i)) (Kx d (arrOf a) (lo+k)))/\(∀i,r<=i->i<k->Le lt (Kx d (arrOf a) (lo+k)) (Kx d (arrOf a) (lo+i))))
   (Q:=λc e=>e=a/\ ∃l r,c=(none,l,r)/\l<=k/\
    (∀i,i<l->Le lt (Kx d (arrOf a) (lo+i)) (Kx d (arrOf a) (lo+k)))/\(∀i,l<=i->i<k->Le lt (Kx d (arrOf a) (lo+k)) (Kx d (arrOf a) (lo+i)))) ?_ ?_ ?_) ?_)
  .rintro x c e _ G ⟨rfl,l,r,rfl,y,p,J,m,o⟩;dsimp only;by_cases v:l>=r
   .rw[iP v];have:l=r:=by lia
    subst this;exact wpS_pure ⟨rfl,l,l,rfl,p,m,o⟩
   .rw[iN v];refine wpS_bind (uR (d:=d) C q H #[0] #[0] ?_)
    cases z:lt _ _ with
    |true=>exact wpS_pure ⟨rfl,l,_,rfl,by lia,by lia,by lia,m,λi h1 B=>C.tr _ _ _ (C.as _ _ z) (b _ _ h1 B)⟩
    |false=>exact wpS_pure ⟨rfl,_,r,rfl,by lia,by lia,by lia,λi h1=>C.tr _ _ _ (b i _ #[0] #[0]) z,o⟩
  .rintro c e ⟨rfl,l,r,rfl,y,p,J,m,o⟩;have:l=r:=by lia
   subst this;exact⟨rfl,l,l,rfl,p,m,o⟩
  .exact⟨rfl,0,k,rfl,by lia,by lia,by lia,λi hi=>by lia,λi h1 B=>by lia⟩
  .rintro c e ⟨rfl,l,r,rfl,O,m,o⟩;dsimp only;rw[moveDown'_eq];have w:lo+k<(arrOf e).size:=by rw[q.size];lia
   refine wpS_bind (wpS_modify (wpS_pure ⟨rfl,?_,?_⟩))
   .exact q.bub #[0] #[0]
   .rw[show min (k+1) n=k+1 by lia];intro i j u F;show Le lt _ _;rw[IZ w #[0],IZ w #[0],show lo+k - _=lo+l by lia];have sh: ∀i,1<=i->lo+i - 1=lo+(i - 1):=λi hi=>by lia
    repeat' split
    all_goals first
     |(exfalso;lia)
     |exact C.rf _
     |exact m _ #[0]
     |(rw[sh _ #[0]];exact o _ #[0] #[0])
     |exact o _ #[0] #[0]
     |exact b _ _ #[0] #[0]
     |(rw[sh i #[0]];exact b _ _ #[0] #[0])
     |(rw[sh j #[0]];exact b _ _ #[0] #[0])
     |(rw[sh i #[0],sh j #[0]];exact b _ _ #[0] #[0])
     |(rw[sh i #[0]];exact m _ #[0])
 .rintro c a ⟨N,q,b⟩;refine⟨N,q,?_⟩;rwa [show min _ n=n by lia]at b
 .refine⟨rfl,h,λi j u F=>?_⟩;by_cases h1:ok=0
  .rw[show i=j by lia];exact C.rf _
  .exact hs i j u #[0]
 .rintro c a ⟨rfl,q,b⟩;exact wpS_pure (hq a q b)
end
end Srt
namespace Srt
open PySem PyProof.Rows
noncomputable abbrev putAll(w:V)(p:Nat)(v:V):V:=w.toList.zipIdx.foldl (λa (x,j)=>a.setIfInBounds (p+j) x) v
def Kv(p:Nat)(w:V):SM Bool:=(modify λs=>setArr s (putAll w p (arrOf s))) >>= λ_=>get >>= λs=>pure (failedOf s).isNone
def mAt(i:Nat):SM Bool:=get >>= λst=>match (pendingOf st)[i]?,(pendingOf st)[i+1]? with
 |some (sa,na,pw),some (sb,nb,_)=>set (setPending st (((pendingOf st).setIfInBounds i (sa,na+nb,pw)).eraseIdxIfInBounds (i+1))) >>= λ_=>
  elem' (arrOf st) sb >>= λy=>aO false y (arrOf st) sa na 0 >>= λr=>(match r with
   |some k=>if(na - k==0)=true then pure true else elem' (arrOf st) (sa+k+(na - k) - 1) >>= λx=>aO true x (arrOf st) sb nb (nb - 1) >>= λr=>(match r with
    |some m=>if(m==0)=true then pure true
      else if na - k<=m then ET ((arrOf st).extract (sa+k) sb) ((arrOf st).extract sb (sb+m)) >>= λw=>Kv (sa+k) w
      else EU ((arrOf st).extract (sa+k) sb) ((arrOf st).extract sb (sb+m)) >>= λw=>Kv (sa+k) w
    |_=>pure false)
   |_=>pure false)
 |_,_=>liftM (unsupported "internal:list.sort.pending")
theorem PH(i:Nat):mergeAt' i=mAt i:=by kernel_rfl
def er2{β:Type}(x y z:β):(#[x,y].setIfInBounds 0 z).eraseIdxIfInBounds (0+1)=#[z]:=by simp[Array.eraseIdxIfInBounds]
theorem BO(p:Nat): ∀(ws:List Keyed)(k:Nat)(v:V),p+k+ws.length<=v.size->
  ((ws.zipIdx k).foldl (λa (x,j)=>a.setIfInBounds (p+j) x) v).toList=v.toList.take (p+k)++ws++v.toList.drop (p+k+ws.length)
 |[],k,v,_=>by simp
 |x::t,k,v,h=>by
  rw[zipIdx_cons,Ŀ];have b:p+(k+1)+t.length<=(v.setIfInBounds (p+k) x).size:=by rw[Array.size_setIfInBounds];simp only[lC]at h;lia
  rw[BO p t _ _ b];simp only[lC]at h ⊢;have e:(v.setIfInBounds (p+k) x).toList=v.toList.set _ x:=Array.toList_setIfInBounds ..;rw[e]
  have c:(v.toList.set (p+k) x).take (p+(k+1))=v.toList.take (p+k)++[x]:=by
   rw[show p+_=p+k+1 by lia];have d:(v.toList.set (p+k) x)[p+k]? =some x:=by rw[ę];simp;lia
   rw[DG d,List.take_set_of_le (à _)]
  rw[c,List.drop_set_of_lt #[0]];rw[show p+_+t.length=p+k+(t.length+1) by lia];simp only[aA,Ğ,İ]
section
variable{M:Model}{A:Ņ}{E:VP}{s:Ń}{kd:SortKind}{D:Keyed->Prop}{lt:Keyed->Keyed->Bool}{a₀ f:V}{pd:Array (Nat×Nat×Nat)}{lo:Nat}{st:SortSt}{d:Keyed}
def Up.sl{v:V}{n:Nat}(h:Up lt d v lo n):SL lt v.toList lo n:=by
 intro i j x y h1 a k e;have c:Kx d v (lo+i)=x:=by unfold Kx;rw[<-ò,k];rfl
 have b:Kx d v (lo+j)=y:=by unfold Kx;rw[<-ò,e];rfl
 have:=h i j h1 a;rw[c,b]at this;exact this
theorem SL.pw{l:List Keyed}{n:Nat}(h:SL lt l lo n):((l.drop lo).take n).Pairwise (Le lt):=by rw[List.pairwise_iff_getElem];intro i j hi a b;rw[lT]at hi a;rw[getElem_take,getElem_take,getElem_drop,getElem_drop];exact h i j _ _ #[0] #[0] (gE _) (gE _)
def four{β:Type}{le:β->β->Prop}{A1 A2 B1 c W:List β}(i:(A1++A2).Pairwise le)(h:(B1++c).Pairwise le)(h1: ∀z,z∈A1-> ∀w,w∈B1++c->le z w)(e: ∀z,z∈A1++A2-> ∀w,w∈c->le z w)
  (hW:W.Pairwise le) (pW:W.Perm (A2++B1)):(A1++W++c).Pairwise le/\(A1++W++c).Perm (A1++(A2++(B1++c))):=by
 have a:=ê.mp i;have b:=ê.mp h;refine⟨ê.mpr ⟨ê.mpr ⟨a.1,hW,λz d w hw=>?_⟩,b.2.1,λz d w hw=>?_⟩,?_⟩
 .rcases é.mp (pW.mem_iff.mp hw)with q|q
  .exact a.2.2 z d w q
  .exact h1 z d w (Ă _ q)
 .rcases é.mp d with q|q
  .exact e z (Ă _ q) w hw
  .rcases é.mp (pW.mem_iff.mp q)with r|r
   .exact e z (ó _ r) w hw
   .exact b.2.2 z r w hw
 .rw[<-aA A2 B1 c, <-aA];exact(pW.append_left A1).append_right c
structure Out(a₀:V)(kd:SortKind)(lt:Keyed->Keyed->Bool)(n:Nat)(st:SortSt):Prop where
 pm:(arrOf st).toList.Perm a₀.toList
 kind:kindOf st=kd
 fl:failedOf st=none
 pd: ∃w,pendingOf st=#[(0,n,w)]
 so:(arrOf st).toList.Pairwise (Le lt)
def Kw{st:SortSt}{l:List Keyed}{p n:Nat}{w:V}(c:kindOf st=kd)(d:failedOf st=none)(h: ∃w,pendingOf st=#[(0,n,w)])
  (hl:p+w.size<=(arrOf st).size) (e:(arrOf st).toList.take p++w.toList++(arrOf st).toList.drop (p+w.size)=l) (h1:l.Pairwise (Le lt)) (h2:l.Perm a₀.toList)
  {Q:Bool->SortSt->Prop} (hq: ∀a,Out a₀ kd lt n a->Q true a):wpS M A E s (Kv p w) Q st:=by
 have b:=by have:=BO p w.toList 0 _ (by simpa using hl);exact this.trans (by simpa using e)
 refine wpS_bind (wpS_modify (wpS_bind (wpS_get ?_)));have O:Out a₀ kd lt n (setArr st (putAll w p _)):=⟨by show(putAll w p _).toList.Perm _;rw[b];exact h2,c,d,h,by show(putAll w p _).toList.Pairwise _;rw[b];exact h1⟩
 have:(failedOf (setArr st (putAll w p (arrOf st)))).isNone=true:=by rw[O.fl];rfl
 rw[this];exact wpS_pure (hq _ O)
theorem Um(C:Cmp M A E s kd D lt)(hD: ∀x,x∈a₀.toList->D x){c j pw:Nat}(h1:1<=c)(h2:1<=j)(hz:c+j=a₀.size)(h:SB a₀ kd #[(0,c,pw),(c,j,0)] f lo st)
  (hA:SL lt (arrOf st).toList 0 c) (hB:SL lt (arrOf st).toList c j) {Q:Bool->SortSt->Prop} (hq: ∀K,Out a₀ kd lt (c+j) K->Q true K):wpS M A E s (mergeAt' 0) Q st:=by
 rw[PH];unfold mAt;refine wpS_bind (wpS_get ?_);rw[h.pd];have e0:(#[(0,c,pw),(c,j,0)]:Array (Nat×Nat×Nat))[0]? =some (0,c,pw):=rfl;have e1:(#[(0,c,pw),(c,j,0)]:Array (Nat×Nat×Nat))[0+1]? =some (c,j,0):=rfl;rw[e0,e1];dsimp only;refine wpS_bind (Ko ?_);generalize u:setPending st _=st1;have k1:kindOf st1=kd:=by rw[<-u];exact h.kind
 have f1:failedOf st1=none:=by rw[<-u];exact h.fl
 have p1: ∃w,pendingOf st1=#[(0,c+j,w)]:=by rw[<-u];exact⟨pw,er2 _ _ _⟩
 have O:arrOf st1=arrOf st:=by rw[<-u]
 have sz:(arrOf st).size=c+j:=by rw[h.size,hz]
 have G:(arrOf st).toList.Perm a₀.toList:=Ĵ.mp h.pm;have n: ∀x,x∈(arrOf st).toList->D x:=λx hx=>hD x (G.mem_iff.mp hx);generalize hv:arrOf st=v at *;obtain⟨y,P⟩:=wN (v:=v) (i:=c) #[0];obtain⟨x,ex⟩:=wN (v:=v) (i:=c - 1) #[0];have hl:v.toList.length=c+j:=by simpa using sz
 have H:=hA.pw;have pB:=hB.pw;rw[drop_zero]at H;have tB:(v.toList.drop c).take j=v.toList.drop c:=Ā (by rw[õ];lia);rw[tB]at pB;have T:=heads C.rf pB P;have U: ∀z,z∈v.toList.take c->Le lt z x:=by have:=PF (i:=c - 1) C.rf (by rw[Nat.sub_add_cancel h1];exact H) ex;rwa [Nat.sub_add_cancel h1]at this
 refine wpS_bind (yE P (wpS_bind (LI C k1 n (n y (è P)) #[0] #[0] hA λk ka kb kc=>?_)));dsimp only;have g1: ∀z,z∈v.toList.take k-> ∀w,w∈v.toList.drop c->Le lt z w:=by intro z d w hw;obtain⟨i,i1,i2,i3⟩:=iY d;exact C.tr _ _ _ (kb i z i1 (by rw[ă];exact i3)) (T w hw)
 have q:v.toList.Pairwise (Le lt)->Out a₀ kd lt (c+j) st1:=λhp=>⟨by rw[O];exact G,k1,f1,p1,by rw[O];exact hp⟩
 by_cases c1:c - k=0
 .rw[iP (by simpa using c1)];refine wpS_pure (hq _ (q ?_));have hk:k=c:=by lia
  subst hk;rw[<-ē k v.toList];exact ê.mpr ⟨H,pB,g1⟩
 .rw[iN (by simpa using c1)];have X:v.toList[0+k+(c - k) - 1]? =some x:=by rw[show 0+k+(c - k) - 1=c - 1 by lia];exact ex
  refine wpS_bind (yE X (wpS_bind (LK C k1 n (n x (è ex)) #[0] #[0] hB λm ma mb mc=>?_)));dsimp only;have g2: ∀z,z∈v.toList.take c-> ∀w,w∈v.toList.drop (c+m)->Le lt z w:=by intro z d w hw;obtain⟨i,i1,i2⟩:=kD hw;exact C.tr _ _ _ (U z d) (mc (m+i) w #[0] #[0] (by rw[<-add_assoc];exact i2))
  by_cases Y:m=0
  .rw[iP (by simpa using Y)];refine wpS_pure (hq _ (q ?_));subst Y;rw[<-ē c v.toList];exact ê.mpr ⟨H,pB,g2⟩
  .rw[iN (by simpa using Y),ă];generalize ha:v.extract k c=a;generalize hb:v.extract c (c+m)=b;have la:a.toList=(v.toList.drop k).take (c - k):=by rw[<-ha,show c=k+(c - k) by lia,LL];congr 1;lia
   have N:b.toList=(v.toList.drop c).take m:=by rw[<-hb,LL]
   have za:a.size=c - k:=by rw[<-í,la,lT,õ];lia
   have zb:b.size=m:=by rw[<-í,N,lT,õ];lia
   have S:v.toList.take c=v.toList.take k++a.toList:=by rw[la, <-drop_take];exact EW _ _ _ #[0]
   have L:v.toList.drop c=b.toList++v.toList.drop (c+m):=by rw[N];exact EV _ _ _
   have mA: ∀z,z∈a.toList-> ∃i,k<=i/\i<c/\v.toList[i]? =some z:=by intro z d;rw[la, <-drop_take]at d;exact tN d
   have mB: ∀z,z∈b.toList-> ∃i,i<m/\v.toList[c+i]? =some z:=by intro z d;rw[N]at d;obtain⟨i,i1,_,i2⟩:=tM d;exact⟨i,i1,i2⟩
   have Z:Set3 M A E s kd D lt a b:={
    C:=C
    da:=λz d=>by obtain⟨i,_,_,e⟩:=mA z d;exact n z (è e)
    db:=λz d=>by obtain⟨i,_,e⟩:=mB z d;exact n z (è e)
    lst:=λI J p o=>by rw[la,ĩ #[0],getElem?_drop,show k+(a.size - 1)=c - 1 by lia,ex]at p;cases p;obtain⟨i,i1,e⟩:=mB J o;exact C.as _ _ (mb i J i1 e)
    fst:=λI J p o=>by rw[N,ĩ #[0],getElem?_drop,Nat.add_zero,P]at o;cases o;obtain⟨i,i1,i2,e⟩:=mA I p;exact C.as _ _ (kc i I i1 i2 (by rw[ă];exact e))}
   have sA:a.toList.Pairwise (Le lt):=by rw[S]at H;exact(ê.mp H).2.1
   have sB:b.toList.Pairwise (Le lt):=by rw[L]at pB;exact(ê.mp pB).1
   have fin: ∀r B,Sg st1 B->FinA lt a b r->wpS M A E s (Kv k r) Q B:=by
    rintro r B ⟨g,rfl⟩ ⟨fa,fb⟩
    have zr:r.size=c - k+m:=by
     have:=fb.length_eq;simp only[lA,í]at this
     lia
    have F:=four (W:=r.toList) (A1:=v.toList.take k) (A2:=a.toList) (B1:=b.toList) (by rw[<-S];exact H) (by rw[<-L];exact pB)
     (λz d w hw=>g1 z d w (by rw[L];exact hw)) (λz d w hw=>g2 z (by rw[S];exact d) w hw) fa fb
    have F2:=F.2;rw[<-L, <-aA, <-S,ē]at F2;refine Kw (st:=SortSt.mk' (kindOf st1) (arrOf st1) (pendingOf st1) g (failedOf st1)) k1 f1 p1 ?_ ?_ F.1 (F2.trans G) hq
    .show k+r.size<=(arrOf st1).size;rw[O];lia
    .show(arrOf st1).toList.take k++r.toList++(arrOf st1).toList.drop (k+r.size)=_;rw[O,zr,show k+(c - k+m)=c+m by lia]
   split
   .exact wpS_bind (Ue Z.toSet2 k1 sA sB #[0] #[0] (λI J p o=>Z.fst I J (è p) o) fin)
   .exact wpS_bind (Ui Z k1 sA sB #[0] #[0] fin)
end
end Srt
namespace Srt
open PySem PyProof.Rows
abbrev U2:=Option Unit×Nat
abbrev U1:=Option Unit×Unit
def psh(lo n:Nat):SM (ForInStep U2):=(modify λs=>setPending s ((pendingOf s).push (lo,n,0))) >>= λ_=>pure (.yield (none,lo+n))
def Wr(N lo n:Nat):SM (ForInStep U2):=get >>= λst=>match (pendingOf st).back? with
 |some (a,b,_)=>(forIn [0:N] ((none,()):U1) λ_ _=>get >>= λst=>(match (if(pendingOf st).size>1 then(pendingOf st)[(pendingOf st).size - 2]? else none)with
   |some (_,_,z)=>if z<=power' N (2 * a+b) (2 * a+b+b+n) N then pure (.done (none,()))else mergeAt' ((pendingOf st).size - 2) >>= λq=>if(!q)=true then pure (.done (some (),()))else pure (.yield (none,()))
   |_=>pure (.done (none,())))) >>= λc=>(match c.1 with
  |some r=>pure (.done (some r,lo))
  |none=>(modify λs=>setPending s ((pendingOf s).modify ((pendingOf s).size - 1) λ(u,v,_)=>(u,v,power' N (2 * a+b) (2 * a+b+b+n) N))) >>= λ_=>psh lo n)
 |_=>psh lo n
def runs(N r:Nat):SM U2:=forIn [0:N] ((none,0):U2) λ_ c=>if c.2>=N then pure (.done (none,c.2))else countRun' c.2 (N - c.2) >>= λo=>match o with
 |some m=>if m<r then liftM (rule "list.sort.binary-insertion") >>= λ_=>binarySort' c.2 (min (N - c.2) r) m >>= λq=>if(!q)=true then pure (.done (some (),c.2))else Wr N c.2 (min (N - c.2) r)
   else Wr N c.2 m
 |_=>pure (.done (some (),c.2))
def Zj(N:Nat):SM U1:=forIn [0:N] ((none,()):U1) λ_ _=>get >>= λst=>if(pendingOf st).size<=1 then pure (.done (none,()))else
 mergeAt' (if Option.any (λx=>decide (x<((pendingOf st)[(pendingOf st).size - 2+1]?).elim 0 λx=>x.2.1)) (if(pendingOf st).size - 2>0 then Option.map (λx=>x.2.1) (pendingOf st)[(pendingOf st).size - 2 - 1]? else none)=true
  then(pendingOf st).size - 2 - 1 else(pendingOf st).size - 2) >>= λq=>if(!q)=true then pure (.done (some (),()))else pure (.yield (none,()))
def sRun:SM Unit:=get >>= λst=>runs (arrOf st).size (minRun' (arrOf st).size (arrOf st).size 0) >>= λc=>match c.1 with
 |some r=>pure r
 |none=>Zj (arrOf st).size >>= λc=>match c.1 with
  |some r=>pure r
  |none=>pure ()
theorem HK:sortRuns'=sRun:=by kernel_rfl
theorem YY{N:Nat}(a:2<=N)(h:N<128):1<=minRun' N N 0/\minRun' N N 0<=N/\N<=2 * minRun' N N 0:=by
 obtain⟨g,rfl⟩: ∃g,N=g+2:=⟨N - 2,by lia⟩
 have e:minRun' (g+2) (g+2) 0=if g+2<64 then g+2+0 else if(g+2) / 2<64 then(g+2) / 2+max 0 ((g+2) % 2)else minRun' g ((g+2) / 2 / 2) (max (max 0 ((g+2) % 2)) ((g+2) / 2 % 2)):=by rw[minRun'_succ,minRun'_succ]
 rw[e];split
 .lia
 .rw[iP #[0]];lia
section
variable{M:Model}{A:Ņ}{E:VP}{s:Ń}{kd:SortKind}{D:Keyed->Prop}{lt:Keyed->Keyed->Bool}{a₀ f:V}{pd:Array (Nat×Nat×Nat)}{lo:Nat}{st:SortSt}{d:Keyed}
def Ws(a₀:V)(kd:SortKind)(lt:Keyed->Keyed->Bool)(st:SortSt):Prop:=
 (SB a₀ kd #[(0,a₀.size,0)] a₀ 0 st/\SL lt (arrOf st).toList 0 a₀.size)\/ ∃a b pw,a+b=a₀.size/\1<=a/\1<=b/\SB a₀ kd #[(0,a,pw),(a,b,0)] a₀ 0 st/\SL lt (arrOf st).toList 0 a/\SL lt (arrOf st).toList a b
theorem SB.free{a:Array (Nat×Nat×Nat)}(h:SB a₀ kd pd f lo st)(g:V):SB a₀ kd a g 0 (setPending st a):=⟨h.pm,h.kind,h.fl,rfl,λ_ hi=>by lia⟩
def Da{lo n:Nat}{Q:ForInStep U2->SortSt->Prop}(h:Q (.yield (none,lo+n)) (setPending st ((pendingOf st).push (lo,n,0)))):wpS M A E s (psh lo n) Q st:=
 wpS_bind (wpS_modify (wpS_pure h))
theorem Ky(C:Cmp M A E s kd D lt)(J: ∀x,x∈a₀.toList->D x)(d:Keyed)(U:2<=a₀.size){r:Nat}(Z:1<=r)(r2:r<=a₀.size)(r3:a₀.size<=2 * r)(h:SB a₀ kd #[] a₀ 0 st){Q:U2->SortSt->Prop}
  (hq: ∀a,Ws a₀ kd lt a->Q (none,a₀.size) a):wpS M A E s (runs a₀.size r) Q st:=by
 unfold runs;refine Ć (I:=λx c a=>(x=0/\c=(none,0)/\SB a₀ kd #[] a₀ 0 a)\/(x=1/\ ∃n,c=(none,n)/\r<=n/\n<a₀.size/\SB a₀ kd #[(0,n,0)] a₀ 0 a/\SL lt (arrOf a).toList 0 n)\/(1<=x/\c=(none,a₀.size)/\Ws a₀ kd lt a)) ?_ ?_ (.inl ⟨rfl,rfl,h⟩)
 .rintro x c a _ B (⟨rfl,rfl,F⟩|⟨rfl,n,rfl,Y,n2,F,hs⟩|⟨W,rfl,S⟩)
  .dsimp only;rw[iN #[0]]
   have G: ∀m k,SB a₀ kd #[] a₀ 0 k->r<=m->m<=a₀.size->Up lt d (arrOf k) 0 m-> ∀R:ForInStep U2->SortSt->Prop,(∀K a,((0+1=0/\K=(none,0)/\SB a₀ kd #[] a₀ 0 a)\/(0+1=1/\ ∃n,K=(none,n)/\r<=n/\n<a₀.size/\SB a₀ kd #[(0,n,0)] a₀ 0 a/\SL lt (arrOf a).toList 0 n)\/(1<=0+1/\K=(none,a₀.size)/\Ws a₀ kd lt a))->R (.yield K) a)->wpS M A E s (Wr a₀.size 0 m) R k:=by
    intro m k b w H p R L;unfold Wr;refine wpS_bind (wpS_get ?_);have P:(pendingOf k).back? =none:=by rw[b.pd];rfl
    rw[P];dsimp only;refine Da ?_;have e:(pendingOf k).push (0,m,0)=#[(0,m,0)]:=by rw[b.pd];rfl
    rw[e,ă];by_cases v:m=a₀.size
    .subst v;exact L _ _ (.inr (.inr ⟨by lia,rfl,.inl ⟨b.free a₀,p.sl⟩⟩))
    .exact L _ _ (.inr (.inl ⟨rfl,m,rfl,w,by lia,b.free a₀,p.sl⟩))
   refine wpS_bind (VU (d:=d) C J F #[0] #[0] λm k b w H p=>?_);dsimp only;by_cases v:m<r
   .rw[iP v];refine wpS_bind (fO ?_);refine wpS_bind (VV C J b #[0] #[0] p λo z u=>?_);rw[iN (by simp)];exact G _ o z #[0] #[0] u _ λ_ _ q=>q
   .rw[iN v];exact G m k b #[0] #[0] p _ λ_ _ q=>q
  .dsimp only;rw[iN #[0]];have N:SB a₀ kd #[(0,n,0)] (arrOf a) n a:=⟨F.pm,F.kind,F.fl,F.pd,λ_ _=>rfl⟩
   have G: ∀k,SB a₀ kd #[(0,n,0)] (arrOf a) n k->Up lt d (arrOf k) n (a₀.size - n)-> ∀R:ForInStep U2->SortSt->Prop,(∀a,Ws a₀ kd lt a->R (.yield (none,a₀.size)) a)->wpS M A E s (Wr a₀.size n (a₀.size - n)) R k:=by
    intro k b p R L;have O:SL lt (arrOf k).toList 0 n:=by intro i j x y h1 U B T;rw[ă]at B T;rw[ò,b.fx i #[0], <-ò]at B;rw[ò,b.fx j #[0], <-ò]at T;exact hs i j x y h1 U (by rw[ă];exact B) (by rw[ă];exact T)
    unfold Wr;refine wpS_bind (wpS_get ?_);have P:(pendingOf k).back? =some (0,n,0):=by rw[b.pd];rfl
    rw[P];dsimp only;refine wpS_bind (wpS_mono (Ć (I:=λ_ c o=>c=(none,())/\o=k) ?_ (λ_ _ X=>X) ⟨rfl,rfl⟩) ?_)
    .rintro x c o _ _ ⟨rfl,rfl⟩;refine wpS_bind (wpS_get ?_);rw[iN (by rw[b.pd];simp)];exact wpS_pure ⟨rfl,rfl⟩
    .rintro c o ⟨rfl,rfl⟩;dsimp only;refine wpS_bind (wpS_modify ?_);refine Da ?_;rw[show n+(a₀.size - n)=a₀.size by lia];refine L _ (.inr ⟨n,a₀.size - n,power' a₀.size (2 * 0+n) (2 * 0+n+n+(a₀.size - n)) a₀.size,by lia,by lia,by lia,?_,O,p.sl⟩);refine⟨b.pm,b.kind,b.fl,?_,λ_ hi=>by lia⟩;show((pendingOf o).modify _ _).push _=_;rw[b.pd];rfl
   refine wpS_bind (VU (d:=d) C J N #[0] #[0] λm k b w H p=>?_);dsimp only;by_cases v:m<r
   .rw[iP v];refine wpS_bind (fO ?_);rw[show min (a₀.size - n) r=a₀.size - n by lia];refine wpS_bind (VV C J b #[0] #[0] p λo z u=>?_);rw[iN (by simp)];exact G o z u _ λ_ q=>.inr (.inr ⟨by lia,rfl,q⟩)
   .rw[iN v];have:m=a₀.size - n:=by lia
    subst this;exact G k b p _ λ_ q=>.inr (.inr ⟨by lia,rfl,q⟩)
  .dsimp only;rw[iP (à _)];exact wpS_pure (hq a S)
 .rintro c a (⟨B,_⟩|⟨B,_⟩|⟨_,rfl,S⟩)
  .lia
  .lia
  .exact hq a S
def F7(a₀:V)(lt:Keyed->Keyed->Bool)(st:SortSt):Prop:=(arrOf st).toList.Perm a₀.toList/\failedOf st=none/\(arrOf st).toList.Pairwise (Le lt)
theorem Kz(C:Cmp M A E s kd D lt)(k: ∀x,x∈a₀.toList->D x)(m:2<=a₀.size)(h:Ws a₀ kd lt st){Q:U1->SortSt->Prop}(b: ∀a,F7 a₀ lt a->Q (none,()) a):wpS M A E s (Zj a₀.size) Q st:=by
 refine Ć (I:=λx c a=>c=_/\((x=0/\Ws a₀ kd lt a)\/(1<=x/\F7 a₀ lt a/\(pendingOf a).size<=1))) ?_ ?_ ⟨rfl,.inl ⟨rfl,h⟩⟩
 .rintro x c a _ _ ⟨rfl,⟨rfl,i⟩|⟨_,hd,j⟩⟩
  .refine wpS_bind (wpS_get ?_);rcases i with⟨hB,hs⟩|⟨n1,n2,pw,hz,g1,g2,hB,sa,sb⟩
   .rw[iP (by rw[hB.pd];simp)];refine wpS_pure (b a ⟨Ĵ.mp hB.pm,hB.fl,?_⟩);have:=hs.pw;rwa [drop_zero,Ā (by rw[í,hB.size];lia)]at this
   .rw[iN (by rw[hB.pd];simp)]
    have e:(if Option.any (λx=>decide (x<((pendingOf a)[(pendingOf a).size - 2+1]?).elim 0 λx=>x.2.1)) (if(pendingOf a).size - 2>0 then Option.map (λx=>x.2.1) (pendingOf a)[(pendingOf a).size - 2 - 1]? else none)=true
      then(pendingOf a).size - 2 - 1 else(pendingOf a).size - 2)=0:=by rw[hB.pd];rfl
    rw[e];refine wpS_bind (Um C k g1 g2 hz hB sa sb λd O=>?_);refine wpS_pure ⟨rfl,.inr ⟨by lia,⟨O.pm,O.fl,O.so⟩,?_⟩⟩;obtain⟨w,hw⟩:=O.pd;rw[hw];simp
  .refine wpS_bind (wpS_get ?_);rw[iP j];exact wpS_pure (b a hd)
 .rintro c a ⟨rfl,⟨n,_⟩|⟨_,hd,_⟩⟩
  .lia
  .exact b a hd
theorem PJ(C:Cmp M A E s kd D lt)(h: ∀x,x∈(arrOf st).toList->D x)(d:Keyed)(e:2<=(arrOf st).size)(a:(arrOf st).size<128)(i:kindOf st=kd)(k:pendingOf st=#[])(o:failedOf st=none)
  {Q:Unit->SortSt->Prop} (hq: ∀b,F7 (arrOf st) lt b->Q () b):wpS M A E s sortRuns' Q st:=by
 rw[HK];refine wpS_bind (wpS_get ?_);obtain⟨p,n,j⟩:=YY e a;refine wpS_bind (Ky C h d e p n j ⟨Array.Perm.refl _,i,o,k,λ_ hi=>by lia⟩ λm q=>?_);refine wpS_bind (Kz C h e q λc hd=>?_);exact wpS_pure (hq c hd)
end
end Srt
namespace Srt
open PySem PyProof.Rows
abbrev Rn:=Nat×Nat×Nat
def RunsOk(lt:Keyed->Keyed->Bool)(l:List Keyed):Nat->List Rn->Nat->Prop
 |p,[],q=>p=q
 |p,r::rs,q=>r.1=p/\1<=r.2.1/\SL lt l p r.2.1/\RunsOk lt l (p+r.2.1) rs q
section
variable{lt:Keyed->Keyed->Bool}{l:List Keyed}
theorem RunsOk.le: ∀{rs:List Rn}{p q:Nat},RunsOk lt l p rs q->p+rs.length<=q
 |[],p,q,h=>by cases h;exact à _
 |r::rs,p,q,h=>by
  have:=RunsOk.le h.2.2.2;have:=h.2.1;rw[lC]
  lia
end
section
variable{kd:SortKind}{lt:Keyed->Keyed->Bool}{a₀:V}{st:SortSt}
structure ST(a₀:V)(kd:SortKind)(lt:Keyed->Keyed->Bool)(rs:List Rn)(q:Nat)(st:SortSt):Prop where
 pm:(arrOf st).toList.Perm a₀.toList
 kind:kindOf st=kd
 fl:failedOf st=none
 pd:pendingOf st=rs.toArray
 ok:RunsOk lt (arrOf st).toList 0 rs q
 le:q<=a₀.size
def ST.size{rs:List Rn}{q:Nat}(h:ST a₀ kd lt rs q st):(arrOf st).size=a₀.size:=by have:=h.pm.length_eq;simpa using this
end
end Srt
namespace Srt
open PySem PyProof.Rows
noncomputable def kStep(a f:Addr)(its:B0)(ks x:ń):Sem (ForInStep PUnit):=(call (.ref f) [x]).attempt >>= λr=>match r with
 |.ok k=>Builtin.List.listUpdate ks (λv=>v.push k) >>= λ_=>pure (.yield ⟨⟩)
 |.error e=>do
  rule "list.sort.key-raised"
  let m <-Builtin.List.listItems ks
  Builtin.List.listUpdate ks λ_=>#[]
  letGo m.toList.reverse [e]
  Builtin.List.listUpdate (.ref a) λ_=>its
  let _:PUnit <-throw e
  pure (.yield ⟨⟩)
section
variable{prog:ņ}{w:World}{A:Ņ}{E:VP}{s:Ń}
structure Kd(prog:ņ)(w:World)(A:Ņ)(E:VP)(a KS:Addr)(e1:Nat)(vs:A0)(P:PySem.Fin->Ń->Prop)(s2:Ń):Prop where
 go: ∃(keys:A0)(n:Nat)(kd:SortKind)(D:Keyed->Prop)(lt:Keyed->Keyed->Bool),s2.heap.get? a=some (seqObj "list" #[] e1)/\s2.heap.get? KS=some (seqObj "list" keys.toArray n)/\keys.length=vs.length/\
  (2<=vs.length->wpAny (model prog w) A (keyKind' keys.toArray) (λk s'=>s'=s2/\k=kd) E s2/\Cmp (model prog w) A E s2 kd D lt/\ ∀p,p∈keys.zip vs->D p)/\
  ∀out:List Keyed,out.Perm (keys.zip vs)->out.Pairwise (Le lt)->P (.done (.ret .none)) {s2 with heap:=(s2.heap.update KS (Obj.mapSeq λ_=>#[])).update a (Obj.mapSeq λ_=>(out.map (·.2)).toArray)}
theorem sort_keyed{a f:Addr}{vs:A0}{n0:Nat}{P:PySem.Fin->Ń->Prop}(o:s.heap.get? a=some (seqObj "list" vs.toArray n0))(T:vs.length<128)
  (hk: ∀v,(s.heap.update a (Obj.mapSeq λ_=>#[])).get? a=some (seqObj "list" #[] v)->wpAny (model prog w) A (forIn vs PUnit.unit λx _=>kStep a f vs.toArray (.ref (↑0+1)) x)
   (λ_ B=>a≠↑0+1->Kd prog w A E a (↑0+1) v vs P B) E {s with heap:=((s.heap.update a (Obj.mapSeq λ_=>#[])).push (seqObj "tuple" vs.toArray 0)).push (seqObj "list" #[] 0)}):
  wpAny (model prog w) A (Builtin.«list.sort» ⟨[.ref a],[("key",.ref f)]⟩) P E s:=by
 unfold Builtin.«list.sort»;dsimp only;rw[iN (by simp),iN (by simp)];have v:List.lookup (Str.ofString "key") [(Str.ofString "key",Value.ref f)]=some (.ref f):=by simp[List.lookup]
 have e2:List.lookup (Str.ofString "reverse") [(Str.ofString "key",Value.ref f)]=none:=by
  have:(Str.ofString "reverse"==Str.ofString "key")=false:=by decide+kernel
  simp[List.lookup,this]
 rw[forIn_cons,v,e2];refine wB (wB ?_);dsimp only;rw[iN (by simp)];refine wP ?_;dsimp only;rw[forIn_nil];refine wP ?_;refine wB (wP ?_);have J:a<s.heap.objs.size:=â o;refine wB (listItems_at o rfl ?_);refine wB (listUpdate_at o rfl ?_);obtain⟨q,K⟩: ∃q,(s.heap.update a (Obj.mapSeq λ_=>#[])).get? a=some (seqObj "list" #[] q):=⟨_,get?_update_seq o (λ_=>#[])⟩
 dsimp only;refine wB (seqEpoch_at K rfl ?_);refine wB (wpAny_newTuple ?_);refine wB (wpAny_newList ?_);refine ú ?_;rw[iP (by rfl)];refine wB (Ę ?_);have G:((s.heap.update a (Obj.mapSeq λ_=>#[])).push (seqObj "tuple" vs.toArray 0)).objs.size=↑0+1:=by rw[size_push',Heap.size_update]
 dsimp only;rw[G,forIn_toArray];refine wB (û (hk q K) (λu B Y=>?_) λ_ _ e=>e);obtain⟨b,n,kd,D,lt,U,g2,z,g4,W⟩:=(Y (ë (Nat.lt_succ_of_lt J))).go;have H:a≠↑0+1:=ë (Nat.lt_succ_of_lt J);rw[iP (by rfl)];refine wB (listItems_at g2 rfl ?_);rw[iN (by simp)]
 have fin: ∀st:SortSt,failedOf st=none->(arrOf st).toList.Perm (b.zip vs)->(arrOf st).toList.Pairwise (Le lt)->
   wpAny (model prog w) A (do
    Builtin.List.listUpdate (.ref (↑0+1)) λ_=>#[]
    letGo ((arrOf st).map (·.1)).toList (failedOf st).toList
    let e <-seqEpoch a
    Builtin.List.listUpdate (.ref a) λ_=>(arrOf st).map (·.2)
    if(e !=q)=true then rule "list.sort.modified" >>= λ_=>raiseErrorWords "ValueError" "list modified during sort" >>= λ(_:Unit)=>ret .none else ret .none) P E B:=by
  intro st hf j hs;refine wB (listUpdate_at g2 rfl ?_ (by rw[sA0,z];have:=ė;lia));refine wB (wpAny_letGo ?_);have i:(B.heap.update (↑0+1) (Obj.mapSeq λ_=>#[])).get? a=some (seqObj "list" #[] q):=by rw[ý _ _ (Ne.symm H)];exact U
  refine wB (seqEpoch_at i rfl ?_);have m:((arrOf st).map (·.2)).size<=sizeLine+1:=by rw[Array.size_map, <-í,j.length_eq,ĸ,z];have:=ė;lia
  refine wB (listUpdate_at i rfl ?_ (hsz2:=m));rw[iN (by simp)];have O:(arrOf st).map (·.2)=((arrOf st).toList.map (·.2)).toArray:=by rw[<-Array.toList_map]
  rw[O];exact wP (W _ j hs)
 by_cases c:vs.toArray.size<2
 .rw[iP c,iP c];refine wB (wP ?_);rw[StateT.run_pure];refine wB (wP ?_);rw[iP (by rfl)];have Z:(b.zip vs).length<=1:=by rw[ĸ,z];simp at c;lia
  refine fin _ rfl ?_ ?_
  .show(b.toArray.zip vs.toArray).toList.Perm _;simp
  .show(b.toArray.zip vs.toArray).toList.Pairwise _;have:(b.toArray.zip vs.toArray).toList=b.zip vs:=by simp
   rw[this]
   match b.zip vs,Z with
   |[],_=>exact .nil
   |[x],_=>exact List.pairwise_singleton _ _
   |x::y::r,h=>simp at h
 .rw[iN c,iN c];obtain⟨k1,k2,X⟩:=g4 (by simp at c;lia);refine wB (û k1 (λk s' C=>?_) λ_ _ e=>e);obtain⟨rfl,rfl⟩:=C;have I:(arrOf (SortSt.mk' k (b.toArray.zip vs.toArray) #[] 7 none)).toList=b.zip vs:=by show(b.toArray.zip vs.toArray).toList=_;simp
  have M:(arrOf (SortSt.mk' k (b.toArray.zip vs.toArray) #[] 7 none)).size=vs.length:=by rw[<-í,I,ĸ,z,Nat.min_self]
  refine wB (û (PJ (st:=SortSt.mk' k (b.toArray.zip vs.toArray) #[] 7 none) k2 (λp j=>X p (by rw[I]at j;exact j)) (.none,.none) (by rw[M];simp at c;lia) (by rw[M];exact T) rfl rfl rfl
   (Q:=λ_ d=>F7 _ lt d) λd h=>h) (λr s3 S=>?_) λ_ _ e=>e)
  obtain⟨⟨⟩,d⟩:=r;obtain⟨rfl,d1,N,d3⟩:=S;dsimp only;rw[iP (by rfl)];have F:=fin d N (by rw[<-I];exact d1) d3;have L:failedOf d=none:=N;unfold failedOf at L;simp only[failedOf]at F;rw[L]at F ⊢;exact F
end
end Srt
namespace Srt
open PySem PyProof.Rows
section
variable{A:Ņ}{E:VP}{s:Ń}
def La{α β:Type}{f:α->Sem β}{g:α->β}{M:Model}(l:List α)(h: ∀x,x∈l->wpAny M A (f x) (λr s'=>s'=s/\r=g x) E s):wpAny M A (l.mapM f) (λr s'=>s'=s/\r=l.map g) E s:=by
 induction l with
 |nil=>rw[List.mapM_nil];exact wP ⟨rfl,rfl⟩
 |cons x l ih=>
  rw[List.mapM_cons];refine wB (û (h x mF0) (λr s' a=>?_) λ_ _ e=>e);rw[a.1,a.2];refine wB (û (ih λy b=>h y (mO _ b)) (λr s' a=>?_) λ_ _ e=>e);rw[a.1,a.2];exact wP ⟨rfl,rfl⟩
def wp_mapMA{α β:Type}{f:α->Sem β}{g:α->β}{M:Model}{l:List α}(h: ∀x,x∈l->wpAny M A (f x) (λr s'=>s'=s/\r=g x) E s):wpAny M A (l.toArray.mapM f) (λr s'=>s'=s/\r=(l.map g).toArray) E s:=by rw[List.mapM_toArray];refine wB (û (La l h) (λr s' a=>?_) λ_ _ e=>e);obtain⟨rfl,rfl⟩:=a;exact wP ⟨rfl,rfl⟩
def TupAt(h:Heap)(a:Addr)(its:A0):Prop:= ∃o n,h.get? a=some o/\o.cls=.type "tuple"/\o.data=.seq its.toArray n
def PK{M:Model}{a:Addr}{its:A0}(h:TupAt s.heap a its):wpAny M A (firstOfTuple' (.ref a)) (λr s'=>s'=s/\r=its[0]?) E s:=by obtain⟨o,n,h1,b,c⟩:=h;refine wB (ĝ ⟨o,h1,b⟩ ?_);refine wB (listItems_at h1 c ?_);exact wP ⟨rfl,by simp⟩
def EY{M:Model}{l:A0}(j:l≠[])(h: ∀x,x∈l-> ∃a its,x=.ref a/\TupAt s.heap a its):wpAny M A (oneTypeOnly' l.toArray) (λr s'=>s'=s/\r=some (.type "tuple")) E s:=by
 refine wB (û (wp_mapMA (g:=λ_=>Value.type "tuple") λx i=>?_) (λr s' d=>?_) λ_ _ e=>e)
 .obtain⟨a,its,rfl,o,n,h1,k,m⟩:=h x i;exact ĝ ⟨o,h1,k⟩ ⟨rfl,rfl⟩
 .obtain⟨rfl,rfl⟩:=d
  match l,j with
  |x::l,_=>
   have c:(List.map (λ_=>Value.type "tuple") (x::l)).toArray[0]? =some (Value.type "tuple"):=by simp
   have b:((List.map (λ_=>Value.type "tuple") (x::l)).toArray.all λx=>x==Value.type "tuple")=true:=by simp only[all_toArray,all_map,ą];intro _ _;rfl
   rw[c];dsimp only;rw[b];exact wP ⟨rfl,rfl⟩
def wp_kindT{M:Model}{c:A0}(n:c≠[])(h: ∀x,x∈c-> ∃a its b r d,x=.ref a/\TupAt s.heap a its/\its=.ref b::r/\TupAt s.heap b d):
  wpAny M A (keyKind' c.toArray) (λk s'=>s'=s/\k=tuples' false) E s:=by
 have m: ∀x, ∃y:Option ń,x∈c->(∃b d,y=some (.ref b)/\TupAt s.heap b d)/\ ∀M:Model,wpAny M A (firstOfTuple' x) (λr s'=>s'=s/\r=y) E s:=by
  intro x;by_cases i:x∈c
  .obtain⟨a,its,b,r,d,rfl,h1,rfl,q⟩:=h x i;exact⟨some _,λ_=>⟨⟨b,d,rfl,q⟩,λM=>PK h1⟩⟩
  .exact⟨none,λz=>absurd z i⟩
 let g:=λx=>Classical.choose (m x);have gs: ∀x,x∈c->(∃b d,g x=some _/\TupAt s.heap b d)/\ ∀M:Model,wpAny M A _ (λr s'=>s'=s/\r=g x) E s:=λx i=>ā (m x) i;refine wB (û (wp_mapMA λx i=>(gs x i).2 M) (λr s' j=>?_) λ_ _ e=>e);obtain⟨rfl,rfl⟩:=j;rw[iP (by simp only[all_toArray,all_map,ą];intro x i;obtain⟨⟨b,d,e,_⟩,_⟩:=gs x i;show(g x).isSome=true;rw[e];rfl)];refine wB (Ę ?_);have ef:(c.map g).toArray.filterMap id=((c.map g).filterMap id).toArray:=by simp
 rw[ef];refine wB (û (EY ?_ ?_) (λr s' j=>?_) λ_ _ e=>e)
 .match c,n,gs with
  |x::l,_,gs=>
   obtain⟨⟨b,d,e,_⟩,_⟩:=gs x mF0;rw[æ,e];simp
 .intro x i;obtain⟨y,v,e⟩:=mem_filterMap.mp i;obtain⟨z,o,p⟩:=mM.mp v;obtain⟨⟨b,d,u,t⟩,_⟩:=gs z o;have:some x=some (Value.ref b):=by rw[<-u,p];exact e.symm
  cases this;exact⟨b,d,rfl,t⟩
 .obtain⟨rfl,rfl⟩:=j;refine wP ⟨rfl,?_⟩;have:((some (Value.type "tuple")).any λx=>x !=Value.type "tuple")=false:=by rfl
  rw[this]
def wp_kindE{M:Model}{b:A0}(c:b≠[])(h: ∀x,x∈b-> ∃a,x=.ref a/\TupAt s.heap a []):
  wpAny M A (keyKind' b.toArray) (λk s'=>s'=s/\k=oneType') E s:=by
 refine wB (û (wp_mapMA (g:=λ_=>(none:Option ń)) λx i=>?_) (λr s' d=>?_) λ_ _ e=>e)
 .obtain⟨a,rfl,t⟩:=h x i;exact PK t
 .obtain⟨rfl,rfl⟩:=d
  match b,c,h with
  |x::l,c,h=>
   rw[iN (by simp)];refine wB (û (EY c λx i=>let ⟨a,e,t⟩:=h x i;⟨a,[],e,t⟩) (λr s' d=>?_) λ_ _ e=>e);obtain⟨rfl,rfl⟩:=d;exact wP ⟨rfl,rfl⟩
end
end Srt
namespace Srt
open PySem PyProof.Rows
inductive LexS(A:Ņ)(s:Ń):List ń->List ń->Bool->Prop
 |nn:LexS A s [] [] false
 |nc (x xs):LexS A s [] (x::xs) true
 |cn (y ys):LexS A s (y::ys) [] false
 |eq {y x ys xs k}:SeqAt.EqAt A s y x true->LexS A s ys xs k->LexS A s (y::ys) (x::xs) k
 |ne {y x ys xs k}:SeqAt.EqAt A s y x false->(∀(prog:ņ)(w:World)(E Q:VP),Q (.bool k) s->wpAny (model prog w) A (richCompare .Lt y x) Q E s)->LexS A s (y::ys) (x::xs) k
section
variable{prog:ņ}{w:World}{A:Ņ}{E:VP}{s:Ń}
def SU{b:Bool}{Q:Bool->Ń->Prop}(h:Q b s):wpAny (model prog w) A (truthOfDropped (.bool b)) Q E s:=ĵ h
theorem Lb{m n:Nat}{k:Bool}(vs ws:A0)(i:Nat)(a:LexS A s vs ws k):vs.length+n=ws.length+m->
   wpAny (model prog w) A (forIn ((vs.zip ws).zipIdx i) ((none,()):Option Bool×Unit) λz _=>eqBool z.1.1 z.1.2 >>= λe=>if(!e)=true then oneLt' (false&&z.2==0) z.1.1 z.1.2 >>= λr=>pure (.done (some r,()))else pure (.yield (none,())))
    (λr s'=>s'=s/\(r=(some k,())\/(r=(none,())/\k=decide (m<n)))) E s:=by
 induction a generalizing i with
 |nn=>intro h;rw[zip_nil_left,zipIdx_nil];exact wP ⟨rfl,.inr ⟨rfl,(dF0 (by simp at h;lia)).symm⟩⟩
 |nc x xs=>intro h;rw[zip_nil_left,zipIdx_nil];exact wP ⟨rfl,.inr ⟨rfl,(dT0 (by simp at h;lia)).symm⟩⟩
 |cn y ys=>intro h;rw[List.zip_nil_right,zipIdx_nil,forIn_nil];exact wP ⟨rfl,.inr ⟨rfl,(dF0 (by simp at h;lia)).symm⟩⟩
 |eq he hr ih=>
  intro h;rw[Ĳ,zipIdx_cons,forIn_cons];refine wB (wB (he prog w E _ ?_));exact wP (ih _ (by simpa using(by simp at h;lia)))
 |ne he hr=>
  intro h;refine wB (wB (he prog w E _ ?_));simp only[Bool.false_and];refine wB (wB (hr prog w E _ (SU ?_)));exact wP (wP ⟨rfl,.inl rfl⟩)
theorem wp_keyLtT{l b:Addr}{its a:A0}{k:Bool}{Q:Bool->Ń->Prop}(q:TupAt s.heap l its)(i:TupAt s.heap b a)(p:LexS A s its a k)(c:Q k s):
  wpAny (model prog w) A (keyLt' (tuples' false) (.ref l) (.ref b)) Q E s:=by
 obtain⟨v,y,u,_,j⟩:=q;obtain⟨B,z,d,_,o⟩:=i;refine wB (listItems_at u j (wB (listItems_at d o ?_)));simp only[sA0];refine wB (û (Lb its a 0 p (m:=its.length) (n:=a.length) #[0]) (λr s' h=>?_) λ_ _ e=>e);obtain⟨rfl,rfl|⟨rfl,e⟩⟩:=h
 .exact wP c
 .dsimp only;rw[<-e];exact wP c
def wp_lt{kd:SortKind}{x y:Keyed}{k:Bool}{st:SortSt}(a:kindOf st=kd)(h: ∀(E:VP)(Q:Bool->Ń->Prop),Q k s->wpAny (model prog w) A (keyLt' kd x.1 y.1) Q E s){Q:Option Bool->SortSt->Prop}(b:Q (some k) st):
  wpS (model prog w) A E s (lt' x y) Q st:=by
 rw[lt'_eq];refine wpS_bind (wpS_get ?_);rw[a];refine wpS_bind (wpS_lift (Ĉ (h _ _ ⟨rfl,?_⟩)));exact wpS_pure b
end
end Srt
namespace L2
namespace M
open PySem PySem.Spec PyProof.Rows
variable{kvs:List (Key×V)}
mutual
def bA:MV->Bool
 |.int _=>true
 |.str _=>true
 |.tup ds=>uT ds
 |_=>false
def uT:List MV->Bool
 |[]=>true
 |d::ds=>bA d&&uT ds
end
def JA{α β:Type}{g:α->β}{p m:List β}(h:p.Perm m): ∀l:List α,l.map g=p-> ∃c:List α,c.Perm l/\c.map g=m:=by
 induction h with
 |nil=>intro l e;exact⟨l,.refl _,e⟩
 |cons x _ ih=>
  intro l e
  cases l with
  |nil=>cases e
  |cons a l=>
   injection e with e1 e2
   obtain⟨c,k,j⟩:=ih l e2;exact⟨_,k.cons a,by rw[æ,e1,j]⟩
 |swap x y t=>
  intro l e
  match l,e with
  |a::b::l,e=>
   injection e with e1 e2
   injection e2 with e2 e3
   exact⟨_,.swap _ _ _,by rw[æ,æ,e1,e2,e3]⟩
 |trans _ _ ih1 ih2=>
  intro l e;obtain⟨l1,p1,i⟩:=ih1 l e;obtain⟨l2,p2,d⟩:=ih2 l1 i;exact⟨l2,p2.trans p1,d⟩
section
variable{X:Cx}{α:B9}{S:Sto}{H:Hp}{pins:J5}{σ:St}{s:Ń}
mutual
theorem VW(I:↑2): ∀{d b:MV}{v:V},bA d=true->bA b=true->Den X.K α H d v->Den X.K α H b v->d=b
 |.int i,b,v,_,h',q,q'=>by
  cases xN q
  cases b with
  |int j=>cases xN q';rfl
  |str x=>cases xO q'
  |tup ds=>obtain⟨a,vs,e,_⟩:=yR q';cases e
  |_=>simp[bA]at h'
 |.str x,b,v,_,h',q,q'=>by
  have e:=xO q
  cases b with
  |int j=>rw[xN q']at e;cases e
  |str y=>rw[xO q']at e;injection e with e;rw[uA e]
  |tup ds=>obtain⟨a,vs,c,_⟩:=yR q';rw[c]at e;cases e
  |_=>simp[bA]at h'
 |.tup ds,b,v,h,h',q,q'=>by
  obtain⟨a,vs,e,t,l⟩:=yR q
  cases b with
  |int j=>rw[xN q']at e;cases e
  |str y=>rw[xO q']at e;cases e
  |tup es=>
   obtain⟨n,m,c,t',k⟩:=yR q';rw[e]at c;cases c;have:=I.tuple_inj t t';subst this;rw[EZ I (by unfold bA at h;exact h) (by unfold bA at h';exact h') l k]
  |_=>simp[bA]at h'
theorem EZ(I:↑2): ∀{ds es:K1}{vs:List V},uT ds=true->uT es=true->DenL X.K α H ds vs->DenL X.K α H es vs->ds=es
 |[],[],_,_,_,_,_=>rfl
 |[],e::es,_,_,_,q,q'=>by obtain⟨v,r,e,_⟩:=q'.uncons;rw[q.isnil]at e;cases e
 |d::ds,[],_,_,_,q,q'=>by obtain⟨v,r,e,_⟩:=q.uncons;rw[q'.isnil]at e;cases e
 |d::ds,e::es,_,h,h',q,q'=>by obtain⟨v,r,rfl,a,l⟩:=q.uncons;obtain⟨k,j,b,i,c⟩:=q'.uncons;cases b;unfold uT at h h';rw[aE]at h h';rw[VW I h.1 h'.1 a i,EZ I h.2 h'.2 l c]
end
def Zk{A:Ņ}{xs ys:A0}{k:Bool}(h:LexR A s xs ys k):Srt.LexS A s xs ys k:=by
 induction h with
 |nn=>exact .nn
 |nc x xs=>exact .nc x xs
 |cn x xs=>exact .cn x xs
 |eq a _ ih=>exact .eq a ih
 |ne a b=>exact .ne a b
inductive KindD:Bool->MV->Prop
 |t (es r):KindD true (.tup (.tup es::r))
 |e:KindD false (.tup [])
abbrev Dc(b:Bool):SortKind:=if b=true then tuples' false else oneType'
def tO(I:↑2){ds:K1}{x:V}{u:ń}(d:Den X.K α H (.tup ds) x)(r:RelV x u): ∃a vs its,u=.ref a/\DenL X.K α H ds vs/\Vals vs its/\Srt.TupAt s.heap a its/\IsTup s.heap a its.toArray:=by obtain⟨a,vs,rfl,t,l⟩:=yR d;cases r;obtain⟨its,b,pt,_⟩:=I.tuple t;obtain⟨o,h1,c,n,e⟩:=id pt;exact⟨a,vs,its,rfl,l,b,⟨o,n,h1,c,e⟩,pt⟩
theorem Lc(I:↑2)(O:Wd X.g α S H){A:Ņ}(hu:A.units+64<cLine){b:Bool}{d f:MV}{x y:V}{u v:ń}{k:Bool}(kd:KindD b d)(kf:KindD b f)(h1:Den X.K α H d x)(h2:Den X.K α H f y)(N:RelV x u)(T:RelV y v)
  (h:CZ S zF d f=some k) (prog:ņ) (w:World) (E:VP) (Q:Bool->Ń->Prop) (hq:Q k s):wpAny (model prog w) A (keyLt' (Dc b) u v) Q E s:=by
 cases kd with
 |t es r=>
  cases kf with
  |t es' r'=>
   obtain⟨Y,z,i,rfl,l1,M,P,_⟩:=tO I h1 N;obtain⟨a2,L,j,rfl,l2,o,Z,_⟩:=tO I h2 T;have h':AA _ _ _ _=some k:=h
   refine Srt.wp_keyLtT P Z (Zk (UY (λd f x y u v k a b c p e=>vZ I O 39 A d f x y u v k #[0] a b c p e)
    (λd f x y u v k a b c p e=>KP I O 39 A d f x y u v k #[0] a b c p e) l1 l2 M o h')) hq
 |e=>
  cases kf;obtain⟨Y,z,i,rfl,l1,M,P,p1⟩:=tO I h1 N;obtain⟨a2,L,j,rfl,l2,o,Z,p2⟩:=tO I h2 T;cases l1.isnil;cases l2.isnil;cases M;cases o;have hk:k=false:=by have h':_=some k:=h;cases h';rfl
  subst hk;show wpAny _ A (keyLt' oneType' _ _) Q E s;rw[keyLt'_oneType];obtain⟨⟨aa,dd,U,sl⟩,D,hc,n,hd⟩:=id p1;obtain⟨⟨W,q,B,G⟩,J,m,n2,C⟩:=id p2;subst hc hd m C;refine wB (wpAny_cRoomFor #[0] ?_);refine wB (wpAny_callSpecialIfBound?_slot ⟨_,D,rfl⟩ PySem.F.slot_tuple_lt (call_meets PySem.F.slot_tuple_lt ⟨_,D,rfl⟩ PySem.F.entry_tuple_lt (PySem.F.args_tuple_lt_2 _ _) (EO Y a2 _ _ n n2 dd q sl G false) ⟨D,J,.nn,?_⟩));exact ĵ hq
end
structure OrdD(S:Sto)(ks:K1):Prop where
 any: ∀a,a∈ks-> ∀b,b∈ks-> ∃t,CZ S zF a b=some t
 tr: ∀a,a∈ks-> ∀b,b∈ks-> ∀c,c∈ks->CZ S zF b a=some false->CZ S zF c b=some false->CZ S zF c a=some false
 as: ∀a,a∈ks-> ∀b,b∈ks->CZ S zF a b=some true->CZ S zF b a=some false
theorem LP(a f:ń):argsOk "sorted" ⟨[a],[("key",f)]⟩:=by unfold argsOk;kernel_rfl
theorem SV(a f:ń):argsOk "list.sort" ⟨[a],[("key",f)]⟩:=by unfold argsOk;kernel_rfl
section
variable{X:Cx}{α:B9}{S:Sto}{H:Hp}{pins:J5}{σ:St}{s:Ń}{k:Nat}{fa:Addr}{fd:FuncData}{ps:C0}
def Ld{sp:Sp}{Q:VK}{us:A0}{vs:List V}{d:VP}(F:FnOk X.prog X.w X.K X.mg X.base EB k fa fd ps sp)(i:Room (k+2) X.A)(j:Binds X.K fd ps [])
  (I:↑2) (r:Vals vs us) (h:sp vs H Q E0):wpAny (model X.prog X.w) X.A.in1.in1 (call (.ref fa) us) (EP X pins σ Q) d s:=by
 have c:(us++[]).length=ps.length:=by rw[aN, <-r.length];exact F.len _ _ _ _ h
 have b:=j s us I.kIn c;rw[aN]at b;refine wpAny_call (codeAny_mono (F.run X.A.in1.in1 X.stack s H ⟨us,[]⟩ us vs Q E0 i.in1.in1 I.env0.in1.in1 b r h) λr s' a=>?_)
 cases r with
 |error e=>exact False.elim a
 |ok fl=>
  cases fl with
  |ret u=>exact I.after a
  |next=>exact False.elim a
  |brk=>exact False.elim a
  |cont=>exact False.elim a
def Uo{g:Gm}{α α':B9}{S:Sto}{H H':Hp}(w:Wd g α S H)(x:Ext α H α' H')(b:Wd g α' S H'):α'=α:=by obtain⟨t,e⟩:=x.pre;have h1:=w.len;have a:=b.len;rw[e,lA]at a;have:t=[]:=List.length_eq_zero_iff.mp (by omega);rw[e,this,aN]
end
section
variable{X:Cx}{α:B9}{H:Hp}{pins:J5}{σ:St}{s:Ń}{ps:C0}
def YZ{e:Addr}{ys:List V}{its:A0}{n:Nat}(J:↑2)(f:oN X pins H e)(m:X.s₀.heap.objs.size<=e)(A:s.heap.get? e=some (seqObj "list" its.toArray n))(j:Vals ys its)(hz:ys.length<=sizeLine):Inv X pins σ (wC H e (.lst ys)) s:=by
 have k: ∀o,X.s₀.heap.get? e≠some o:=λo z=>absurd (ç (â z) m) (Į _);refine⟨J.ok,J.os,J.bare,⟨J.base.keep,J.base.slot,λb a q n w=>?_,J.base.there,λb xs q=>?_,λb o' u q=>?_,λb ps q=>?_⟩,J.loc,J.cell,?_,λx c h=>?_,λp d=>?_,λb u q=>?_,J.len⟩
 .rw[zL λz=>k a (by rw[<-z];exact q)];exact J.base.free b a q n w
 .rw[zL (zQ (J.base.tups b xs q) f.1)];exact J.base.tups b xs q
 .rw[zL (zQ (J.base.frzs b o' u q) f.1)];exact J.base.frzs b o' u q
 .obtain⟨y,z⟩:=J.base.tbls b ps q;exact⟨y,by rw[zL (zQ z f.1)];exact z⟩
 .rw[zL (Ne.symm f.2.1)];exact J.free
 .rw[zL (f.2.2.2.2.1 x c h)];exact J.freeC x c h
 .obtain⟨i,n,ne,nf,v⟩:=J.pin p d;exact⟨i,by rw[zL (f.2.2.2.2.2 p d)];exact n,ne,nf,v⟩
 .by_cases z:b=e
  .subst z;rw[zT]at q;cases q;exact⟨hz,its,n,j,A⟩
  .rw[zL z]at q;exact(J.hok b u q).stay (λ_ _ _ r=>r) (λc r=>by rw[zL (zQ r f.1)];exact r) λc xs r=>by rw[zL (zQ r f.1)];exact r
def Uq(I:↑2){A:Ņ}{kds:K1}{kvs:List V}{ks:A0}(n:kds≠[]){b:Bool}(c: ∀d,d∈kds->KindD b d)(y:DenL X.K α H kds kvs)(o:Vals kvs ks){B:VP}:
  wpAny (model X.prog X.w) A (keyKind' ks.toArray) (λq s'=>s'=s/\q=Dc b) B s:=by
 have ne:ks≠[]:=λz=>by have h1:=o.length;have m:=y.length;rw[z]at h1;exact n (List.length_eq_zero_iff.mp (by rw[<-m,h1];rfl))
 have all: ∀u,u∈ks-> ∃d v,d∈kds/\Den X.K α H d v/\RelV v u:=by
  intro u e;obtain⟨i,hi⟩:=getElem?_of_mem e;have p:i<kvs.length:=by rw[o.length];exact(gS.mp hi).1
  obtain⟨G,h1,r⟩:=o.get (gE p);rw[hi]at h1;cases h1;obtain⟨d,m,C⟩:=y.get (gE p);exact⟨d,_,è m,C,r⟩
 cases b with
 |true=>
  refine Srt.wp_kindT ne λu e=>?_;obtain⟨d,v,md,k,r⟩:=all u e
  cases c d md with
  |t es rr=>
   obtain⟨a,vs,its,rfl,l,j,t,_⟩:=tO I k r;obtain⟨L,J,rfl,F,_⟩:=l.uncons
   cases j with
   |@cons _ u1 _ us1 rv rr'=>
    obtain⟨E,_,h,rfl,_,_,D,_⟩:=tO I F rv;exact⟨a,_,E,us1,h,rfl,t,rfl,D⟩
 |false=>
  refine Srt.wp_kindE ne λu e=>?_;obtain⟨d,v,md,k,r⟩:=all u e;cases c d md;obtain⟨a,vs,its,rfl,l,j,t,_⟩:=tO I k r;cases l.isnil;cases j;exact⟨a,rfl,t⟩
end
theorem ZA{ks its:A0}{N:Nat}(h1:ks.length=N)(a:its.length=N):(List.range N).map (λi=>((ks[i]?).getD .none,(its[i]?).getD .none))=ks.zip its:=by
 apply ext_getElem?;intro i;rw[ö];by_cases hi:i<N
 .have e:(ks.zip its)[i]? =some (ks[i]'#[0],its[i]'#[0]):=by rw[List.getElem?_zip_eq_some];exact⟨gE _,gE _⟩
  rw[List.getElem?_range hi,e];show some ((ks[i]?).getD .none,(its[i]?).getD .none)=_;rw[gE #[0],gE #[0]];rfl
 .rw[getElem?_eq_none (by rw[Ĕ];lia),getElem?_eq_none (by rw[ĸ];lia)];rfl
theorem FA{β:Type}{l:List β}{d:β}{idx:Db}(h: ∀i,i∈idx->i<l.length):idx.map (λi=>(l[i]?).getD d)=idx.filterMap (l[·]?):=by
 induction idx with
 |nil=>rfl
 |cons i idx ih=>
  have hi:=h i mF0;rw[æ,Ľ (gE hi),ih λj a=>h j (mO _ a),gE hi];rfl
def VX(S:Sto)(ds kds r:K1):Prop:= ∃idx:List Nat,idx.Perm (List.range ds.length)/\idx.Pairwise (λi j=> ∀a c,kds[i]? =some a->kds[j]? =some c->CZ S zF c a=some false)/\r=idx.filterMap (ds[·]?)
open Classical in
open Classical in
def ZC:bootBuiltins "sorted"=some (.builtin "sorted"):=by decide+kernel
section
variable{X:Cx}{W:XW}{tg iter a:Expr}{f:AX}{af:Rho->Sto->R (List Er)}{e:Expr}{es:J8}{pos apos:Pos}
def Itq(K:J9)(k:Bool)(a:Addr):It:=if k=true then E3 K a else E4 K a
def iSeq(K:J9)(tl:TE):TI:=λσ H R=>tl σ H λx H1=> ∃k a,x=.ref a/\(∃xs,GV k K H1 a xs)/\R (Itq K k a) H1
def Ur{l:Expr}{tl:TE}(u:PE X l tl):PI X tg l (iSeq X.K tl):=by
 intro pins s σ H R I h;refine kY (u pins s σ H _ I h) λv c ⟨x,H1,I1,m,n⟩=>?_;obtain⟨k,a,e,⟨xs,i⟩,q⟩:=n;subst e;cases m
 cases k with
 |true=>
  obtain⟨its,j,p,r⟩:=I1.list (show SqL X.K H1 a xs from i);refine wpAny_pyIter_list p.isList ?_;refine⟨c.heap.objs.size,[c.heap.objs.size],_,_,H1,rfl,I1.kept (t':=c.toks) λb o e=>hP0 _ e,HZ a _,⟨_,ã _ rfl,rfl,rfl⟩,λb d=>?_,q⟩;have e:b=c.heap.objs.size:=by simpa using d
  subst e;exact I1.fpOk (à _) (I1.hok.fresh (à _))
 |false=>
  obtain⟨its,j,p,r⟩:=I1.tuple (show SqT X.K H1 a xs from i);refine wpAny_pyIter_tuple (show c.heap.IsTuple a its.toArray from p) ?_;refine⟨c.heap.objs.size,[c.heap.objs.size],_,_,H1,rfl,I1.kept (t':=c.toks) λb o e=>hP0 _ e,DY a _,⟨_,ã _ rfl,rfl,rfl⟩,λb d=>?_,q⟩;have e:b=c.heap.objs.size:=by simpa using d
  subst e;exact I1.fpOk (à _) (I1.hok.fresh (à _))
def itQ(r:Er)(S:Sto):R Wk:=match srcOf S r with
 |some q=>.ok ⟨q.ds,q.gs⟩ S
 |none=>.no
def Us(r:zP X W iter f):GT X W tg iter (λρ S=>(f ρ S).bind itQ):=by
 obtain⟨t,r,k⟩:=r;refine⟨_,Ur r,λα ρ S σ H O D sl q=>k α ρ S σ H _ D sl (q.bind λu p S1 s H1 e L A M c=>?_)⟩
 replace c:=c.shift L
 unfold itQ at c;split at c
 .rename_i q J;obtain⟨l1,F,rfl,p1,h⟩:=AB A J M.1;have G:=h.get _ _ _ p1;refine⟨q.k,l1,rfl,⟨_,G.choose_spec.1⟩,c.here (u:=Itq X.K q.k l1) A ⟨λα S H=>F α S H,?_,p1,λs S1 H1 b S2 j d x w hs=>h.stays _ _ _ _ _ _ d x w hs,h.st _ _ _ p1⟩⟩;intro i b S2 j d B;obtain⟨us,v,z⟩:=h.get _ _ _ d;obtain⟨E,C,N⟩:=q
  cases E with
  |true=>
   obtain⟨i1,i2⟩:=uE (X:=X) (a:=l1) (ds:=C) i b S2 j ⟨us,v,z⟩ B;refine⟨λhi=>⟨(i1 hi).1,λx H' y=>?_⟩,i2⟩;obtain⟨m,o,I,n⟩:=(i1 hi).2 x H' y;obtain⟨rfl,_⟩:=y;exact⟨m,o,d,n⟩
  |false=>
   obtain⟨i1,i2⟩:=UV (X:=X) (a:=l1) (ds:=C) i b S2 j ⟨us,v,z⟩ B;refine⟨λhi=>⟨(i1 hi).1,λx H' y=>?_⟩,i2⟩;obtain⟨m,o,I,n⟩:=(i1 hi).2 x H' y;obtain⟨rfl,_⟩:=y;exact⟨m,o,d,n⟩
 .exact c.elim
theorem DenL.eraseIdx{K:J9}{α:B9}{H:Hp}: ∀{ds:K1}{vs:List V}(n:Nat),DenL K α H ds vs->DenL K α H (ds.eraseIdx n) (vs.eraseIdx n)
 |[],_,_,q=>by rw[q.isnil];exact zZ
 |d::ds,_,0,q=>by obtain⟨v,r,rfl,_,l⟩:=q.uncons;exact l
 |d::ds,_,n+1,q=>by obtain⟨v,r,rfl,a,l⟩:=q.uncons;exact zS a (DenL.eraseIdx n l)
def ZD(p:Er)(rs:List Er)(S:Sto):R Er:=match p,rs with
 |.val (.loc l),[.val (.int i)]=>match S[l]? with
  |some (.lst ds)=>if -(2 ^ 63)<=i/\i<2 ^ 63 then match IF ds.length i with
   |some j=>match ds[j]? with
    |some d=>.ok (.val d) (S.set l (.lst (ds.eraseIdx j)))
    |none=>.no
   |none=>.no
   else .no
  |_=>.no
 |_,_=>.no
def Ut:RZ X W Az ZD:=by
 intro p rs x vs α S H0 H Q D e n q w b;unfold ZD at b;split at b
 .rename_i l i;obtain⟨a,rfl,h⟩:=fB q;obtain⟨v,rfl,B⟩:=OP w;cases yV B;obtain⟨s,h1,C⟩:=e.of h;rw[h1]at b
  cases s with
  |lst ds=>
   obtain⟨us,k,l1⟩:=C;dsimp only at b;split at b
   .rename_i m;split at b
    .rename_i j r;split at b
     .rename_i d z;obtain⟨y,u,A⟩:=l1.at z;have c:=e.writex h (Gh k) (o:=.lst (us.eraseIdx j));refine⟨a,us,i,j,y,rfl,rfl,k,m.1,m.2,by rw[l1.length];exact(KC r).1,u,?_⟩;exact(b.shift (n.trans c)).val (e.write h (Gh k) ⟨_,zT,(l1.eraseIdx j).ext c⟩) (A.ext c)
     .exact b.elim
    .exact b.elim
   .exact b.elim
  |dic _=>exact b.elim
  |ins _ _=>exact b.elim
  |rcd _ _=>exact b.elim
  |fdc _=>exact b.elim
 .exact b.elim
def Uu(c:zP X W a f)(b:EK X W (e::es) af)
  (hbase:attributeBase a "pop" X.env (eval a X.env)=eval a X.env:=by rfl)
  (hfew:((backTo pos (starEach (e::es) X.env)).all (λx=>!x.1)&&(backToKw pos (keywordEach [] X.env)).all (λx=>x.1.isSome)
   &&decide ↑3)=true:=by rfl)
  (hline:(apos.endLine==pos.line)=true:=by rfl) (hs:q9 X e es:=by rfl) (hplain:Q1 X pos es:=by rfl):
  zP X W (.Call (.Attribute a "pop" apos) (e::es) [] pos) (λρ S=>(f ρ S).bind λp S1=>if jO p S1=true then(af ρ S1).bind λrs S2=>ZD p rs S2 else .no):=
 UT PySem.F.plainAttrs_list PySem.F.slot_list_pop PySem.F.type_list_pop Ba Ut Cg c b hbase hfew hline hs hplain
end
section
variable{X:Cx}{W:XW}{a b o i:Expr}{pins:J5}{σ:St}{H:Hp}{s:Ń}{α:B9}
noncomputable def qQ(kvs:List (Key×V))(k:Key)(v:V):List (Key×V):=if(kvs.any λa=>decide (a.1=k))=true then kvs.map (λa=>if a.1=k then(a.1,v)else a)else kvs++[(k,v)]
def uU(kvs:List (Key×V))(k:Key)(v:V):(qQ kvs k v).length<=kvs.length+1:=by
 unfold qQ;split
 .rw[lM];exact le_succ _
 .rw[lA];exact à _
def Uv{vs:List (Key×ń)}(r:KV kvs vs)(k:Key):(kvs.any λa=>decide (a.1=k))=vs.any λa=>decide (a.1=k):=by
 induction r with
 |nil=>rfl
 |cons h t ih=>rw[List.any_cons,List.any_cons,ih,h.1]
def Lf{vs:List (Key×ń)}(r:KV kvs vs)(k:Key){y:V}{u:ń}(b:RelV y u):KV (kvs.map λa=>if a.1=k then(a.1,y)else a) (vs.map λa=>if a.1=k then(a.1,u)else a):=by
 induction r with
 |nil=>exact .nil
 |@cons p q ps qs h t ih=>
  rw[æ,æ];refine .cons ?_ ih;by_cases e:p.1=k
  .rw[iP e,iP (h.1.symm.trans e)];exact⟨h.1,b⟩
  .rw[iN e,iN λz=>e (h.1.trans z)];exact h
def Lg{vs:List (Key×ń)}(r:KV kvs vs){p:Key×V}{q:Key×ń}(h:p.1=q.1/\RelV p.2 q.2):KV (kvs++[p]) (vs++[q]):=by
 induction r with
 |nil=>exact .cons h .nil
 |cons h' t ih=>exact .cons h' ih
def SW{vs:List (Key×ń)}(r:KV kvs vs)(k:Key){y:V}{u:ń}(a:RelV y u):KV (qQ kvs k y) (stored vs k u):=by
 unfold qQ stored;rw[Uv r k];by_cases e:(vs.any λb=>decide (b.1=k))=true
 .rw[iP e,iP e];exact Lf r k a
 .rw[iN e,iN e];exact Lg r ⟨rfl,a⟩
def LQ{k:MV}{a b:Key}(h:KeyD k a)(h':KeyD k b):a=b:=by
 cases k with
 |int i=>exact Eq.trans h h'.symm
 |str x=>exact Eq.trans h h'.symm
 |_=>exact False.elim h
def FB{k k':MV}{a:Key}(h:KeyD k a)(h':KeyD k' a):k=k':=by
 cases k with
 |int i=>
  have e:=h;subst e
  cases k' with
  |int j=>have b:(Sum.inl i:Key)=.inl j:=h';cases b;rfl
  |str y=>have b:(Sum.inl i:Key)=.inr _:=h';cases b
  |_=>exact False.elim h'
 |str x=>
  have e:a=.inr _:=h;subst e
  cases k' with
  |int j=>have b:(Sum.inr _:Key)=.inl j:=h';cases b
  |str y=>
   have b:(Sum.inr _:Key)=.inr _:=h';injection b with b
   rw[uA b]
  |_=>exact False.elim h'
 |_=>exact False.elim h
theorem PL: ∀{kvs:K6}{ks:List (Key×V)}{k:MV}{k':Key},DenK X.K α H kvs ks->KeyD k k'->(ks.any λb=>decide (b.1=k'))=(look kvs k).isSome
 |_,_,k,k',.nil,hk=>rfl
 |_,_,k,k',.cons (k:=c) (k':=c') hc a l,hk=>by
  rw[yY,List.any_cons];by_cases h:c=k
  .subst h;rw[iP rfl,dT0 (LQ hc hk)];rfl
  .have d: ¬c'=k':=λz=>h (FB hc (z.symm▸hk));rw[iN h,dF0 d];exact PL l hk
theorem FC: ∀{kvs:K6}{ks:List (Key×V)}{k d:MV}{k':Key}{v:V},DenK X.K α H kvs ks->KeyD k k'->Den X.K α H d v->DenK X.K α H (kvs.map λp=>if p.1=k then(p.1,d)else p) (ks.map λb=>if b.1=k' then(b.1,v)else b)
 |_,_,k,d,k',v,.nil,hk,hd=>.nil
 |_,_,k,d,k',v,.cons (k:=c) (k':=c') hc a l,hk,hd=>by
  rw[æ,æ];by_cases h:c=k
  .subst h;rw[iP rfl,iP (LQ hc hk)];exact .cons hc hd (FC l hk hd)
  .have e: ¬c'=k':=λz=>h (FB hc (z.symm▸hk));rw[iN h,iN e];exact .cons hc a (FC l hk hd)
theorem DenK.append: ∀{kvs b:K6}{xs c:List (Key×V)},DenK X.K α H kvs xs->DenK X.K α H b c->DenK X.K α H (kvs++b) (xs++c)
 |_,_,_,_,.nil,h=>h
 |_,_,_,_,.cons hk a l,h=>.cons hk a (DenK.append l h)
theorem DenK.length: ∀{kvs:K6}{xs:List (Key×V)},DenK X.K α H kvs xs->xs.length=kvs.length
 |_,_,.nil=>rfl
 |_,_,.cons _ _ l=>by rw[lC,lC,DenK.length l]
def FD{kvs:K6}{ks:List (Key×V)}{k d:MV}{k':Key}{v:V}(l:DenK X.K α H kvs ks)(a:KeyD k k')(hd:Den X.K α H d v):DenK X.K α H (putK kvs k d) (qQ ks k' v):=by
 unfold putK qQ;rw[PL l a];by_cases h:(look kvs k).isSome=true
 .rw[iP h,iP h];exact FC l a hd
 .rw[iN h,iN h];exact l.append (.cons a hd .nil)
def DK(X:Cx)(H:Hp)(d:Addr)(ks:List (Key×V)):Prop:=H d=some (.dK ks)\/(ks=[]/\H d=some (DN X.prog X.w d []))
def DK.nf{d:Addr}{ks:List (Key×V)}(h:DK X H d ks): ∀a u,H d≠some (.frz a u):=h.elim (λz=>Gh z) λz=>by first |exact Gh z.2|exact z.elim
def iZ(I:↑2){ks:List (Key×V)}{d:Addr}(h:DK X H d ks):ks.length<=sizeLine/\(d==sysModules)=false/\ ∃vs,KV ks vs/\s.heap.DictOf (kZ X.prog X.w) d vs:=by
 rcases h with h|⟨rfl,h⟩
 .exact(I.hok d _ h)
 .obtain⟨⟨m,hs,o,es,ep,c,i,hd,j,k⟩,_⟩:=(I.hok d _ h)
  have a:=j;refine⟨zero_le _,hs,[],.nil,o,es,ep,c,i,hd,λe b=>?_,by rw[a];exact .nil,nodup_nil⟩;rw[<-Array.mem_toList_iff,a]at b;exact absurd b (by simp)
def SX:CallR X (.type "list") (λxs H Q=> ∃d ks,xs=[.ref d]/\DK X H d ks/\X.calm=true/\ ∀l,H l=none->Q (.ref l) (wC H l (.lst (ks.map λp=>kV p.1)))):=by
 intro pins s σ H xs us Q I r h;obtain⟨d,ks,rfl,F,M,q⟩:=h;obtain⟨u,rfl,D⟩:=vals1 r;cases D;obtain⟨z,hd,vs,n,O⟩:=iZ I F;obtain⟨ep,A⟩:=O.dictAt;have m:ks.length=vs.length:=Paired.length n;refine PySem.W.kdl_call (PySem.W.kdl_dict (knd:=kZ X.prog X.w) (kvs:=vs) (ep:=ep) hd) (I.ok.hd M) A (by omega) λh' N o J K G c=>?_
 have L:Vals (ks.map λp=>kV p.1) o.toList:=by
  have y: ∀{ks:List (Key×V)}{vs:List (Key×ń)}{us:A0},KV ks vs->us.length=vs.length->(∀(j:Nat)(v:ń),us[j]? =some v-> ∃(k:Key)(x:ń),vs[j]? =some (k,x)/\(kZ X.prog X.w).is k v=true)->Vals (ks.map λp=>kV p.1) us:=by
   intro ks vs us C;unfold KV at C
   induction C generalizing us with
   |nil=>intro m _;cases us with
    |nil=>exact .nil
    |cons a b=>simp at m
   |@cons p q ps qs h t ih=>
    intro m B
    cases us with
    |nil=>simp at m
    |cons a b=>
     obtain⟨k,x,e,hi⟩:=B 0 a rfl;simp only[List.getElem?_cons_zero,Option.some.injEq]at e;subst e;rw[æ];refine .cons ?_ (ih (by simpa using m) λj v E=>by simpa using B (j+1) v (by simpa using E));rw[h.1];rcases yC hi with⟨i,t,e1,e2⟩|⟨i,t,e1,e2⟩
     .subst e2;rw[show k=.inl i from e1];exact⟨t,rfl⟩
     .subst e2;rw[show k=.inr i from e1];exact⟨t,rfl⟩
  exact y n (by rw[í];exact c.1) λj v e=>c.2 j v (by rw[<-ò];exact e)
 refine⟨.ref ↑0,_,I.laid (t':=N) K (à _) (show ObjOk X.prog X.w _ h' _ (.lst (ks.map λp=>kV p.1))from⟨by rw[lM];exact z,o.toList,J,L,?_⟩),rfl,q _ (I.hok.fresh (à _))⟩;rw[Array.toArray_toList];exact G
theorem JB: ∀{kvs:K6}{ks:List (Key×V)},DenK X.K α H kvs ks->DenL X.K α H (kvs.map (·.1)) (ks.map λp=>kV p.1)
 |_,_,.nil=>zZ
 |_,_,.cons (k:=c) (k':=c') hc a l=>by
  refine zS ?_ (JB l)
  cases c with
  |int i=>rw[show c'=.inl i from hc];exact wL i
  |str x=>rw[show c'=.inr _ from hc];exact iU x
  |_=>exact False.elim hc
end
def StrAt(val:Nat->Key)(i:Nat)(v:ń):Prop:=(∃x t,val i=.inr x/\v=.str x t)\/ ∃x t,val i=.inl x/\v=.int x t
def StrAt.is{P:ņ}{w:World}{val:Nat->Key}{i:Nat}{v:ń}(h:StrAt val i v):(kZ P w).is (val i) v=true/\v.scannable=true:=by
 rcases h with⟨x,t,e,rfl⟩|⟨x,t,e,rfl⟩<;>rw[e]
 .exact⟨qE P w x t,rfl⟩
 .exact⟨BG P w x t,rfl⟩
section
variable{X:Cx}{o e:Expr}{es:J8}{apos pos:Pos}{to:TE}{t:TA}{T:String}{name:Str}{id:String}{r:V->List V->Hp->VK->Prop}
def rX(X:Cx)(T:String)(c:V->Hp->Prop):Prop:= ∀(pins:J5)(s:Ń)(σ:St)(H:Hp)(x:V)(v:ń),Inv X pins σ H s->RelV x v->c x H->s.TypeIs v T/\ ∀a,v=.ref a-> ∃b,s.heap.get? a=some b/\b.dict=none
def LR{i:V->Hp->Prop}(c:rX X T i)(n:PlainAttrs T)(a:Slot T name id)(d:typeOf (.builtin id)=pure (.type "method_descriptor"))(D:Hr X id r)(w:PE X o to)(u:PA X (e::es) t)
  (hbase:attributeBase o name X.env (eval o X.env)=eval o X.env)
  (hfew:((backTo pos (starEach (e::es) X.env)).all (λx=>!x.1)&&(backToKw pos (keywordEach [] X.env)).all (λx=>x.1.isSome)
   &&decide ↑3)=true)
  (hline:(apos.endLine==pos.line)=true) (hs:starEach (e::es) X.env=(false,eval e X.env)::starEach es X.env) (hplain:(backTo pos (starEach es X.env)).any (·.1)=false):
  PE X (.Call (.Attribute o name apos) (e::es) [] pos) (λσ H Q=>to σ H λx H1=>i x H1/\t σ H1 λvs b=>r x vs b Q):=by
 intro pins s σ H Q I h;refine wpAny_Call_method_late hbase hfew hline rfl (kY (w pins s σ H _ I h) λv k ⟨x,H1,I1,j,q,A⟩=>?_);obtain⟨h1,B⟩:=c pins k σ H1 x v I1 j q;refine⟨T,id,n,a,d,h1,B,?_⟩;have m:=u pos pins k σ H1 _ I1 A;rw[hs]at m ⊢;refine Calls.callWith_builtin (by show(false || (backTo pos _).any (·.1))=false;rw[hplain]<;>rfl) (Calls.evalArgs_plain ?_);exact kY m λus z ⟨vs,b,y,C,p⟩=>D pins z σ b x vs v us Q y j C p
def TyD(X:Cx)(x:V)(H:Hp):Prop:= ∃d xs,x=.ref d/\DD X H d xs
def AM:rX X "dict" (TyD X):=by
 intro pins s σ H x v I i ⟨d,xs,e,j⟩;subst e;cases i;rcases j with h|⟨rfl,h⟩
 .obtain⟨⟨k,hs,o,es,ep,b,c,_⟩,_⟩:=(I.hok d _ h)
  exact⟨⟨o,b,c.1⟩,λa e=>by cases e;exact⟨o,b,c.2.1⟩⟩
 .obtain⟨_,hs,vs,m,o,es,ep,b,c,_⟩:=(I.hok d _ h)
  exact⟨⟨o,b,c.1⟩,λa e=>by cases e;exact⟨o,b,c.2.1⟩⟩
end
section
variable{P:ņ}{w:World}{KK:Type}[DecidableEq KK]{knd:HeapKind P w KK}{A:Ņ}{E:VP}{s:Ń}{d a:Addr}{k:KK}{xs:List (KK×Addr×ń)}
theorem ZE{v:ń}{Q:VP}(B:knd.room A)(b:knd.is s.heap k a)(F:s.heap.DictOfH knd d xs)
  (h1: ∀p,atKey xs k=some p->Q p.2 {s with toks:=s.toks+knd.draws k})
  (h2:atKey xs k=none-> ∀h',h'.DictOfH knd d (storedH xs k a v)->Heap.SameBut d s.heap h'->Q v {s with heap:=h',toks:=s.toks+knd.draws k}) (hsz:xs.length<=sizeLine):
  wpAny (model P w) A (dictSetDefault d (.ref a) v) Q E s:=by
 obtain⟨o,es,ep,m,C,hd,r,n,u⟩:=F;unfold dictSetDefault
 try with_reducible refine ú ?_
 refine wB (knd.pyHash B b ?_);refine wB (wpAny_dictFind_heap B b m hd r n u ?_ ?_)
 .intro q;have c:=atKey_none_of_get q;have h:=storedH_new c
  refine wB (Ę (wB (wpAny_updateDictKeys (hz:=by have e:=size_of_entries r;lia) m hd (wP (h2 c _ ⟨_,_,ep+1,Heap.get?_update_self _ m (Obj.isFreed_of_dict (Obj.data_mapDictKeys hd _)),
   C.mapDictKeys _,Obj.data_mapDictKeys hd _,?_,?_,?_⟩ (ď ..))))))
  .rw[h];simp[r,entryOfKey]
  .rw[h];intro x i;rcases é.mp i with i|i
   .exact knd.keeps (n x i) m hd (ď ..)
   .rw[mS.mp i];exact knd.keeps b m hd (ď ..)
  .rw[h,ï,į];refine⟨u,by simp,λx i y D=>?_⟩;rw[mS.mp D];rintro rfl;exact not_mem_keys_of_get q i
 .intro j p z;refine wB (ě m hd ?_);rw[entry_at r j,z];exact wB (Ę (wP (h1 _ (atKey_of_get u z))))
end
section
variable{X:Cx}{W:XW}{o e:Expr}{es:J8}{f:AX}{af:Rho->Sto->R (List Er)}{apos pos:Pos}
theorem LS{α:B9}{H:Hp}: ∀{kvs:K6}{xs:List (NK×Addr×ń)}{k b:MV}{nk:NK},DenN X.K α H kvs xs->xD k=some nk->look kvs k=some b-> ∃a u v,atKey xs nk=some (a,u)/\Den X.K α H b v/\RelV v u
 |_,_,k,b,nk,.nil,hk,h=>by cases h
 |_,_,k,b,nk,.cons (k:=k') (nk:=nk') (a:=a) (v:=v) (u:=u) hk' e ha hd r l,hk,h=>by
  rw[yY]at h;by_cases c:k'=k
  .subst c;have:=by rw[hk]at hk';exact(ä hk').symm
   rw[iP rfl]at h;cases h;exact⟨a,u,v,by rw[tI,iP this],hd,r⟩
  .have j:nk'≠nk:=λz=>c (uP hk' (by rw[hk,z]));rw[iN c]at h;obtain⟨d,i,m,h1,n,o⟩:=LS l hk h;exact⟨d,i,m,by rw[tI,iN j];exact h1,n,o⟩
def rSD(X:Cx):V->List V->Hp->VK->Prop:=λx vs H Q=> ∃(α:B9)(kvs:K6)(xs:List (NK×Addr×ń))(a d:Addr)(k:MV)(nk:NK)(y:V),x=.ref d/\vs=[.ref a,y]/\DD X H d xs/\DenN X.K α H kvs xs/\xD k=some nk/\lV nk<=4/\Den X.K α H k (.ref a)/\xs.length<sizeLine/\
 (∀b v,look kvs k=some b->Den X.K α H b v->Q v H)/\(look kvs k=none-> ∀u,RelV y u->Q y (wC H d (DN X.prog X.w d (storedH xs nk a u))))
theorem Zl(hu:X.A.units+64<cLine):Hr X "dict.setdefault" (rSD X):=by
 intro pins s σ H x vs v us Q I rx rv h;obtain⟨α,kvs,xs,a,d,k,nk,y,rfl,rfl,E,l,B,e,ha,hz,q1,q2⟩:=h;obtain⟨u1,L,rfl,r1,O⟩:=vals2 rv;cases rx;cases r1;obtain⟨W,n,hs⟩:=rN I E l;have P:s.TypeIs _ "dict":=(AM pins s σ H (.ref d) (.ref d) I rfl ⟨d,xs,rfl,E⟩).1;have c:=DC l B;refine ì PySem.F.slot_dict_setdefault P PySem.F.entry_dict_setdefault ?_ (PySem.F.args_dict_setdefault_3 _ _ _);unfold Builtin.«dict.setdefault»;refine wB ?_;unfold Builtin.Dict.keyAndDefault;refine wB (ġ P ?_);show wpAny _ _ _ _ _ s;refine wP ?_;show wpAny _ _ (if _=true then _ else _) _ _ s;rw[iN (by rw[hs];exact xF0)];refine wB (ZE (knd:=zW X.prog X.w) (show X.A.units+1+4<cLine by lia) ⟨AH I B ha rfl,e⟩ W (λp M=>?_) (λhn h' G q=>?_) n)
 .rw[M]at c;obtain⟨d',i⟩:=ñ.mp c.symm;obtain⟨a2,u3,S,N,g2,Z⟩:=LS l B i;rw[M]at N;cases N;exact wP ⟨_,rfl,S,H,I.kept (λ_ _ z=>z),Z,q1 d' S i g2⟩
 .rw[hn]at c
  have J:look kvs k=none:=by
   cases z:look kvs k with
   |none=>rfl
   |some _=>rw[z]at c;cases c
  have T:Pe (H d):=by rcases E with z|⟨_,z⟩<;>rw[z]<;>exact trivial
  obtain⟨m,es,ep,C,hc,hd,he,_,D⟩:=G;refine wP ⟨_,rfl,y,_,I.write T (.inl rfl) (λb uo hb Y=>(q.2 b hb).trans Y) ⟨m,C⟩ ?_,O,q2 J L O⟩;refine⟨⟨by have:=tL (xs:=xs) (k:=nk) (a:=a) (u:=L);lia,hs,m,es,ep,C,hc,hd,he,D⟩,⟨m,C⟩,?_⟩;rintro h1 h2 ⟨U,z2,o',K,o,j,r⟩ mv;exact⟨U,z2,o',K,o,mv o' j,r⟩
def Zm(p:Er)(k y:MV)(S1:Sto):R Er:=match cF S1 p with
 |some (l,kvs)=>if keyOk k=true/\kvs.length<1000000 then match look kvs k with
  |some d=>.ok (.val d) S1
  |none=>.ok (.val y) (S1.set l (.dic (putK kvs k y)))
  else .no
 |none=>.no
def Wt(p:Er)(rs:List Er)(S:Sto):R Er:=match rs with
 |[.val k,r]=>(kC r S).bind λy S1=>Zm p k y S1
 |_=>.no
def qS(p:Er)(S:Sto):Bool:=(cF S p).isSome
def Zn:RZ X W (rSD X) Wt:=by
 intro p rs x vs α S H0 H Q h M J L s a
 match rs,s,a with
 |[],_,a=>exact a.elim
 |[.val _],_,a=>exact a.elim
 |.new _::_,_,a=>exact a.elim
 |.val _::_::_::_,_,a=>exact a.elim
 |[.val k,r],s,a=>
  cases s with
  |cons dk n1 l1=>
   cases l1 with
   |cons d n2 l2=>
    cases l2;obtain⟨N,S',α',O,z,G,i,A⟩:=cM M J d;have a:Post X.g W h H0 ((kC r S).bind λy S1=>Zm p k y S1) Q:=a;rw[O]at a;have a:Post X.g W h H0 (Zm p k N S') Q:=a;unfold Zm at a;split at a
    .rename_i l kvs D;split at a
     .rename_i C
      have q:DenX X.K α' H p x:=by
       cases p with
       |val m=>exact Den.ex0 G L
       |new ds=>cases D
      obtain⟨I,h1,F,P⟩:=uQ C.1;obtain⟨c,xs,rfl,E,Y,b,n⟩:=tK i D q;have e:=Den.ex0 G dk.1;obtain⟨B,rfl⟩:=DE P e;refine⟨α',kvs,xs,B,c,k,I,_,rfl,rfl,b,n,h1,F,e,?_,λZ U v g2=>?_,λv u T=>?_⟩
      .rw[n.length];exact ç C.2 (fits (à _))
      .rw[v]at a;exact(Post.shift z a).val i g2
      .rw[v]at a;have j:=i.writex E b.nf (o:=DN X.prog X.w c (storedH xs I B u));exact(Post.shift (z.trans j) a).val (i.write E b.nf (.inr ⟨_,zT,(LG n h1 F e A T).ex0 j.toEx0⟩)) (A.ext j)
     .exact a.elim
    .exact a.elim
def Zo(z:X.A.units+64<cLine)(d:zP X W o f)(b:EK X W (e::es) af)
  (hbase:attributeBase o "setdefault" X.env (eval o X.env)=eval o X.env:=by rfl)
  (hfew:((backTo pos (starEach (e::es) X.env)).all (λx=>!x.1)&&(backToKw pos (keywordEach [] X.env)).all (λx=>x.1.isSome)
   &&decide ↑3)=true:=by rfl)
  (hline:(apos.endLine==pos.line)=true:=by rfl) (hs:q9 X e es:=by rfl) (hplain:Q1 X pos es:=by rfl):
  zP X W (.Call (.Attribute o "setdefault" apos) (e::es) [] pos) (λρ S=>(f ρ S).bind λp S1=>if qS p S1=true then(af ρ S1).bind λrs S2=>Wt p rs S2 else .no):=by
 obtain⟨to,d,C⟩:=d;obtain⟨t,b,k⟩:=b;refine⟨_,LR AM PySem.F.plainAttrs_dict PySem.F.slot_dict_setdefault PySem.F.type_dict_setdefault (Zl z) d b hbase hfew hline hs hplain,λα ρ S σ H Q w sl q=>C α ρ S σ H _ w sl (q.bind λu p S1 a H1 G r n s h=>?_)⟩;split at h
 .rename_i i;obtain⟨⟨l,kvs⟩,i⟩:=ñ.mp i;obtain⟨c,xs,rfl,_,_,y,_⟩:=tK n i s.1;exact⟨⟨c,xs,rfl,y⟩,k a ρ S1 σ H1 _ n (sl.ext r) ((h.shift r).bind λvs rs S2 j v I m D E B=>Zn p rs _ vs j S2 H1 v Q a D m (s.1.ext m) E B)⟩
 .exact h.elim
end
def VAt(d:Addr)(us:A0)(ep:Nat)(h:Heap):Prop:= ∃o es,h.get? d=some o/\o.ExactDict/\o.data=.dict es ep/\es.toList.map (·.val)=us
def VAt.at{d:Addr}{us:A0}{ep:Nat}{h h':Heap}(x:VAt d us ep h)(m: ∀o,h.get? d=some o->h'.get? d=some o):VAt d us ep h':=let ⟨o,es,a,r⟩:=x;⟨o,es,m o a,r⟩
theorem VAt.size{d:Addr}{us:A0}{ep:Nat}{h:Heap}(x:VAt d us ep h): ∃o es,h.get? d=some o/\o.ExactDict/\o.data=.dict es ep/\es.size=us.length/\ ∀i (hi:i<es.size),us[i]? =some es[i].val:=by obtain⟨o,es,a,b,hd,e⟩:=x;refine⟨o,es,a,b,hd,by rw[<-e,lM,í],λi hi=>?_⟩;rw[<-e,ö,ò,đ hi];rfl
section
variable{X:Cx}{o:Expr}{apos pos:Pos}{to:TE}{T:String}{name:Str}{id:String}{r:V->List V->Hp->VK->Prop}
def Lh{d:V->Hp->Prop}(b:rX X T d)(j:PlainAttrs T)(a:Slot T name id)(c:typeOf (.builtin id)=pure (.type "method_descriptor"))(q:Hr X id r)(m:PE X o to)
  (hbase:attributeBase o name X.env (eval o X.env)=eval o X.env) (hline:(apos.endLine==pos.line)=true):PE X (.Call (.Attribute o name apos) [] [] pos) (λσ H Q=>to σ H λx H1=>d x H1/\r x [] H1 Q):=by
 intro pins s σ H Q I h;refine wpAny_Call_method0_late hbase hline (kY (m pins s σ H _ I h) λv i ⟨x,H1,I1,e,k,n⟩=>?_);obtain⟨h1,p⟩:=b pins i σ H1 x v I1 e k;exact⟨T,id,j,a,c,h1,p,Calls.callWith_builtin rfl (PySem.evalArgs_none (q pins i σ H1 x [] v [] Q I1 e .nil n))⟩
theorem VY{α:B9}{H:Hp}: ∀{kvs:K6}{xs:List (NK×Addr×ń)},DenN X.K α H kvs xs-> ∃ys,DenL X.K α H (kvs.map (·.2)) ys/\Vals ys (xs.map (·.2.2))
 |_,_,.nil=>⟨[],zZ,.nil⟩
 |_,_,.cons hk e a d r l=>by obtain⟨ys,h1,b⟩:=VY l;exact⟨_::ys,zS d h1,.cons r b⟩
end
end M
end L2
namespace L2
open PySem PySem.Spec PyProof.Rows
open Builtin Builtin.ObjectAttr
section
variable{h:Heap}{x:Addr}{o:Obj}{v:ń}{name:Str}
def SetAt(h h':Heap)(x:Addr)(o:Obj)(name:Str)(v:ń)(a:Addr):Prop:=
 h.get? a=none/\a≠x/\h'.get? x=some {cls:=o.cls,dict:=some a,data:=o.data,slots:=o.slots}/\h'.Ns1 a (λy=>if y=name then some v else none)/\ ∀b c,b≠x->h.get? b=some c->h'.get? b=some c
end
noncomputable abbrev BIG:Nat:=10 ^ 100
section
variable{i:Nat}{σ:St}{H:Hp}
def tJ(i:Nat):TE:=λσ H Q=> ∃n,σ[i]? =some (some (.int n))/\n.natAbs<BIG/\ ∀y:Str,Q (.str y) H
end
namespace M
structure XIn(K:J9)(M C f:Addr):Prop where
 ex: ∃nm q N bs sn sub ab col dd k0 k1 k2 k3 k5,K.lookup C=some (excClassObj nm q C N bs (.ref M::E8) true sn sub ab col dd k0 k1 k2 k3 k5 "ValueError.__new__")/\PySem.W.nsOkIn K N=true/\PySem.W.nsIn K N "__init__"=some (some (.ref f))/\ ∀n∈qn,PySem.W.nsIn K N n=some none
 fo: ∃o,K.lookup f=some o/\o.cls=.type "function"
def XIn.cl{K:J9}{M C f:Addr}(x:XIn K M C f):XCl K C (.ref M::E8) (some (.ref f)):=by obtain⟨n,q,N,bs,j,h,o,e,k,m,k1,k2,i,p,a,b,c,d⟩:=x.ex;exact⟨n,q,N,bs,true,j,h,o,e,k,m,k1,k2,i,p,a,b,c,d,rfl⟩
structure DefM(K:J9)(mg:H9)(x:Str)(st:Stmt):Prop where
 ex: ∃f fd,mg x=some (.ref f)/\Fun K x x st f fd
def def_mk{K:J9}{mg:H9}{h:Heap}{x:Str}{st:Stmt}{g:Addr}{od i:Option Addr}{sl:Array (Option ń)}{e kV d b cd ct:ń}(a:PySem.W.nsIn K mainGlobals x=some (some (.ref g)))
  (l:K.lookup g=some ⟨e,od,.func (PySem.W.fnOf x x (oO st) (gX st) (zR st) .none kV d b i cd ct),sl⟩) (c:PySem.W.codeIn K cd x=true) (k:PySem.W.keepIn K (.ref g)=true) (X:K.In h) (GG:h.Ns mainGlobals mg):DefM K mg x st:=⟨_,_,PySem.W.mg_of X GG a,Qm l c k⟩
structure Cal(P:ņ)(w:World)(K:J9)(mg:H9)(base:Heap)(CX:XU)(x:Str)(k:Nat)(ps:C0)(sp:Sp):Prop where
 ex: ∃fa fd,FnOk P w K mg base CX k fa fd ps sp/\mg x=some (.ref fa)/\PySem.W.keepIn K (.ref fa)=true/\Binds K fd ps []
abbrev ZF(P:Program)(w:World)(K:J9)(mg:H9)(base:Heap)(x:Str)(k n:Nat)(ps:C0)(F:List MV->Sto->R Er):Prop:=Cal P w K mg base EB x k ps (SD ⟨K,mg,P,w⟩ n F)
abbrev Zp(P:Program)(w:World)(K:J9)(mg:H9)(base:Heap)(x:Str)(k n:Nat)(ps:C0)(F:List MV->Sto->R Er):Prop:=Cal P w K mg base (CXe P w) x k ps (spX ⟨K,mg,P,w⟩ n F)
section
variable{P:ņ}{w:World}{K:J9}{mg:H9}{base:Heap}{x:Str}{st:Stmt}{ps:C0}{k n:Nat}{F:List MV->Sto->R Er}
abbrev De(x:Str)(st:Stmt)(ps:C0):Prop:= ∀(kV a c:Value)(d:Option Addr)(b ct:Value)(us:A0),us.length=ps.length->bindArgs (PySem.W.fnOf x x (oO st) (gX st) (zR st) .none kV a c d b ct) ⟨us,[]⟩=pure (ps.zip us)
def okC(D:DefM K mg x st)(b:De x st ps)(h: ∀f fd,Fun K x x st f fd->FnOk P w K mg base EB k f fd ps (SD ⟨K,mg,P,w⟩ n F)):ZF P w K mg base x k n ps F:=
 let ⟨f,fd,m,a⟩:=D.ex;⟨f,fd,h f fd a,m,a.kp,a.binds b⟩
def Cal.noX(G:Zp P w K mg base x k n ps F):ZF P w K mg base x k n ps F:=let ⟨fa,fd,G,m,a,b⟩:=G.ex;⟨fa,fd,G.noX,m,a,b⟩
def Uw{l:PySem.W.OpenLaw}{fa:Addr}{p:Str}(D:DefM K mg x st)(a:mg x=some (.ref fa))(i: ∀(kV b e:ń)(j:Option Addr)(c ct:ń)(s:Ń)(v:ń),BindsTo s (PySem.W.fnOf x x (oO st) (gX st) (zR st) .none kV b e j c ct) ⟨[v],[]⟩ [(p,v)])
  (h: ∀base f fd,Fun K x x st f fd->FnOk l.prog w K mg base EB k f fd [p] (SD ⟨K,mg,l.prog,w⟩ 1 F)):
  ∃fd:FuncData,(∀(s:Ń)(v:ń),BindsTo s fd ⟨[v],[]⟩ [(p,v)])/\ ∀base:Heap,K.In base->base.Ns mainGlobals mg->FnOk l.prog w K mg base EB k fa fd [p] (IV K F):=by
 obtain⟨f,fd,m,d⟩:=D.ex;rw[a]at m;cases m;refine⟨fd,?_,λbase _ _=>(h base fa fd d).imp λvs H Q E=>Ck (g:=⟨K,mg,_,w⟩) vs H Q E⟩;obtain⟨_,_,_,_,_,_,_,_,_,rfl,_,_⟩:=d.ex;exact i _ _ _ _ _ _
end
section
variable{X:Cx}{W:XW}{e:Expr}{es:J8}{af:Rho->Sto->R (List Er)}{k n:Nat}{ps:C0}{F:List MV->Sto->R Er}{x:Str}{p pos:Pos}
def Df(G:ZF X.prog X.w X.K X.mg X.base x k n ps F)(h:Room k X.A)(c:Gl X x)(d:EK X W (e::es) af)(a:(x==("__debug__":Str))=false:=by decide)
  (he:q9 X e es:=by rfl) (hpl:Q1 X pos es:=by rfl):zP X W (.Call (.Name x p) (e::es) [] pos) (λρ S=>(af ρ S).bind λrs S1=>zH n F rs S1):=
 let ⟨_,_,G,m,i,b⟩:=G.ex;Jg G h c m i b d a he hpl
end
end M
end L2
namespace L2
open PySem PySem.Spec PyProof.Rows
structure RoomH(k:Nat)(A:Ņ):Prop where
 dp:A.depth+3 * k+5<recursionLimit
 un:A.units+16 * k+200<cLine
def RoomH.depth{k:Nat}{A:Ņ}(r:RoomH k A):A.depth<recursionLimit:=by have:=r.dp;omega
def RoomH.units{k:Nat}{A:Ņ}(r:RoomH k A):A.units+64<cLine:=by have:=r.un;omega
structure FnOkH(P:ņ)(w:World)(K:J9)(mg:H9)(base:Heap)(k:Nat)(f:Addr)(fd:FuncData)(ps:C0)(sp:Sp):Prop where
 len: ∀vs H Q E,sp vs H Q E->vs.length=ps.length
 run: ∀(A:Ņ)(outer:List Env)(s:Ń)(H:Hp)(args:Args)(us:A0)(vs:List V)(Q:VK)(E:XK),RoomH k A->HdA A H->Env0 P w K mg base A outer s H->BindsTo s fd args (ps.zip us)->Vals vs us->sp vs H Q E->
  codeAny (model P w) A (.call (.ref f) args) (CR EB outer P w H s Q E) s
namespace M
section
variable{P:ņ}{w:World}{K:J9}{mg:H9}{base:Heap}{x:Str}{ps:C0}{k n:Nat}{F:List MV->Sto->R Er}
structure CalH(P:ņ)(w:World)(K:J9)(mg:H9)(base:Heap)(x:Str)(k n:Nat)(ps:C0)(F:List MV->Sto->R Er):Prop where
 ex: ∃fa fd,FnOkH P w K mg base k fa fd ps (SD ⟨K,mg,P,w⟩ n F)/\mg x=some (.ref fa)/\PySem.W.keepIn K (.ref fa)=true/\Binds K fd ps []
end
noncomputable def Zq(kvs:K6)(S:Sto):R Er:=.ok (.val (.loc ↑1)) (S++[.dic kvs])
section
variable{X:Cx}{o e:Expr}{es:J8}
noncomputable def qU(ks:List (Key×V))(k:Key):Option V:=(ks.find? λp=>decide (p.1=k)).map (·.2)
theorem LT: ∀{ks:List (Key×V)}{vs:List (Key×ń)}(r:KV ks vs)(k:Key),(∀v,qU ks k=some v-> ∃u,valueAt vs k=some u/\RelV v u)/\(qU ks k=none->valueAt vs k=none)
 |_,_,.nil,k=>⟨λv h=>(nomatch h),λ_=>rfl⟩
 |(a,x)::ks,(b,u)::vs,.cons ⟨h1,h2⟩ l,k=>by
  cases h1;have d:=LT l k;unfold qU valueAt;by_cases c:a=k
  .simp only[find?_cons,c];exact⟨λv h=>⟨u,rfl,by cases h;exact h2⟩,λh=>nomatch h⟩
  .simp only[find?_cons,c];exact d
theorem AN{α:B9}{H:Hp}: ∀{kvs:K6}{ks:List (Key×V)}{k:MV}{k':Key},DenK X.K α H kvs ks->KeyD k k'->(∀d,look kvs k=some d-> ∃v,qU ks k'=some v/\Den X.K α H d v)/\(look kvs k=none->qU ks k'=none)
 |_,_,_,_,.nil,_=>⟨λd h=>(nomatch h),λ_=>rfl⟩
 |_,_,k,k',.cons (k:=k0) (k':=k0') (v:=v0) h1 h2 l,hk=>by
  have a:=AN l hk;rw[yY];unfold qU;by_cases c:k0=k
  .subst c;have:=LQ h1 hk;simp only[find?_cons,this];exact⟨λd h=>⟨v0,rfl,by cases h;exact h2⟩,λh=>nomatch h⟩
  .have b: ¬k0'=k':=λz=>c (FB h1 (z▸hk));simp only[find?_cons,b,iN c];exact a
def TyK(X:Cx)(x:V)(H:Hp):Prop:= ∃d a,x=.ref d/\DK X H d a
def LU:rX X "dict" (TyK X):=by intro pins s σ H x v I h ⟨d,j,e,i⟩;subst e;cases h;obtain⟨_,hs,vs,k,o,es,ep,b,c,_⟩:=iZ I i;exact⟨⟨o,b,c.1⟩,λa e=>by cases e;exact⟨o,b,c.2.1⟩⟩
end
section
variable{α β:Type}
def vJ(i:Nat)(ρ:Rho)(S:Sto):R Er:=Ii (ρ[i]?) S
noncomputable def kJ(d:MV)(_:Rho)(S:Sto):R Er:=.ok (.val d) S
noncomputable def bJ(f:Rho->Sto->R α)(F:α->Sto->R β)(ρ:Rho)(S:Sto):R β:=(f ρ S).bind F
noncomputable def dJ(F:Er->Er->Sto->R Er)(f g:AX)(ρ:Rho)(S:Sto):R Er:=(f ρ S).bind λp S=>(g ρ S).bind λq S=>F p q S
def nJ(f:AX)(ρ:Rho)(S:Sto):R Er:=(f ρ S).bind λp S=>(nO p S).bind λk S=>.ok (.val (.bl !k)) S
def aJ(f g:AX)(ρ:Rho)(S:Sto):R Er:=(f ρ S).bind λp S=>andF p S λS=>g ρ S
def oJ(f g:AX)(ρ:Rho)(S:Sto):R Er:=(f ρ S).bind λp S=>orF p S λS=>g ρ S
noncomputable def iJ(c:AZ)(f g:Rho->Sto->R α)(ρ:Rho)(S:Sto):R α:=(c ρ S).bind λk S=>if k=true then f ρ S else g ρ S
noncomputable def mJ(_:Rho)(S:Sto):R (Option Int):=.ok none S
noncomputable def tJ(F:Er->Option Int->Option Int->Sto->R Er)(f:AX)(g h:Rho->Sto->R (Option Int))(ρ:Rho)(S:Sto):R Er:=(f ρ S).bind λp S=>(g ρ S).bind λl S=>(h ρ S).bind λu S=>F p l u S
def lJ(k:K6)(_:Rho)(S:Sto):R Er:=Zq k S
def zJ(_:Rho)(S:Sto):R Er:=ES S
def fJ(n:Nat)(F:List MV->Sto->R Er)(a:Rho->Sto->R (List Er))(ρ:Rho)(S:Sto):R Er:=(a ρ S).bind λr S=>zH n F r S
def xJ(n:Nat)(F:List MV->Sto->R Er)(a:Rho->Sto->R (List Er))(ρ:Rho)(S:Sto):R Er:=(a ρ S).bind λr S=>VG n F r S
def hJ(F:List MV->Sto->R Er)(_:Rho)(S:Sto):R Er:=zH 0 F [] S
noncomputable def eJ(t:Er->Sto->Bool)(F:Er->List Er->Sto->R Er)(f:AX)(a:Rho->Sto->R (List Er))(ρ:Rho)(S:Sto):R Er:=(f ρ S).bind λp S=>if t p S=true then(a ρ S).bind λr S=>F p r S else .no
noncomputable def gJ(t:Er->Sto->Bool)(F:Er->List Er->Sto->R Er)(f:AX)(ρ:Rho)(S:Sto):R Er:=(f ρ S).bind λp S=>if t p S=true then F p [] S else .no
noncomputable def uJ(_:Rho)(S:Sto):R Bool:=.ok true S
def pJ(i:Rho->Sto->R Wk)(g:MV->Rho->Sto->R Rho)(c:AZ)(e:AX)(n:Nat)(I:Db)(ρ:Rho)(S:Sto):R Er:=(i ρ S).bind λk S=>if k.ds.length<1000000 then(zX g c e (rW n I ρ) k.gs k.ds S).bind λo S=>.ok (.new o) S else .no
def jJ(F G:Er->Er->Sto->R Er)(f g h:AX)(ρ:Rho)(S:Sto):R Er:=(f ρ S).bind λp S=>(g ρ S).bind λq S=>chF F G p q S λS=>h ρ S
noncomputable def qJ(f:AZ)(ρ:Rho)(S:Sto):R Bool:=(f ρ S).bind λk S=>.ok (!k) S
noncomputable def rJ(f g:AZ)(ρ:Rho)(S:Sto):R Bool:=(f ρ S).bind λk S=>if k=true then g ρ S else .ok false S
noncomputable def sJ(f g:AZ)(ρ:Rho)(S:Sto):R Bool:=(f ρ S).bind λk S=>if k=true then .ok true S else g ρ S
noncomputable def wJ(_:Rho)(S:Sto):R (List Er):=.ok [] S
noncomputable def yJ(f:AX)(g:Rho->Sto->R (List Er))(ρ:Rho)(S:Sto):R (List Er):=(f ρ S).bind λp S=>(g ρ S).bind λl S=>.ok (p::l) S
noncomputable def AJ(f:AX)(ρ:Rho)(S:Sto):R Fl:=(f ρ S).bind λr S=>.ok (.ret r) S
noncomputable def BJ(f:AX)(ρ:Rho)(S:Sto):R Fl:=(f ρ S).bind λ_ S=>.ok (.next ρ) S
def CJ(f:AX)(i:Nat)(ρ:Rho)(S:Sto):R Fl:=(f ρ S).bind (EM ρ i)
noncomputable def DJ(F:Er->Er->MV->Rho->Sto->R Rho)(f g:AX)(d:MV)(ρ:Rho)(S:Sto):R Rho:=(f ρ S).bind λp S=>(g ρ S).bind λq S=>F p q d ρ S
def EJ(f:AX)(g:MV->Rho->Sto->R Rho)(ρ:Rho)(S:Sto):R Fl:=(f ρ S).bind (Iu g ρ)
def FJ(i:Rho->Sto->R Wk)(g:MV->Rho->Sto->R Rho)(b:AY)(ρ:Rho)(S:Sto):R Fl:=(i ρ S).bind λk S=>wK g b k.gs k.ds ρ S
noncomputable def GJ(a:Rho->Sto->R (List Er))(c:Str)(ρ:Rho)(S:Sto):R Fl:=(a ρ S).bind λr S=>if r.length<=10 then .exc c [] S else .no
def HJ(cs:C0)(i:Nat)(h:AY)(n:Nat)(F:List MV->Sto->R Er)(a:Rho->Sto->R (List Er))(ρ:Rho)(S:Sto):R Fl:=(noX (a ρ S)).bind λr S=>Ts cs i (λ_ S=>.ok (.next ρ) S) h ρ (VG n F r S)
def IJ(cs:C0)(i j:Nat)(h:AY)(n:Nat)(F:List MV->Sto->R Er)(a:Rho->Sto->R (List Er))(ρ:Rho)(S:Sto):R Fl:=(noX (a ρ S)).bind λr S=>Ts cs i (EM ρ j) h ρ (VG n F r S)
noncomputable def JJ(ρ:Rho)(S:Sto):R Fl:=.ok (.next ρ) S
end
section
variable{p:Pos}{f:AX}
def augF(F:Er->Er->Sto->R Er)(i:Nat)(f:AX)(ρ:Rho)(S:Sto):R Fl:=(Ii (ρ[i]?) S).bind λp S1=>(f ρ S1).bind λq S2=>(F p q S2).bind (EM ρ i)
end
def KJ(n:Nat)(F:List MV->Sto->R Er)(a:Rho->Sto->R (List Er))(ρ:Rho)(S:Sto):R Er:=(noX (a ρ S)).bind λr S=>VG n F r S
def LJ(c:AZ)(f g:AX)(ρ:Rho)(S:Sto):R Er:=(noX (c ρ S)).bind λk S=>if k=true then f ρ S else g ρ S
def MJ(cs:C0)(i:Nat)(h:AY)(f:AX)(ρ:Rho)(S:Sto):R Fl:=Ts cs i (λ_ S=>.ok (.next ρ) S) h ρ (f ρ S)
end M
end L2
namespace L2
open PySem PySem.Spec PyProof.Rows
namespace M
section
variable{f:AX}{af:Rho->Sto->R (List Er)}{p:Pos}{m:Str}
def selM(m:Str)(l:List (Str×(List MV->Sto->R Er))):Er->Option (List MV->Sto->R Er)
 |.val (.obj c ns _)=>if m∈ns then none else l.lookup c
 |_=>none
def NJ(m:Str)(n:Nat)(l:List (Str×(List MV->Sto->R Er)))(f:AX)(af:Rho->Sto->R (List Er))(ρ:Rho)(S:Sto):R Er:=(f ρ S).bind λp S=>match selM m l p with
 |some F=>(af ρ S).bind λr S=>zH n F (p::r) S
 |none=>.no
end
section
variable{X:Cx}{W:XW}{a b o i e:Expr}{f g:AX}{pos:Pos}{α:B9}{H:Hp}{pins:J5}{σ:St}{s:Ń}
def Ux:MV->Option Key
 |.int i=>some (.inl i)
 |.str x=>some (.inr (cH x))
 |_=>none
def Dg: ∀{k:MV}{k':Key},Ux k=some k'->KeyD k k'
 |.int i,_,h=>by cases h;exact rfl
 |.str x,_,h=>by cases h;exact rfl
 |.non,_,h=>nomatch h
 |.bl _,_,h=>nomatch h
 |.tup _,_,h=>nomatch h
 |.scr _,_,h=>nomatch h
 |.loc _,_,h=>nomatch h
 |.typ _,_,h=>nomatch h
 |.obj _ _ _,_,h=>nomatch h
def Dh: ∀{k:MV}{k':Key}{v:V},Ux k=some k'->Den X.K α H k v->v=kV k'
 |.int i,_,_,h,d=>by cases h;exact xN d
 |.str x,_,_,h,d=>by cases h;exact xO d
 |.non,_,_,h,_=>nomatch h
 |.bl _,_,_,h,_=>nomatch h
 |.tup _,_,_,h,_=>nomatch h
 |.scr _,_,_,h,_=>nomatch h
 |.loc _,_,_,h,_=>nomatch h
 |.typ _,_,_,h,_=>nomatch h
 |.obj _ _ _,_,_,h,_=>nomatch h
def VZ: ∀{k:Key}{u:ń},RelV (kV k) u->(kZ X.prog X.w).is k u=true
 |.inl i,_,h=>by obtain⟨t,rfl⟩:=(h: ∃t,_=_);exact BG _ _ i t
 |.inr x,_,h=>by obtain⟨t,rfl⟩:=(h: ∃t,_=_);exact qE _ _ x t
def tP(k:MV):Bool:=(Ux k).isSome
def Zr{kvs:K6}{d:Addr}(ob:ObD X.g α H d (.dic kvs))(i:kvs.all (λp=>tP p.1)=true): ∃b,DK X H d b/\DenK X.K α H kvs b:=by
 rcases ob with⟨b,h,l⟩|⟨xs,h,l⟩
 .exact⟨b,.inl h,l⟩
 .cases l with
  |nil=>exact⟨[],.inr ⟨rfl,h⟩,.nil⟩
  |@cons k nk a d v u fs xs hn e ha hd r l=>
   rw[List.all_cons,aE]at i;obtain⟨j,c⟩:=ñ.mp i.1;have:=Dh c ha;cases j<;>cases this
def AO(S:Sto):Er->Option (Nat×List (MV×MV))
 |.val (.loc l)=>match S[l]? with
  |some (.dic kvs)=>if kvs.all (λp=>tP p.1)=true then some (l,kvs)else none
  |_=>none
 |_=>none
def Li{S:Sto}(j:Wd X.g α S H){r:Er}{x:V}{l:Nat}{kvs:K6}(e:AO S r=some (l,kvs))(d:DenX X.K α H r x):
  ∃c a,x=.ref c/\α[l]? =some c/\S[l]? =some (.dic kvs)/\DK X H c a/\DenK X.K α H kvs a/\kvs.all (λp=>tP p.1)=true:=by
 unfold AO at e;split at e
 .rename_i n;obtain⟨c,rfl,h⟩:=fB d;split at e
  .rename_i a i;split at e
   .rename_i b;obtain⟨rfl,rfl⟩:=Prod.mk.inj (ä e);obtain⟨xs,k,l⟩:=Zr (j.obj _ c _ h i) b;exact⟨c,xs,rfl,h,i,k,l,b⟩
   .cases e
  .cases e
 .cases e
def SY{ks:List (Key×V)}{d:Addr}(a:DK X H d ks):Pe (H d):=by rcases a with z|⟨_,z⟩<;>rw[z]<;>exact trivial
def Zs(X:Cx):TSet:=λo i v H Q=> ∃(ks:List (Key×V))(d:Addr)(k:Key),o=.ref d/\i=kV k/\DK X H d ks/\ks.length<sizeLine/\Q (wC H d (.dK (qQ ks k v)))
theorem ZG:Hd X (Zs X):=by
 intro pins s σ H o i v ov G u Q I r n B h;obtain⟨y,d,k,rfl,rfl,j,J,q⟩:=h;cases r;obtain⟨z,hd,vs,c,C⟩:=iZ I j;have E:=Paired.length c;have D:=uU y k v;refine wpAny_setItem_pairs (VZ n) C λh' a e=>⟨_,?_,q⟩
 have w: ∃q,h'.get? d=some q:=let ⟨q,_,_,p,_⟩:=a;⟨q,p⟩;exact I.write (SY j) (.inl rfl) (λb F m A=>(e.2 b m).trans A) w ⟨by lia,hd,_,SW c _ B,a⟩
def JC(p q:Er)(d:MV)(ρ:Rho)(S:Sto):R Rho:=match q with
 |.val k=>match AO S p with
  |some (l,kvs)=>if tP k=true/\kvs.length<1000000 then .ok ρ (S.set l (.dic (putK kvs k d)))else .no
  |none=>.no
 |_=>.no
def Lj(r:zP X W o f)(hi:zP X W i g)
  (ha: ∀v,assign (.Subscript o i pos) X.env v=(do
   let ov <-holding [v] (eval o X.env);let z <-holding [v,ov] (eval i X.env)
   standAt pos
   holding [v,ov,z] (setItem ov z v)
   release [v,ov,z] []):=by intro _;rfl):YI X W (.Subscript o i pos) (λd ρ S=>(f ρ S).bind λp S1=>(g ρ S1).bind λq S2=>JC p q d ρ S2):=by
 obtain⟨to,r,N⟩:=r;obtain⟨ti,hi,M⟩:=hi;refine⟨_,RN r hi ZG ha,λα ρ S σ H d v Q K sl L q=>N α ρ S σ H _ K sl (q.bind λu p S1 A H1 e1 j O T P=>M A ρ S1 σ H1 _ O (sl.ext j) ((P.shift j).bind λZ p2 S2 B Y e2 h y U a=>?_))⟩
 replace a:=a.shift h
 have C:=DenX.ext h T.1;have s:=(L.ext j).ext h;unfold JC at a;split at a
 .rename_i k;split at a
  .rename_i l kvs e;split at a
   .rename_i G;obtain⟨c,F,rfl,J,hS,n,D,E⟩:=Li y e C;obtain⟨I,b⟩:=ñ.mp G.1;refine⟨F,c,I,rfl,Dh b U.1,n,?_,?_⟩
    .rw[D.length];exact ç G.2 (fits (à _))
    .have m:=y.writex J n.nf (o:=.dK (qQ F I v));have w:=((sl.ext j).ext h).ext m;exact a σ B _ m (y.write J n.nf (.inl ⟨_,zT,(FD D (Dg b) s).ex0 m.toEx0⟩)) w
   .exact a.elim
  .exact a.elim
 .exact a.elim
end
def SZ(p:Er)(S:Sto):Bool:=(AO S p).isSome
section
variable{X:Cx}{W:XW}{α:B9}{H:Hp}
def AQ:List Er->Sto->R Er
 |[r],S=>match AO S r with |some (_,kvs)=>.ok (.new (kvs.map (·.1))) S|none=>.no
 |_,_=>.no
def Di(j:X.calm=true):sG X W (λxs H Q=> ∃d b,xs=[.ref d]/\DK X H d b/\X.calm=true/\ ∀l,H l=none->Q (.ref l) (wC H l (.lst (b.map λp=>kV p.1)))) AQ:=by
 intro rs vs α S H Q h d a;unfold AQ at a;split at a
 .split at a
  .rename_i n kvs e;obtain⟨v,rfl,k⟩:=sI d;obtain⟨c,b,rfl,h1,q,i,o,_⟩:=Li h e k;exact⟨c,b,rfl,i,j,λl m=>Post.newl a h m (JB o)⟩
  .exact a.elim
 .exact a.elim
end
def shrC(i j:Int):Prop:=0<=j
instance(i j:Int):Decidable (shrC i j):=inferInstanceAs (Decidable (_<=_))
end M
end L2
namespace PySem
def LV:typeLookup (.type "list") "keys"=pure none:=am_miss_of_fast (by decide+kernel)
def getAttr?_miss_list{prog:ņ}{w:World}{A:Ņ}{E:VP}{s:Ń}{a:Addr}{o:Obj}{xs:B0}{k:Nat}{name:Str}{Q:Option ń->Ń->Prop}
  (hx:s.heap.get? a=some o) (hc:o.cls=.type "list") (hdat:o.data=.seq xs k) (hd:o.dict=none) (hmiss:typeLookup (.type "list") name=pure none) (hname:(["__module__","__name__","__qualname__","__doc__","__annotations__"]:C0).contains name=false) (hA:A.handled=none)
  (h: ∀h' m,(∀b o,s.heap.get? b=some o->h'.get? b=some o)->Q none {s with heap:=h',toks:=m}) (hsz:name.length+100<=sizeLine:=by size_fits):
  wpAny (model prog w) A (getAttr? (.ref a) name) Q E s:=by
 obtain⟨c,r,q,sl⟩:=o;simp only at hc hdat hd;subst hc hdat hd;obtain⟨p,g,d,m,u⟩:=s;have n: ∀j,(⟨p,g,d,j,u⟩:Ń).TypeIs (.ref a) "list":=λ_=>⟨_,hx,rfl⟩
 have B:=sub_AttributeError;have z:=F.slot_list_getattribute.lookup;have y:=F.slot_list_getattribute.bind (.ref a);have C:=am_list_getattr_none;unfold getAttr? getAttrBy? getAttrBy
 repeat (any_goals (first |assumption|exact n _|((with_reducible show wpAny _ _ (call (Value.builtin "list.__getattribute__") _ _) _ _ _);refine call_meets F.slot_list_getattribute (n _) am_entry_list_getattribute (F.args_list_getattribute_2 _ _) (meets_getattribute_miss_list a xs k sl name _ hmiss hname hsz) ⟨hx,hA,λh' j e i=>?_⟩)|wp_step))
 obtain⟨t',v,D⟩:=i.there;show wpAny _ _ (getattributeRaised _ _ _ _ _ _ _) _ _ _;unfold getattributeRaised
 repeat (any_goals (first |assumption|wp_step))
 exact h _ _ i.keeps
namespace F
def entry_dict_update_loop:entryFor table "dict.update.loop"=some Builtin.«dict.update.loop»:=entryFor_of_tree (by kernel_rfl)
def plain_dict_update_loop:plainId "dict.update.loop"=true:=by decide+kernel
end F
open PyProof.Rows
end PySem
namespace L2
namespace M
open PySem PySem.Spec PyProof.Rows
variable{xs:List (NK×Addr×ń)}
section
variable{X:Cx}{α:B9}{H:Hp}
def WA(ps:List (Key×V)):List (Key×V):=ps.foldl (λa p=>qQ a p.1 p.2) []
def WB{ps:List (Key×V)}{a:List (Key×ń)}(r:KV ps a): ∀{as:List (Key×V)}{bs:List (Key×ń)},KV as bs->KV (ps.foldl (λb p=>qQ b p.1 p.2) as) (merged bs a):=by
 induction r with
 |nil=>intro as bs h;exact h
 |@cons p q ps a h t ih=>
  intro as bs c;rw[Ŀ];show KV _ _;rw[h.1];exact ih (SW c _ h.2)
theorem ZH(ps:List (Key×V)):(WA ps).length<=ps.length:=by
 have: ∀(ps as:List (Key×V)),(ps.foldl (λa p=>qQ a p.1 p.2) as).length<=as.length+ps.length:=by
  intro ps
  induction ps with
  |nil=>intro as;exact à _
  |cons p ps ih=>
   intro as;rw[Ŀ,lC];have:=ih (qQ as p.1 p.2);have:=uU as p.1 p.2
   lia
 have:=this ps [];rw[ÿ,ă]at this;exact this
def Og(ps:K6):List (MV×MV):=ps.foldl (λa p=>putK a p.1 p.2) []
theorem AR: ∀{kvs:K6}{ps:List (Key×V)},DenK X.K α H kvs ps-> ∀{as:K6}{bs:List (Key×V)},DenK X.K α H as bs->DenK X.K α H (kvs.foldl (λb p=>putK b p.1 p.2) as) (ps.foldl (λb p=>qQ b p.1 p.2) bs)
 |_,_,.nil,as,bs,h=>h
 |_,_,.cons hk a l,as,bs,h=>by exact AR l (FD h hk a)
def LW:bootBuiltins "dict"=some (.type "dict"):=by decide+kernel
end
section
variable{X:Cx}{W:XW}{b o e:Expr}{es:J8}{f:AX}{af:Rho->Sto->R (List Er)}{apos pos:Pos}{α:B9}{H:Hp}{pins:J5}{σ:St}{s:Ń}
def WC(ks ps:List (Key×V)):List (Key×V):=ps.foldl (λa p=>qQ a p.1 p.2) ks
theorem JD: ∀(ps ks:List (Key×V)),(WC ks ps).length<=ks.length+ps.length
 |[],ks=>à _
 |p::ps,ks=>by
  have h1:=JD ps (qQ ks p.1 p.2);have a:=uU ks p.1 p.2;show(WC (qQ ks p.1 p.2) ps).length<=_;rw[lC]
  lia
def Oh(X:Cx):V->List V->Hp->VK->Prop:=λx vs H Q=> ∃(ks ps:List (Key×V))(d p:Addr),x=.ref d/\vs=[.ref p]/\d≠p/\DK X H d ks/\DK X H p ps/\ks.length+ps.length<2000000/\Q .non (wC H d (.dK (WC ks ps)))
theorem Lk:Hr X "dict.update" (Oh X):=by
 intro pins s σ H x vs v us Q I y K h;obtain⟨w,ps,d,p,rfl,rfl,m,i,A,T,q⟩:=h;obtain⟨N,rfl,D⟩:=vals1 K;cases y;cases D;have G:s.TypeIs _ "dict":=(LU pins s σ H (.ref d) _ I rfl ⟨d,w,rfl,i⟩).1;obtain⟨z,hs,vs,r,M⟩:=iZ I i;obtain⟨P,e,k,a,j⟩:=iZ I A;have O:=Paired.length r;have J:=Paired.length a;have o:=ė
 refine call_meetsIn PySem.F.slot_dict_update G PySem.F.entry_dict_update (PySem.F.args_dict_update_2 _ _) (meets_dict_update _ d p m e)
  ⟨vs,k,M,j,by rw[o];lia,λh' u _ B=>?_⟩
 have n: ∃q,h'.get? d=some q:=let ⟨q,_,_,E,_⟩:=u;⟨q,E⟩;have C:=JD ps w;refine⟨.non,wC H d _,?_,rfl,q⟩;exact I.write (SY i) (.inl rfl) (λb S c L=>(B.2 b c).trans L) n ⟨by rw[o];lia,hs,_,WB a r,u⟩
def kE(kvs ps:K6):List (MV×MV):=ps.foldl (λa p=>putK a p.1 p.2) kvs
def FE(p:Er)(rs:List Er)(S:Sto):R Er:=match rs with
 |[r]=>match AO S p with
  |some (l,kvs)=>match AO S r with
   |some (m,ps)=>if l≠m/\kvs.length+ps.length<1000000 then .ok (.val .non) (S.set l (.dic (kE kvs ps)))else .no
   |none=>.no
  |none=>.no
 |_=>.no
theorem Ll:RZ X W (Oh X) FE:=by
 intro p rs x vs α S H0 H Q E d u v y a;unfold FE at a;split at a
 .rename_i r;split at a
  .rename_i l kvs A;split at a
   .rename_i m ps w;split at a
    .rename_i C
     cases y with
     |cons dv n1 l1=>
     cases l1;obtain⟨c,q,rfl,h1,F,b,n,_⟩:=Li d A v;obtain⟨s,i,rfl,D,B,e,h,_⟩:=Li d w dv.1;have j:c≠s:=λz=>C.1 (by subst z;exact(List.getElem?_inj (gS.mp h1).1 d.nd).mp (h1.trans D.symm));have G:=DenK.length n;have I:=DenK.length h;refine⟨q,i,c,s,rfl,rfl,j,b,e,by lia,?_⟩;have k:=d.writex h1 b.nf (o:=.dK (WC q i));exact(Post.shift (u.trans k) a).val (d.write h1 b.nf (.inl ⟨_,zT,(AR h n).ex0 k.toEx0⟩)) uD
    .exact a.elim
   .exact a.elim
  .exact a.elim
 .exact a.elim
def Lm(d:zP X W o f)(b:EK X W (e::es) af)
  (hbase:attributeBase o "update" X.env (eval o X.env)=eval o X.env:=by rfl)
  (hfew:((backTo pos (starEach (e::es) X.env)).all (λx=>!x.1)&&(backToKw pos (keywordEach [] X.env)).all (λx=>x.1.isSome)
   &&decide ↑3)=true:=by rfl)
  (hline:(apos.endLine==pos.line)=true:=by rfl) (hs:q9 X e es:=by rfl) (hplain:Q1 X pos es:=by rfl):
  zP X W (.Call (.Attribute o "update" apos) (e::es) [] pos) (λρ S=>(f ρ S).bind λp S1=>if SZ p S1=true then(af ρ S1).bind λrs S2=>FE p rs S2 else .no):=by
 obtain⟨to,d,A⟩:=d;obtain⟨t,b,k⟩:=b;refine⟨_,LR LU PySem.F.plainAttrs_dict PySem.F.slot_dict_update PySem.F.type_dict_update Lk d b hbase hfew hline hs hplain,λα ρ S σ H Q w sl q=>A α ρ S σ H _ w sl (q.bind λu p S1 a H1 D r n s h=>?_)⟩;split at h
 .rename_i i;obtain⟨⟨l,kvs⟩,i⟩:=ñ.mp i;obtain⟨c,xs,rfl,_,_,y,_⟩:=Li n i s.1;exact⟨⟨c,xs,rfl,y⟩,k a ρ S1 σ H1 _ n (sl.ext r) ((h.shift r).bind λvs rs S2 j v E m B C z=>Ll p rs _ vs j S2 H1 v Q a B m (s.1.ext m) C z)⟩
 .exact h.elim
end
section
variable{prog:ņ}{w:World}{K:Type}[DecidableEq K]{knd:KeyKind prog w K}
def TSet(knd:KeyKind prog w K)(h:Heap)(a:Addr)(S:K->Bool)(n:Nat)(b:Bool):Prop:=
 ∃o es ep t,h.get? a=some o/\o.ExactSet/\o.data=.set es ep t/\ElemsOf knd es.toList/\(∀k,S k=true↔ ∃e∈es.toList,knd.is k e.2=true)
  /\es.size<scanBound/\t.fits es.size=true/\es.size=n/\t.led=b/\(es.size=0\/t.plain=false)/\(es.toList.map (·.2)).Pairwise (λx y=> ∀k,knd.is k x=true-> ¬knd.is k y=true)
end
def StrT(val:Nat->Key)(i:Nat)(v:ń):Prop:= ∃x t,val i=.inr x/\v=.str x t
def StrT.is{P:ņ}{w:World}{val:Nat->Key}{i:Nat}{v:ń}(h:StrT val i v):(kZ P w).is (val i) v=true/\v.scannable=true/\plainKind v=false:=by obtain⟨x,t,e,rfl⟩:=h;rw[e];exact⟨qE P w x t,rfl,rfl⟩
def SetAt(h:Heap)(D:Addr)(es:Array (Int×ń))(ep:Nat)(t:SetTable):Prop:= ∃o,h.get? D=some o/\o.ExactSet/\o.data=.set es ep t/\t.fits es.size=true
def SetAt.keep{h h':Heap}{D:Addr}{es:Array (Int×ń)}{ep:Nat}{t:SetTable}(x:SetAt h D es ep t)(m: ∀o,h.get? D=some o->h'.get? D=some o):SetAt h' D es ep t:=by obtain⟨o,a,r⟩:=x;exact⟨o,m o a,r⟩
section
variable{X:Cx}{W:XW}
theorem Dj:CallR X (.type "dict") (λxs H Q=> ∃d a,xs=[.ref d]/\DK X H d a/\ ∀p,H p=none->Q (.ref p) (wC H p (.dK a))):=by intro pins s σ H xs us Q I r h;obtain⟨d,a,rfl,n,q⟩:=h;obtain⟨u,rfl,k⟩:=vals1 r;cases k;obtain⟨v,hs,vs,j,hd⟩:=iZ I n;have y:=Paired.length j;refine kt_call_dict hs hd #[0] λh' c i=>?_;have m: ∀b o,s.heap.get? b=some o->h'.get? b=some o:=λb o e=>(i.2 b (ë (â e))).trans (hP0 _ e);refine⟨.ref ↑0,_,I.laid m (à _) (show ObjOk X.prog X.w _ h' _ (.dK a)from⟨v,ļ.mpr (Ne.symm (ë (LH I))),_,j,c⟩),rfl,q _ (I.hok.fresh (à _))⟩
def TB:List Er->Sto->R Er
 |[r],S=>match AO S r with |some (_,kvs)=>.ok (.val (.loc S.length)) (S++[.dic kvs])|none=>.no
 |_,_=>.no
def Uy:sG X W (λxs H Q=> ∃d b,xs=[.ref d]/\DK X H d b/\ ∀p,H p=none->Q (.ref p) (wC H p (.dK b))) TB:=by
 intro rs vs α S H Q h d a;unfold TB at a;split at a
 .split at a
  .rename_i l kvs e;obtain⟨v,rfl,q⟩:=sI d;obtain⟨c,b,rfl,s,u,k,r,_⟩:=Li h e q;refine⟨c,b,rfl,k,λp i=>?_⟩;have j:=h.newx (o:=.dK b) i;obtain⟨x,n⟩:=h.put (m:=.dic kvs) i (.inl ⟨_,zT,r.ex0 ⟨⟨[p],rfl⟩,j.tup,j.frz⟩⟩);exact a _ _ _ x n (DenE.val (oQ (by rw[<-h.len,å (à _),sub_self];rfl)))
  .exact a.elim
 .exact a.elim
end
section
variable{X:Cx}{W:XW}{o e:Expr}{es:J8}{f:AX}{af:Rho->Sto->R (List Er)}{apos pos:Pos}
def rSX(X:Cx):V->List V->Hp->VK->Prop:=λx vs H Q=> ∃(ks:List (Key×V))(d:Addr)(k:Key)(y:V),x=.ref d/\vs=[kV k,y]/\DK X H d ks/\ks.length<sizeLine/\(∀v,qU ks k=some v->Q v H)/\(qU ks k=none->Q y (wC H d (.dK (qQ ks k y))))
theorem Uz:Hr X "dict.setdefault" (rSX X):=by
 intro pins s σ H x vs v us Q I z L h;obtain⟨i,d,k,y,rfl,rfl,j,Y,O,M⟩:=h;obtain⟨S,B,rfl,D,w⟩:=vals2 L;cases z;have r:=(LU pins s σ H (.ref d) _ I rfl ⟨d,i,rfl,j⟩).1;obtain⟨_,hs,ws,n,P⟩:=iZ I j;have U:=Paired.length n;obtain⟨l1,l2⟩:=LT n k;have T:=uU i k y;refine ì PySem.F.slot_dict_setdefault r PySem.F.entry_dict_setdefault ?_ (PySem.F.args_dict_setdefault_3 _ _ _);refine wB ?_;refine wB (ġ r ?_);refine wP ?_;show wpAny _ _ (if _=true then _ else _) _ _ s;rw[iN (by rw[hs];exact xF0)];refine wB (kt_dictSetDefault_pairs (VZ D) P (λu m=>?_) (λN h' c p=>?_) #[0])
 .cases a:qU i k with
  |some v=>
   obtain⟨A,e,G⟩:=l1 v a;rw[m]at e;cases e;exact wP ⟨u,rfl,v,H,I.tok _,G,O v a⟩
  |none=>rw[l2 a]at m;cases m
 .cases a:qU i k with
  |some v=>
   obtain⟨A,e,_⟩:=l1 v a;rw[N]at e;cases e
  |none=>
   have J: ∃q,h'.get? d=some q:=let ⟨q,_,_,E,_⟩:=c;⟨q,E⟩;exact wP ⟨B,rfl,y,_,I.write (o:=.dK _) (SY j) (.inl rfl) (λb W C K=>(p.2 b C).trans K) J ⟨by lia,hs,_,SW n _ w,c⟩,w,M a⟩
def PM(p:Er)(k y:MV)(S1:Sto):R Er:=match AO S1 p with
 |some (l,kvs)=>if tP k=true/\kvs.length<1000000 then(match look kvs k with
  |some d=>.ok (.val d) S1
  |none=>.ok (.val y) (S1.set l (.dic (putK kvs k y))))else .no
 |none=>.no
def Dk(p:Er)(rs:List Er)(S:Sto):R Er:=match rs with
 |[.val k,r]=>(kC r S).bind λy S1=>PM p k y S1
 |_=>.no
def Va:RZ X W (rSX X) Dk:=by
 intro p rs x vs α S H0 H Q n J G I u a
 match rs,u,a with
 |[],_,a=>exact a.elim
 |[.val _],_,a=>exact a.elim
 |.new _::_,_,a=>exact a.elim
 |.val _::_::_::_,_,a=>exact a.elim
 |[.val k,r],u,a=>
  cases u with
  |cons dk n1 l1=>
   cases l1 with
   |cons d n2 l2=>
    cases l2;obtain⟨L,S',α',M,z,E,i,A⟩:=cM J G d;have a:Post X.g W n H0 ((kC r S).bind λy S1=>PM p k y S1) Q:=a;rw[M]at a;have a:Post X.g W n H0 (PM p k L S') Q:=a;unfold PM at a;split at a
    .rename_i l kvs D;split at a
     .rename_i C
      have s:DenX X.K α' H p x:=by
       cases p with
       |val m=>exact Den.ex0 E I
       |new ds=>cases D
      obtain⟨c,N,rfl,o,U,b,q,_⟩:=Li i D s;obtain⟨O,h⟩:=ñ.mp C.1;obtain⟨B,g2⟩:=AN q (Dg h);have T:=Dh h (Den.ex0 E dk.1);subst T;refine⟨N,c,O,_,rfl,rfl,b,?_,λv e=>?_,λe=>?_⟩
      .rw[q.length];exact ç C.2 (fits (à _))
      .cases j:look kvs k with
       |some d2=>
        obtain⟨P,w,F⟩:=B d2 j;rw[w]at e;cases e;rw[j]at a;exact(Post.shift z a).val i F
       |none=>rw[g2 j]at e;cases e
      .cases j:look kvs k with
       |some d2=>obtain⟨P,w,F⟩:=B d2 j;rw[w]at e;cases e
       |none=>
        rw[j]at a;exact(Post.shift (z.trans (i.writex o b.nf)) a).val (i.write o b.nf (.inl ⟨_,zT,(FD q (Dg h) A).ex0 (i.writex o b.nf).toEx0⟩)) (A.ext (i.writex o b.nf))
     .exact a.elim
    .exact a.elim
def Vb(d:zP X W o f)(b:EK X W (e::es) af)
  (hbase:attributeBase o "setdefault" X.env (eval o X.env)=eval o X.env:=by rfl)
  (hfew:((backTo pos (starEach (e::es) X.env)).all (λx=>!x.1)&&(backToKw pos (keywordEach [] X.env)).all (λx=>x.1.isSome)
   &&decide ↑3)=true:=by rfl)
  (hline:(apos.endLine==pos.line)=true:=by rfl) (hs:q9 X e es:=by rfl) (hplain:Q1 X pos es:=by rfl):
  zP X W (.Call (.Attribute o "setdefault" apos) (e::es) [] pos) (λρ S=>(f ρ S).bind λp S1=>if SZ p S1=true then(af ρ S1).bind λrs S2=>Dk p rs S2 else .no):=by
 obtain⟨to,d,A⟩:=d;obtain⟨t,b,k⟩:=b;refine⟨_,LR LU PySem.F.plainAttrs_dict PySem.F.slot_dict_setdefault PySem.F.type_dict_setdefault Uz d b hbase hfew hline hs hplain,λα ρ S σ H Q w sl q=>A α ρ S σ H _ w sl (q.bind λu p S1 a H1 D r n s h=>?_)⟩;split at h
 .rename_i i;obtain⟨⟨l,kvs⟩,i⟩:=ñ.mp i;obtain⟨c,xs,rfl,_,_,y,_⟩:=Li n i s.1;exact⟨⟨c,xs,rfl,y⟩,k a ρ S1 σ H1 _ n (sl.ext r) ((h.shift r).bind λvs rs S2 j v E m B C z=>Va p rs _ vs j S2 H1 v Q a B m (s.1.ext m) C z)⟩
 .exact h.elim
end
section
variable{X:Cx}{W:XW}{a b:Expr}{f g:AX}{pos:Pos}
abbrev BP:=Gj (λ_ _=>True) λi j=>Builtin.bitAnd i j
abbrev Vc:=Gj (λ_ _=>True) λi j=>Builtin.bitOr i j
def Ln(c:zP X W a f)(d:zP X W b g):zP X W (.BinOp a .BitAnd b pos) (λρ S=>(f ρ S).bind λp S1=>(g ρ S1).bind λq S2=>BP p q S2):=BM Py KQ c d
def Vd(c:zP X W a f)(d:zP X W b g):zP X W (.BinOp a .BitOr b pos) (λρ S=>(f ρ S).bind λp S1=>(g ρ S1).bind λq S2=>Vc p q S2):=BM Xn KQ c d
end
section
variable{P:ņ}{w:World}{KK:Type}[DecidableEq KK]{knd:HeapKind P w KK}{A:Ņ}{E:VP}{s:Ń}{d a:Addr}{k:KK}{xs:List (KK×Addr×ń)}
def ZI{Q:Option ń->Ń->Prop}(m:knd.room A)(b:knd.is s.heap k a)(u:s.heap.DictOfH knd d xs)(h:Q ((atKey xs k).map (·.2)) {s with toks:=s.toks+knd.draws k}):wpAny (model P w) A (dictGet d (.ref a)) Q E s:=by
 obtain⟨o,es,ep,n,v,hd,r,c,q⟩:=u;unfold dictGet
 try with_reducible refine ú ?_
 refine wB (knd.pyHash m b ?_);refine wB (wpAny_dictFind_heap m b n hd r c q ?_ ?_)
 .intro e;rw[atKey_none_of_get e]at h;exact wP h
 .intro j p i;refine wB (ě n hd ?_);rw[entry_at r j,i];rw[atKey_of_get q i]at h;exact wP h
end
section
variable{X:Cx}{W:XW}{o e:Expr}{es:J8}{f:AX}{af:Rho->Sto->R (List Er)}{apos pos:Pos}
def rGD(X:Cx):V->List V->Hp->VK->Prop:=λx vs H Q=> ∃(α:B9)(kvs:K6)(xs:List (NK×Addr×ń))(a d:Addr)(k:MV)(nk:NK)(y:V),x=.ref d/\vs=[.ref a,y]/\DD X H d xs/\DenN X.K α H kvs xs/\xD k=some nk/\lV nk<=4/\Den X.K α H k (.ref a)/\
 (∀b v,look kvs k=some b->Den X.K α H b v->Q v H)/\(look kvs k=none->Q y H)
theorem Zt(T:X.A.units+64<cLine):Hr X "dict.get" (rGD X):=by
 intro pins s σ H x vs v us Q I r K h;obtain⟨α,kvs,xs,a,d,k,P,y,rfl,rfl,n,l,j,e,u,N,L⟩:=h;obtain⟨S,B,rfl,D,O⟩:=vals2 K;cases r;cases D;obtain⟨J,E,hs⟩:=rN I n l;have G:s.TypeIs _ "dict":=(AM pins s σ H (.ref d) _ I rfl ⟨d,xs,rfl,n⟩).1;have b:=DC l j;refine ì PySem.F.slot_dict_get G PySem.F.entry_dict_get ?_ (PySem.F.args_dict_get_3 _ _ _);show wpAny _ _ (dictGet d _ >>= _) _ _ s;refine wB (ZI (knd:=zW X.prog X.w) (show X.A.units+1+4<cLine by lia) ⟨AH I j u rfl,e⟩ J ?_)
 cases i:atKey xs P with
 |some p=>
  rw[i]at b;obtain⟨C,c⟩:=ñ.mp b.symm;obtain⟨U,W,q,o,g2,M⟩:=LS l j c;rw[i]at o;cases o;exact wP ⟨_,rfl,q,H,I.kept (λ_ _ z=>z),M,N C q c g2⟩
 |none=>
  rw[i]at b
  have m:look kvs k=none:=by
   cases z:look kvs k with
   |none=>rfl
   |some _=>rw[z]at b;cases b
  show wpAny _ _ _ _ _ _;exact wB (wpAny_missed_other hs (wP ⟨B,rfl,y,H,I.kept (λ_ _ z=>z),O,L m⟩))
def uV(p:Er)(rs:List Er)(S:Sto):R Er:=match rs with
 |[.val k,r]=>match cF S p with
  |some (_,kvs)=>if keyOk k=true then(match look kvs k with
   |some d=>.ok (.val d) S
   |none=>.ok r S)else .no
  |none=>.no
 |_=>.no
def Zu:RZ X W (rGD X) uV:=by
 intro p rs x vs α S H0 H Q w b h i o a;unfold uV at a;split at a
 .rename_i k r
  cases o with
  |cons dk n1 l1=>
   cases l1 with
   |cons dy n2 l2=>
    cases l2;split at a
    .rename_i l kvs s;split at a
     .rename_i q;obtain⟨v,h1,u,m⟩:=uQ q;obtain⟨c,xs,rfl,A,z,d,j⟩:=tK b s i;obtain⟨n,rfl⟩:=DE m dk.1;refine⟨α,kvs,xs,n,c,k,v,_,rfl,rfl,d,j,h1,u,dk.1,λB y e g2=>?_,λe=>?_⟩
      .rw[e]at a;exact(Post.shift h a).val b g2
      .rw[e]at a;exact a _ α H h b dy
     .exact a.elim
    .exact a.elim
 .exact a.elim
def Zv(z:X.A.units+64<cLine)(d:zP X W o f)(b:EK X W (e::es) af)
  (hbase:attributeBase o "get" X.env (eval o X.env)=eval o X.env:=by rfl)
  (hfew:((backTo pos (starEach (e::es) X.env)).all (λx=>!x.1)&&(backToKw pos (keywordEach [] X.env)).all (λx=>x.1.isSome)
   &&decide ↑3)=true:=by rfl)
  (hline:(apos.endLine==pos.line)=true:=by rfl) (hs:q9 X e es:=by rfl) (hplain:Q1 X pos es:=by rfl):
  zP X W (.Call (.Attribute o "get" apos) (e::es) [] pos) (λρ S=>(f ρ S).bind λp S1=>if qS p S1=true then(af ρ S1).bind λrs S2=>uV p rs S2 else .no):=by
 obtain⟨to,d,C⟩:=d;obtain⟨t,b,k⟩:=b;refine⟨_,LR AM PySem.F.plainAttrs_dict PySem.F.slot_dict_get PySem.F.type_dict_get (Zt z) d b hbase hfew hline hs hplain,λα ρ S σ H Q w sl q=>C α ρ S σ H _ w sl (q.bind λu p S1 a H1 G r n s h=>?_)⟩;split at h
 .rename_i i;obtain⟨⟨l,kvs⟩,i⟩:=ñ.mp i;obtain⟨c,xs,rfl,_,_,y,_⟩:=tK n i s.1;exact⟨⟨c,xs,rfl,y⟩,k a ρ S1 σ H1 _ n (sl.ext r) ((h.shift r).bind λvs rs S2 j v I m D E B=>Zu p rs _ vs j S2 H1 v Q a D m (s.1.ext m) E B)⟩
 .exact h.elim
end
section
variable{P:ņ}{w:World}{A:Ņ}{E:VP}{s:Ń}{R:Result->Ń->Prop}
def AS{h h':Heap}{k:NK}{a:Addr}(x:(zW P w).is h k a)(m: ∀b o,h.get? b=some o->h'.get? b=some o):(zW P w).is h' k a:=⟨EF (λb o _ _ e _=>m b o e) x.1,x.2⟩
def Dl(P:ņ)(w:World)(h:Heap)(x:NK×Addr×ń)(v:ń):Prop:= ∃t,v=.ref t/\IsTup h t #[.ref x.2.1,x.2.2]/\(zW P w).is h x.1 x.2.1
def uW(xs:List (NK×Addr×ń)):List (NK×Addr×ń):=xs.foldl (λa x=>storedH a x.1 x.2.1 x.2.2) []
theorem JE(xs:List (NK×Addr×ń)):(uW xs).length<=xs.length:=by
 have: ∀(xs b:List (NK×Addr×ń)),(xs.foldl (λb x=>storedH b x.1 x.2.1 x.2.2) b).length<=b.length+xs.length:=by
  intro xs
  induction xs with
  |nil=>intro b;exact à _
  |cons x xs ih=>
   intro b;rw[Ŀ,lC];have:=ih (storedH b x.1 x.2.1 x.2.2);have:=tL (xs:=b) (k:=x.1) (a:=x.2.1) (u:=x.2.2)
   lia
 have:=this xs [];rw[ÿ,ă]at this;exact this
theorem TC(xs:List (NK×Addr×ń))(i:Nat)(x:NK×Addr×ń)(h:xs[i]? =some x):uW (xs.take (i+1))=storedH (uW (xs.take i)) x.1 x.2.1 x.2.2:=by unfold uW;rw[List.take_add_one,h,List.foldl_append];rfl
def ZJ{p:NK->Addr->Prop}{k:NK}{a:Addr}{u:ń}(h: ∀x∈xs,p x.1 x.2.1)(d:p k a): ∀x∈storedH xs k a u,p x.1 x.2.1:=by
 intro x b
 cases z:atKey xs k with
 |none=>
  rw[storedH_new z]at b;rcases é.mp b with b|b
  .exact h x b
  .rw[mS.mp b];exact d
 |some q=>
  rw[storedH_old z]at b;obtain⟨y,c,rfl⟩:=mM.mp b;unfold putAt;split
  .exact h y c
  .exact h y c
def PN{p:NK->Addr->Prop}(h: ∀x∈xs,p x.1 x.2.1): ∀x∈uW xs,p x.1 x.2.1:=by
 have: ∀(xs a:List (NK×Addr×ń)),(∀x∈xs,p x.1 x.2.1)->(∀x∈a,p x.1 x.2.1)-> ∀x∈xs.foldl (λa x=>storedH a x.1 x.2.1 x.2.2) a,p x.1 x.2.1:=by
  intro xs
  induction xs with
  |nil=>intro a _ c;exact c
  |cons y ys ih=>
   intro a b c;exact ih _ (λx d=>b x (mO _ d)) (ZJ c (b y mF0))
 exact this xs [] h λx b=>by simp at b
def JF{h h':Heap}{D:Addr}(j:h.DictOfH (zW P w) D xs)(i: ∀o,h.get? D=some o->h'.get? D=some o)(a: ∀x∈xs,(zW P w).is h' x.1 x.2.1):h'.DictOfH (zW P w) D xs:=
 let ⟨o,es,ep,c,k,d,e,_,b⟩:=j;⟨o,es,ep,i o c,k,d,e,a,b⟩
theorem TD{I D:Addr}{fp:B9}{n:Nat}{Pv:Nat->ń->Prop}{St:Nat->Heap->Prop}(W:Walks P w A.in1 I fp [I] n Pv St)(B:D∉fp)(kvs:List (NK×Addr×ń))(hn:kvs.length=n)(hz:n<=sizeLine)(u:(zW P w).room A.in1){h₀:Heap}
  (hP: ∀i v,Pv i v-> ∃O,kvs[i]? =some O/\Dl P w h₀ O v) (hK: ∀x∈kvs,(zW P w).is h₀ x.1 x.2.1) (hI:h₀.get? I=none) (hD:h₀.get? D=none):
  ∀(k i:Nat)(j:Int)(s:Ń),n - i=k->i<=n->St i s.heap->s.heap.DictOfH (zW P w) D (uW (kvs.take i))->(∀b o,h₀.get? b=some o->s.heap.get? b=some o)->
   (∀h' J,(∀b o,h₀.get? b=some o->h'.get? b=some o)->h'.DictOfH (zW P w) D (uW kvs)->R (.ok (.ret .none)) {s with heap:=h',toks:=J})->
   codeAny (model P w) A (.builtin "dict.update.loop" ⟨[.ref D,.ref I,rawInt j,.none],[]⟩) R s:=by
 have K:D≠I:=λe=>B (e▸W.sub _ (mS.mpr rfl));intro k
 induction k with
 |zero=>
  intro i j s hk hi r L d Z;have U:i=n:=by lia
  subst U;refine ŀ F.entry_dict_update_loop ?_;rw[Ĺ F.plain_dict_update_loop _];show wpAny _ A.in1 _ _ _ s;refine wB (W.done s _ _ r λh' J p=>?_);show wpAny _ A.in1 _ _ _ _;refine wB (wP ?_);rw[<-hn,take_length]at L;refine wP (Z h' J (λb o e=>?_) ?_)
  .exact p b o (λh=>by rw[mS.mp h,hI]at e;cases e) (d b o e)
  .exact JF L (λo e=>p D o (λh=>K (mS.mp h)) e) λx H=>AS (PN hK x H) λb o e=>p b o (λh=>by rw[mS.mp h,hI]at e;cases e) (d b o e)
 |succ k ih=>
  intro i j s hk hi r L d Z;have G:i<n:=by lia
  refine ŀ F.entry_dict_update_loop ?_;rw[Ĺ F.plain_dict_update_loop _];show wpAny _ A.in1 _ _ _ s;refine wB (W.item i s _ _ G r λv h' J N y p=>?_);obtain⟨O,M,a,rfl,hT,E⟩:=hP i v N;have c: ∀b o,h₀.get? b=some o->h'.get? b=some o:=λb o e=>p b o (λh=>by rw[mS.mp h,hI]at e;cases e) (d b o e);have Y: ∀(m:Nat), ∀x∈kvs.take m,(zW P w).is h₀ x.1 x.2.1:=λm x H=>hK x (mem_of_mem_take H);have Q:h'.DictOfH (zW P w) D _:=JF L (λo e=>p D o (λh=>K (mS.mp h)) e) λx H=>AS (PN (Y i) x H) c;obtain⟨o,ho,hc,nn,C⟩:=hT.keeps c;have T:Shared.TypeIs {s with heap:=h',toks:=J} (.ref a) "tuple":=⟨o,ho,hc⟩
  refine wB (ú ?_);refine wB (wpAny_tryCatch ?_);unfold Builtin.Dict.pairItems;refine wB (ĝ T ?_);rw[iP (by decide)];refine wB ?_;show wpAny _ _ _ _ _ _;refine wB (wpAny_load ho ?_);rw[C];refine wP (wP ?_);show wpAny _ _ _ _ _ _;refine ú ?_;have aa:=JE (kvs.take i);have ab:(kvs.take i).length<=n:=by rw[<-hn];exact List.length_take_le' i kvs
  refine wpAny_dictSet_heap u (AS E c) Q λh2 S z=>?_;have q: ∀b o,h₀.get? b=some o->h2.get? b=some o:=λb o e=>by rw[z.2 b (λh=>by rw[h,hD]at e;cases e)];exact c b o e
  refine wP ⟨plainId_quiet F.plain_dict_update_loop _,ih (i+1) (j+1) _ #[0] G (W.frame _ _ _ y λb hb o e=>?_) ?_ q λh3 X k3 d3=>Z h3 X k3 d3⟩
  .rw[z.2 b (λh=>B (h▸hb))];exact e
  .rw[TC _ _ _ M];exact S
theorem AT{l:Addr}{its:B0}{o:Obj}{c:Nat}{kvs:List (NK×Addr×ń)}{Q:VP}(U:A.units+64<cLine)(B:A.handled=none)(H:s.heap.get? l=some o)(y:o.cls=.type "list")(hd:o.dict=none)(d:o.data=.seq its c)(r:its.size=kvs.length)(hz:its.size<=sizeLine)
  (hP: ∀(i:Nat) v,its[i]? =some v-> ∃G,kvs[i]? =some G/\Dl P w s.heap G v) (hK: ∀x∈kvs,(zW P w).is s.heap x.1 x.2.1)
  (h: ∀h' D,(∀b o,s.heap.get? b=some o->h'.get? b=some o)->h'.DictOfH (zW P w) ↑0 (uW kvs)->Q (.ref ↑0) {s with heap:=h',toks:=D}):
  wpAny (model P w) A (call (.type "dict") [.ref l]) Q E s:=by
 refine callType_codes (Q₁:=λu j=>u=.ref ↑0/\j={s with heap:=s.heap.push {cls:=.type "dict",data:=.dict #[]}}) F.kt_called_dict (F.kt_typeCall_dict_1 _) F.entry_dict_init (kt_code_dict_new _ ⟨rfl,rfl⟩) ?_;rintro u j ⟨rfl,rfl⟩;have a:(s.heap.push {cls:=.type "dict",data:=.dict #[]}).DictOfH (zW P w) ↑0 []:=Heap.DictOfH.new s.heap;have m:(s.heap.push {cls:=.type "dict",data:=.dict #[]}).get? l=some o:=hP0 _ H;have z:=â H;refine⟨a.typeIs,F.args_dict_init_2 _ _,?_⟩;unfold Builtin.«dict.__init__»;refine wB ?_;unfold Builtin.Dict.selfAndRest;refine wB (ġ a.typeIs ?_);show wpAny _ _ _ _ _ _;refine wP ?_;show wpAny _ _ (Builtin.Dict.updateFrom "dict.__init__" ↑0 (.ref l) [] .none) _ _ _;unfold Builtin.Dict.updateFrom;refine wB (ĝ (T:="list") ⟨o,m,y⟩ ?_);rw[iP (by decide)];refine wB (getAttr?_miss_list m y d hd LV (by decide+kernel) B (λh1 I k1=>?_) (by decide+kernel));rw[iP (show(none:Option ń).isNone=true from rfl)];refine wB (Ę ?_);have n:=k1 l o m;refine wB (wpAny_pyIter_list (items:=its) ⟨o,n,y,c,d⟩ ?_);have L:l≠h1.objs.size:=ë (â n);have p:↑0<h1.objs.size:=by obtain⟨q,_,_,k,_⟩:=a;exact â (k1 _ _ k)
 refine wP ⟨plainId_quiet F.plain_dict_update_loop _,TD (P:=P) (w:=w) (h₀:=s.heap) (Walks.list (by first |exact B|exact B) h1.objs.size l L its) ?_ kvs r.symm hz (by show _+4<cLine;first |(show A.units+1+1+4<cLine;lia)|(show A.units+1+4<cLine;lia)|(show A.units+4<cLine;lia)) hP hK ?_ ?_ _ 0 0 _ rfl (zero_le _) ⟨⟨_,ã _ rfl,rfl,rfl⟩,⟨o,hP0 _ n,y,c,d⟩⟩ ?_ ?_ λh' D M C=>?_⟩
 .rw[mC,mS];rintro(e|e)
  .exact ë p e
  .exact ë z e.symm
 .cases k:s.heap.get? h1.objs.size with
  |none=>rfl
  |some q=>exact absurd (â k) (Nat.lt_asymm p)
 .cases k:s.heap.get? ↑0 with
  |none=>rfl
  |some q=>exact absurd (â k) (Į _)
 .obtain⟨q,es,ep,k,J,S,N,_,K⟩:=a;exact⟨q,es,ep,hP0 _ (k1 _ _ k),J,S,N,λx O=>(by cases O),K⟩
 .intro b q e;exact hP0 _ (k1 _ _ (hP0 _ e))
 .exact⟨rfl,h h' D M C⟩
end
section
variable{X:Cx}{W:XW}{α:B9}{H:Hp}{pins:J5}{σ:St}{s:Ń}
noncomputable def fP:List MV->Option (List (MV×MV))
 |[]=>some []
 |.tup [k,v]::r=>if keyOk k=true then(fP r).map ((k,v)::·)else none
 |_::_=>none
def WD(ps:K6):List (MV×MV):=ps.foldl (λa p=>putK a p.1 p.2) []
theorem JG(I:↑2): ∀{ds:K1}{kvs:K6}{vs:List V}{us:A0},fP ds=some kvs->DenL X.K α H ds vs->Vals vs us->
  ∃xs,DenN X.K α H kvs xs/\xs.length=us.length/\ ∀(i:Nat) v,us[i]? =some v-> ∃x,xs[i]? =some x/\Dl X.prog X.w s.heap x v
 |[],kvs,vs,us,e,l,r=>by cases e;have:=l.isnil;subst this;cases r;exact⟨[],.nil,rfl,λi v h=>by simp at h⟩
 |d::ds,kvs,vs,us,e,l,r=>by
  obtain⟨v,J,rfl,B,F⟩:=l.uncons;unfold fP at e;split at e
  .cases (by assumption:d::ds=[])
  .rename_i k y L hd;obtain⟨rfl,rfl⟩:=List.cons.inj hd;split at e
   .rename_i n
    cases z:fP ds with
    |none=>rw[z]at e;cases e
    |some ms=>
     rw[z]at e;cases e
     cases r with
     |@cons _ u _ us ru rt=>
      obtain⟨xs,h1,D,m⟩:=JG I z F rt;obtain⟨t,ws,rfl,hs,j⟩:=yR B;obtain⟨U,P,rfl,b,l1⟩:=j.uncons;obtain⟨N,T,rfl,G,l2⟩:=l1.uncons;have E:=l2.isnil;subst E;cases ru;obtain⟨Q,c,g2,A⟩:=uQ n;obtain⟨a,rfl⟩:=DE A b;obtain⟨its,q,p,S⟩:=I.tuple hs;obtain⟨O,M,rfl,C,o⟩:=vals2 q;cases C;refine⟨_::xs,.cons c g2 b G o h1,by rw[lC,lC,D],λi w hw=>?_⟩
      cases i with
      |zero=>
       cases hw;exact⟨_,rfl,t,rfl,p,AH I c b rfl,g2⟩
      |succ i=>exact m i w hw
   .cases e
  .cases e
theorem JH: ∀{kvs:K6}{xs:List (NK×Addr×ń)},DenN X.K α H kvs xs-> ∀{as:K6}{bs:List (NK×Addr×ń)},DenN X.K α H as bs->DenN X.K α H (kvs.foldl (λa p=>putK a p.1 p.2) as) (xs.foldl (λa x=>storedH a x.1 x.2.1 x.2.2) bs)
 |_,_,.nil,as,bs,h=>h
 |_,_,.cons hk e ha hd r l,as,bs,h=>by exact JH l (LG h hk e ha hd r)
theorem ZK(L:X.A.units+64<cLine):CallR X (.type "dict") (λxs H Q=> ∃α l vs ds kvs,xs=[.ref l]/\SqL X.K H l vs/\DenL X.K α H ds vs/\fP ds=some kvs/\X.calm=true/\ ∀p ys,H p=none->DenN X.K α H (WD kvs) ys->Q (.ref p) (wC H p (DN X.prog X.w p ys))):=by intro pins s σ H xs us Q I r h;obtain⟨α,l,vs,ds,kvs,rfl,J,F,E,U,q⟩:=h;obtain⟨u,rfl,D⟩:=vals1 r;cases D;obtain⟨its,B,⟨o,n,S,c,hd,b⟩,hz⟩:=I.list J;obtain⟨xs,h1,C,N⟩:=JG I E F B;have Z:=B.length;refine AT L (I.ok.hd U) S c hd b (by rw[sA0,C]) (by rw[sA0];lia) (λi v e=>N i v (by simpa using e)) (LE I h1) λh' tk P d=>?_;have hm:=JE xs;obtain⟨z,es,ep,a,W,m,O,_,T⟩:=d;refine⟨.ref ↑0,_,I.laid (o:=DN X.prog X.w ↑0 (uW xs)) P (à _) ?_,rfl,q _ _ (I.hok.fresh (à _)) (JH h1 .nil)⟩;refine⟨⟨by lia,ļ.mpr (Ne.symm (ë (LH I))),z,es,ep,a,W,m,O,T⟩,⟨z,a⟩,?_⟩;rintro h1 C ⟨G,M,o',y,k,j,r⟩ Y;exact⟨G,M,o',y,k,Y o' j,r⟩
def JK:List Er->Sto->R Er
 |[r],S=>match (jB S r).bind fP with |some kvs=>.ok (.val (.loc S.length)) (S++[.dic (WD kvs)])|none=>.no
 |_,_=>.no
def Lo(n:X.calm=true):sG X W (λxs H Q=> ∃α l vs ds kvs,xs=[.ref l]/\SqL X.K H l vs/\DenL X.K α H ds vs/\fP ds=some kvs/\X.calm=true/\ ∀p ys,H p=none->DenN X.K α H (WD kvs) ys->Q (.ref p) (wC H p (DN X.prog X.w p ys))) JK:=by
 intro rs vs α S H Q b d a;unfold JK at a;split at a
 .split at a
  .rename_i kvs e;obtain⟨v,rfl,k⟩:=sI d
   cases z:jB S _ with
   |none=>rw[z]at e;cases e
   |some ds=>
    rw[z]at e;obtain⟨q,us,rfl,i,l⟩:=sH rfl b z k;refine⟨α,q,us,ds,kvs,rfl,i,l,e,n,λp ys c dn=>?_⟩;have h:=b.newx (o:=DN X.prog X.w p ys) c;obtain⟨x,j⟩:=b.put (m:=.dic _) c (.inr ⟨_,zT,dn.ex0 ⟨⟨[p],rfl⟩,h.tup,h.frz⟩⟩);exact a _ _ _ x j (DenE.val (oQ (by rw[<-b.len,å (à _),sub_self];rfl)))
  .exact a.elim
 .exact a.elim
end
theorem DenF.len{K:J9}{α:B9}{H:Hp}: ∀{fs gs},DenF K α H fs gs->gs.length=fs.length
 |_,_,.nil=>rfl
 |_,_,.cons b l=>by rw[lC,lC,DenF.len l]
section
variable{X:Cx}{W:XW}{a b:Expr}{f g:AX}{pos:Pos}
def Zw(X:Cx):R2:=λx y H Q=> ∃(ks:List (Key×V))(d:Addr)(k:Key)(v:V),x=.ref d/\y=kV k/\DK X H d ks/\qU ks k=some v/\Q v H
def Dm:IxR X (Zw X):=by intro a b pins s σ H x y u v Q I j r h c;obtain⟨z,d,k,e,rfl,rfl,o,m,q⟩:=h;cases j;obtain⟨_,hs,ws,w,i⟩:=iZ I o;obtain⟨A,n,p⟩:=(LT w k).1 e m;exact subscriptTail_builtinR i.typeIs slot_dict_getitem.lookup (wpAny_getItem_of (VZ r) i.mapOf n ⟨rfl,e,H,I.tok _,p,q⟩) c
def LX(p q:Er)(S:Sto):R Er:=match AO S p,q with
 |some (_,kvs),.val k=>if tP k=true then(match look kvs k with |some d=>.ok (.val d) S|none=>.no)else .no
 |_,_=>.no
def Lp:US X W (Zw X) LX:=by
 intro p q x y α S H Q i j A a;unfold LX at a;split at a
 .rename_i l kvs k r;obtain⟨c,o,rfl,C,B,e,n,_⟩:=Li i r j;split at a
  .rename_i h;obtain⟨s,b⟩:=ñ.mp h;have w:=Dh b A;subst w;split at a
   .rename_i d m;obtain⟨v,u,z⟩:=(AN n (Dg b)).1 d m;exact⟨o,c,s,v,rfl,rfl,e,u,Post.val a i z⟩
   .exact a.elim
  .exact a.elim
 .exact a.elim
def Ve(c:zP X W a f)(d:zP X W b g)(hs:CW b:=by exact λ_ _=>rfl):zP X W (.Subscript a b pos) (λρ S=>(f ρ S).bind λp S1=>(g ρ S1).bind λq S2=>LX p q S2):=Oa Dm Lp c d hs
end
section
variable{P:ņ}{w:World}{A:Ņ}{E:VP}{s:Ń}{d v it:Addr}{ep i:Nat}{od:Obj}{es:Array DictEntry}{ok ov:ń}
theorem Do{Q:VP}(e:s.heap.IsItemsView v d)(i:s.heap.get? d=some od)(a:od.data=.dict es ep)
  (hQ:Q (.ref ↑0) {s with heap:=s.heap.push {cls:=.type "dict_itemiterator",data:=.fields #[.none,.bool false,.ref d,.int 0 0,.int es.size 0,.int ep 0,.none,.none]}}):wpAny (model P w) A (pyIter (.ref v)) Q E s:=by
 obtain⟨ov,c,j,h⟩:=id e;refine wpAny_pyIter_slot e.typeIs PySem.F.slot_dict_items_iter (ì PySem.F.slot_dict_items_iter e.typeIs PySem.F.entry_dict_items_iter ?_ (PySem.F.args_dict_items_iter_1 _));refine wB (wP (wB ?_));refine wB (ð c h rfl (wP (wB ?_)));refine wB (ě i a (wB (Ł i a ?_)));have b:Builtin.Dict_items.ownsTuple "dict_itemiterator"=true:=by decide
 simp only[b,if_true]
 refine ć (wP ⟨_,rfl,"dict_itemiterator",_,⟨_,ã _ rfl,rfl⟩,PySem.F.slot_dict_itemiterator_next.lookup,?_⟩)
  (by simp only[sizeOk,Builtin.Dict_items.ownedTupleFields,sA0,lA,lC,ÿ,ė];lia)
 simpa [rawInt,Builtin.Dict_items.ownedTupleFields]using hQ
theorem Lq{Q:Option ń->Ń->Prop}(K:IsItemIter s.heap it d i es.size ep ok ov)(Y:s.heap.get? d=some od)(T:od.data=.dict es ep)(U:i<es.size)
  (hQ: ∀h',IsItemIterOut h' it d (i+1) es.size ep es[i].key es[i].val ↑0->
   h'.get? ↑0=some {cls:=.type "tuple",data:=.seq #[es[i].key,es[i].val]}->h'.objs.size=↑0+1->
   (∀b o,b≠it->s.heap.get? b=some o->h'.get? b=some o)->Q (some (.ref ↑0)) {s with heap:=h'}):
  wpAny (model P w) A (pyNext (.ref it)) Q E s:=by
 obtain⟨D,g,X,tk,W⟩:=s;have N:Shared.TypeIs ⟨D,g,X,tk,W⟩ (.ref it) "dict_itemiterator":=⟨_,K,rfl⟩
 unfold pyNext
 refine wB (Ĉ (î (name:=Str.ofString "__next__") N PySem.F.slot_dict_itemiterator_next
  (ì PySem.F.slot_dict_itemiterator_next N PySem.F.entry_dict_itemiterator_next ?_ (PySem.F.args_dict_itemiterator_next_1 _))))
 refine wB (wP ?_);refine wB ?_;refine wB ?_
 first |refine wB (ħ N (wP ?_))|refine wB (wpAny_typeNameOf_itemiter N (wP ?_))
 refine wB (wpAny_fieldsOf K rfl ?_);have Z:Builtin.Dict_items.ownsTuple "dict_itemiterator"=true:=by decide
 simp only[Z,if_true];show wpAny _ _ (if(Value.ref d==Value.none)=true then _ else _) _ _ _;rw[iN (show¬((Value.ref d==Value.none)=true)from xF0)];refine wB (wP ?_);refine wB (ě Y T ?_);rw[iN (by simp)];refine wB (wP ?_);refine wB (Ł Y T ?_);rw[iN (by simp)];refine wP ?_;simp only[show¬((i:Int)<0)from by lia,iF,Ď,đ U];refine wB ?_
 first |refine wB (ħ N (wP ?_))|refine wB (wpAny_typeNameOf_itemiter N (wP ?_))
 refine wB (wpAny_isOneOf_itemiter N ?_);show wpAny _ _ (setField (.ref it) 3 (rawInt ((i:Int)+1)) >>= _) _ _ ⟨D,g,X,tk,W⟩;refine wB (ô K (by simp) λa j k=>?_)
 replace k:Heap.SameBut it D a:=k
 replace j:IsItemIter a it d (i+1) es.size ep ok ov:=by
  have e:((i+1:Nat):Int)=(i:Int)+1:=by lia
  unfold IsItemIter;rw[e];simpa [rawInt]using j
 have y:Shared.TypeIs ⟨a,g,X,tk,W⟩ (.ref it) "dict_itemiterator":=⟨_,j,rfl⟩
 refine wB (ú ?_);refine wB (wpAny_isOneOf_itemiter y ?_);refine wB (wpAny_isOneOf_itemiter y ?_);show wpAny _ _ _ _ _ ⟨a,g,X,tk,W⟩;unfold Builtin.Dict_items.pairFromOwner;refine wB (wpAny_newTuple ?_);have c:IsItemIter (a.push {cls:=.type "tuple",data:=.seq #[es[i].key,es[i].val]}) it d (i+1) es.size ep ok ov:=hP0 _ j;generalize r:a.push {cls:=.type "tuple",data:=.seq #[es[i].key,es[i].val]}=h₂ at c;have q:a.objs.size=D.objs.size:=k.1;have J:it<D.objs.size:=â K;have O:h₂.get? D.objs.size=some {cls:=.type "tuple",data:=.seq #[es[i].key,es[i].val]}:=by rw[<-r, <-q];exact ã _ rfl
 have L:h₂.objs.size=D.objs.size+1:=by rw[<-r,ĭ,q]
 have S: ∀b o,b≠it->D.get? b=some o->h₂.get? b=some o:=λb o M e=>by rw[<-r];exact hP0 _ (k.extBut b o M e)
 show wpAny _ _ _ _ _ ⟨h₂,g,X,tk,W⟩;rw[q];clear r j k y q a;refine wB ?_;unfold Builtin.Dict_items.ownedTupleIsFree;refine wB (ð c rfl (x:=.none) rfl (wP ?_));simp only[if_true];refine wB (ð c rfl (x:=ok) rfl ?_);refine wB (ð c rfl (x:=ov) rfl ?_);refine wB (ô c (by simp) λH z h=>?_)
 replace h:Heap.SameBut it h₂ H:=h
 replace z:IsItemIter H it d (i+1) es.size ep es[i].key ov:=z
 refine wB (ô z (by simp) λI B n=>?_)
 replace n:Heap.SameBut it H I:=n
 replace B:IsItemIter I it d (i+1) es.size ep es[i].key es[i].val:=B
 refine wB (ô B (by simp) λG v p=>?_)
 replace p:Heap.SameBut it I G:=p
 replace v:IsItemIterOut G it d (i+1) es.size ep es[i].key es[i].val D.objs.size:=v
 refine wB (ô v (by simp) λC u m=>?_)
 replace m:Heap.SameBut it G C:=m
 replace u:IsItemIterOut C it d (i+1) es.size ep es[i].key es[i].val D.objs.size:=u
 refine wB (wpAny_letGo (wP (wP ⟨_,rfl,wP (hQ C u ?_ ?_ ?_)⟩)))
 .exact m.extBut _ _ (ù J) (p.extBut _ _ (ù J) (n.extBut _ _ (ù J) (h.extBut _ _ (ù J) O)))
 .show C.objs.size=D.objs.size+1;rw[m.1,p.1,n.1,h.1,L]
 .exact λb o M e=>m.extBut b o M (p.extBut b o M (n.extBut b o M (h.extBut b o M (S b o M e))))
theorem Lr{Q:Option ń->Ń->Prop}(n:A.handled=none)(c:IsItemIter s.heap it d i es.size ep ok ov)(e:s.heap.get? d=some od)(j:od.data=.dict es ep)(m:es.size<=i)
  (hQ: ∀h',Heap.ExtBut it s.heap h'->Q none {s with heap:=h'}):wpAny (model P w) A (pyNext (.ref it)) Q E s:=by
 have k:s.TypeIs (.ref it) "dict_itemiterator":=⟨_,c,rfl⟩
 unfold pyNext
 refine wB (Ĉ (î k PySem.F.slot_dict_itemiterator_next
  (ì PySem.F.slot_dict_itemiterator_next k PySem.F.entry_dict_itemiterator_next ?_ (PySem.F.args_dict_itemiterator_next_1 _))))
 refine wB (wP ?_);refine wB ?_;refine wB ?_
 first |refine wB (ħ k (wP ?_))|refine wB _
 refine wB (wpAny_fieldsOf c rfl ?_);have h:Builtin.Dict_items.ownsTuple "dict_itemiterator"=true:=by decide
 simp only[h,if_true];show wpAny _ _ (if _=true then _ else _) _ _ s;rw[iN (show¬((Value.ref d==Value.none)=true)from xF0)];refine wB (wP ?_);refine wB (ě e j ?_);rw[iN (by simp)];refine wB (wP ?_);refine wB (Ł e j ?_);rw[iN (by simp)];refine wP ?_;simp only[show¬((i:Int)<0)from by lia,iF,Ď,Array.getElem?_eq_none m];refine wB ?_
 first |refine wB (ħ k (wP ?_))|refine wB _
 show wpAny _ _ (setField (.ref it) 2 .none >>= _) _ _ s;refine wB (wpAny_setField c rfl (by simp) ?_);show wpAny _ _ _ _ _ _;refine wB ?_;simp only[newExc,newTuple];refine wB (ć ?_ (by size_fits));refine wB (wpAny_of_eq (a:=Value.none) (by first |rfl|(simp only[firstArgMember];rfl)) ?_);refine ć ?_ (by size_fits);simp only[raiseNew];refine wB (wpAny_handled ?_);rw[show A.in1.handled=none from n];refine wB (wP (wpAny_throw ?_));refine wB (ğ (b:=true) ⟨_,ã _ rfl,rfl⟩ isSubtype_stop ?_);exact wP (hQ _ (((ď ..).extBut.push _).push _))
end
section
variable{P:ņ}{w:World}{A:Ņ}{E:VP}{s:Ń}
def PQ:entryFor table "dict_itemiterator.__iter__"=some Builtin.«dict_keyiterator.__iter__»:=
 entryFor_alias (id':="dict_keyiterator.__iter__") (by kernel_rfl) rfl (by decide+kernel) (by kernel_rfl)
def HL{it:Addr}{Q:VP}(a:s.TypeIs (.ref it) "dict_itemiterator")(h:Q (.ref it) s):wpAny (model P w) A (pyIter (.ref it)) Q E s:=by refine wpAny_pyIter_slot a PySem.F.slot_dict_itemiterator_iter (ì PySem.F.slot_dict_itemiterator_iter a PQ ?_ (PySem.F.args_dict_itemiterator_iter_1 _));show wpAny _ _ _ _ _ s;exact wP ⟨_,rfl,"dict_itemiterator",_,a,PySem.F.slot_dict_itemiterator_next.lookup,h⟩
end
def Iti(P:ņ)(w:World)(d:Addr)(o:Obj)(xs:List (NK×Addr×ń))(vs:List V):It:=
 ⟨λi H=>H d=some (.frz o (DN P w d xs))/\i<xs.length,
   λi H v H'=> ∃p x y,H p=none/\v=.ref p/\xs[i]? =some x/\vs[i]? =some y/\H'=wC H p (.tup [.ref x.2.1,y]),
   λi H=>H d=some (.frz o (DN P w d xs))/\xs.length<=i⟩
theorem TF{P:ņ}{w:World}{K:J9}{elts:J8}{kt:Nat}{pt:Pos}{d it:Addr}{o:Obj}{es:Array DictEntry}{ep:Nat}{vs:List V}(hdat:o.data=.dict es ep)(hes:es.toList=xs.map (entryOfKey (zW P w)))(hvs:Vals vs (xs.map (·.2.2))):
  Turn P w K (.Tuple elts kt pt) (Iti P w d o xs vs) [it] it (λi h=> ∃ok ov,IsItemIter h it d i es.size ep ok ov) where
 mem:=by simp
 obj:=λi h ⟨ok,ov,st⟩ b hb=>by cases mS.mp hb;exact⟨_,st,λv q=>by cases q⟩
 keep:=λi h h' ⟨ok,ov,st⟩ k=>⟨ok,ov,k it (by simp) _ st⟩
 item:=by
  intro X hP hw hK hc i pins s σ H E I hf st hg;subst hP hw hK;obtain⟨hd,hi⟩:=hg;obtain⟨ok,ov,hit⟩:=st;obtain⟨hod,_⟩:=(I.hok d _ hd)
  have hsz:es.size=xs.length:=by rw[<-í,hes,lM]
  have hlt:i<es.size:=by lia
  obtain⟨x,hx⟩: ∃x,xs[i]? =some x:=⟨_,gE hi⟩
  have he:=by have:=congrArg (·[i]?) hes;simp only[ò,ö,hx,đ hlt,Option.map_some]at this;exact ä this
  have hl:=hvs.length;rw[lM]at hl;obtain⟨y,hy⟩: ∃y,vs[i]? =some y:=⟨_,gE #[0]⟩
  obtain⟨u,hu,ru⟩:=hvs.get hy;rw[ö,hx]at hu;cases hu;refine Lq hit hod hdat hlt λh' a1 a2 a3 a4=>⟨_,rfl,?_⟩
  refine wpAny_letOwnedTupleGo_items a1 λh2 z2 sb2=>?_
  replace a2:h'.get? ↑0=some {cls:=.type "tuple",data:=.seq #[.ref x.2.1,x.2.2]}:=by rw[a2,he];rfl
  have hpn:H ↑0=none:=I.hok.fresh (à _)
  have I0:Inv X pins σ _ {s with heap:=s.heap.push {cls:=.type "tuple",data:=.seq #[.ref x.2.1,x.2.2]}}:=
   I.laid (o:=.tup [.ref x.2.1,y]) (λb o e=>hP0 _ e) (à _) ⟨by show 2<=sizeLine;decide,[.ref x.2.1,x.2.2],.cons rfl (.cons ru .nil),⟨_,ã _ rfl,rfl,_,rfl⟩⟩
  have lt:it<s.heap.objs.size:=â hit;have fr: ∀b∈[it],wC H ↑0 (.tup [.ref x.2.1,y]) b=none:=λb hb=>by cases mS.mp hb;rw[zL (ë lt)];exact(hf it hb).1
  have mv: ∀b o,b∉[it]->(s.heap.push {cls:=.type "tuple",data:=.seq #[.ref x.2.1,x.2.2]}).get? b=some o->h2.get? b=some o:=λb o hb e=>by
   rw[mS]at hb;refine sb2.extBut _ _ hb ?_;by_cases hbs:b=↑0
   .subst hbs;rw[ã _ rfl]at e;cases e;exact a2
   .rw[Heap.get?_push_ne _ _ _ hbs]at e;exact a4 b o hb e
  have I2:=I0.turnedL (t':=s.toks) mv λb hb=>let ⟨_,c2,c3,c4,c5,c6⟩:=hf b hb;⟨fr b hb,c2,c3,c4,c5,c6⟩;exact⟨.ref ↑0,_,I2,rfl,⟨↑0,x,y,hpn,rfl,hx,hy,rfl⟩,⟨_,_,z2⟩,fr⟩
 done:=by
  intro X hP hw hK hc i pins s σ H E I hf st hg;subst hP hw hK;obtain⟨hd,hi⟩:=hg;obtain⟨ok,ov,hit⟩:=st;obtain⟨hod,_⟩:=(I.hok d _ hd)
  have hsz:es.size=xs.length:=by rw[<-í,hes,lM]
  refine Lr (I.ok.hd hc) hit hod hdat #[0] λh' he=>⟨rfl,?_⟩
  exact I.turnedL (λb o hb e=>he b o (λz=>hb (by rw[z];simp)) e) hf
 self:=λ_ _ _ _ _ ⟨_,_,st⟩ h=>HL ⟨_,st,rfl⟩ h
section
variable{X:Cx}{W:XW}{pins:J5}{σ:St}{H:Hp}{s:Ń}{α:B9}{o:Expr}{f:AX}{apos pos pt:Pos}{to:TE}{elts:J8}{kt:Nat}
def _root_.L2.Inv.freezeD{d:Addr}{ob:Obj}{kvs:K6}(I:↑2)(i:DD X H d xs)(dn:DenN X.K α H kvs xs)(J:s.heap.get? d=some ob):Inv X pins σ (wC H d (.frz ob (DN X.prog X.w d xs))) s:=by
 obtain⟨⟨o',es,ep,m,M,hd,F,P,L⟩,N,hs⟩:=rN I i dn;have a: ∀j,H d≠some (.tup j):=λj e=>by rcases i with h|⟨_,h⟩<;>(rw[h]at e;cases e)
 have k: ∀b,H d≠some (.own b):=λb e=>by rcases i with h|⟨_,h⟩<;>(rw[h]at e;cases e)
 have p: ∀b,H d≠some (.tbl b):=λb e=>by rcases i with h|⟨_,h⟩<;>(rw[h]at e;cases e)
 have q:H d≠none:=λe=>by rcases i with h|⟨_,h⟩<;>(rw[h]at e;cases e)
 have ne: ∀{b:Addr}{v:HO},H b=some v->H d≠some v->b≠d:=λe n z=>n (z▸e);refine I.step (ch:=[]) (λ_ z=>nomatch z) (λb o _ _ _ e _=>e) (λb o _ _ _ e _=>⟨_,e⟩) (λb o _ e n=>?_) (λb o _ e=>⟨o,e⟩) (λb j e=>?_) (λb o u e=>?_) (λb ps e=>?_) (λ_ z=>z) (λb u e=>?_) I.bare
 .rw[zL (λz=>q (by rw[<-z];exact n))];exact n
 .rw[zL (ne e (a j))];exact e
 .rw[zL (ne e (i.nf o u))];exact e
 .exact⟨#[],by rw[zL (ne e (p ps)),e];simp⟩
 .by_cases B:b=d
  .subst B;rw[zT]at e;cases e;refine⟨J,⟨N,hs,o',es,ep,m,M,hd,F,L⟩,⟨_,m⟩,?_⟩;rintro h1 Q ⟨C,D,G,y,A,E,r⟩ O;exact⟨C,D,G,y,A,O _ E,r⟩
  .rw[zL B]at e;exact(I.hok b u e).stay (λ_ _ _ r=>r) (λc r=>by rw[zL (ne r (k b))];exact r) λc j r=>by rw[zL (ne r (a j))];exact r
noncomputable def FF(l d:Addr):HO:=.ext λh=>h.IsItemsView l d
def Dp:Hr X "dict.items" (λx vs H Q=> ∃d xs,x=.ref d/\vs=[]/\DD X H d xs/\ ∀l,H l=none->Q (.ref l) (wC H l (FF l d))):=by
 intro pins s σ H x vs v us Q I i j h;obtain⟨d,xs,rfl,rfl,a,q⟩:=h;cases i;have:=j.zero;subst this;have c:s.TypeIs _ "dict":=(AM pins s σ H (.ref d) _ I rfl ⟨d,xs,rfl,a⟩).1
 have hs:(d==sysModules)=false:=by
  rcases a with h|⟨rfl,h⟩
  .obtain⟨⟨n,hs,_⟩,_⟩:=(I.hok d _ h)
   exact hs
  .obtain⟨_,hs,_⟩:=(I.hok d _ h)
   exact hs
 refine ì PySem.F.slot_dict_items c PySem.F.entry_dict_items ?_ (PySem.F.args_dict_items_1 _);refine wB ?_;refine wB (ġ c ?_);show wpAny _ _ _ _ _ s;refine wP ?_;show wpAny _ _ _ _ _ s;unfold Builtin.Dict.showsAll;rw[iN (by rw[hs];exact xF0)];refine wB (wP ?_);refine wB (ć (wP ⟨_,rfl,.ref ↑0,_,I.laid (o:=FF ↑0 d) (λb o e=>hP0 _ e) (à _) ⟨⟨_,ã _ rfl,rfl,rfl⟩,⟨_,ã _ rfl⟩,?_⟩,rfl,q _ (I.hok.fresh (à _))⟩));rintro h1 p ⟨o,k,r⟩ m;exact⟨o,m o k,r⟩
def qIts(X:Cx)(R:It->Hp->Prop)(x:V)(H:Hp):Prop:= ∃l d xs vs α kvs,x=.ref l/\H l=some (FF l d)/\DD X H d xs/\DenN X.K α H kvs xs/\Vals vs (xs.map (·.2.2))/\ ∀o,R (Iti X.prog X.w d o xs vs) (wC H d (.frz o (DN X.prog X.w d xs)))
def iIts(X:Cx)(to:TE):TI:=λσ H R=>to σ H λx H1=>TyD X x H1/\ ∃d xs,x=.ref d/\([]:List V)=[]/\DD X H1 d xs/\ ∀l,H1 l=none->qIts X R (.ref l) (wC H1 l (FF l d))
def Dq(A:PE X o to)(i:attributeBase o "items" X.env (eval o X.env)=eval o X.env:=by rfl)(j:(apos.endLine==pos.line)=true:=by rfl):
  PI X (.Tuple elts kt pt) (.Call (.Attribute o "items" apos) [] [] pos) (iIts X to):=by
 intro pins s σ H R I h;refine kY (Lh AM PySem.F.plainAttrs_dict PySem.F.slot_dict_items PySem.F.type_dict_items Dp A i j pins s σ H _ I h) λv k ⟨x,H1,I1,u,G⟩=>?_;obtain⟨l,d,xs,vs,α,kvs,rfl,w,n,dn,p,q⟩:=G;cases u;obtain⟨a,_⟩:=(I1.hok l _ w)
 obtain⟨⟨od,es,ep,c,N,hd,y,L,M⟩,O,hs⟩:=rN I1 n dn;refine Do a c hd ?_;have m: ∀b o,k.heap.get? b=some o->(k.heap.push {cls:=.type "dict_itemiterator",data:=.fields #[.none,.bool false,.ref d,.int 0 0,.int es.size 0,.int ep 0,.none,.none]}).get? b=some o:=λb o e=>hP0 _ e;have E:=(I1.kept (t':=k.toks) m).freezeD n dn (m d od c);refine⟨k.heap.objs.size,[k.heap.objs.size],_,_,_,rfl,E,TF hd y p,⟨_,_,ã _ rfl⟩,λb r=>?_,q od⟩;cases mS.mp r;have D:=ù (â c);obtain⟨_,B,J,C,z,K⟩:=I1.fpOk (à _) (I1.hok.fresh (à k.heap.objs.size));exact⟨by rw[zL D];exact I1.hok.fresh (à _),B,J,C,z,K⟩
def ZL(p:Er)(S:Sto):R Wk:=match cF S p with
 |some (l,kvs)=>.ok ⟨kvs.map λa=>.tup [a.1,a.2],[]⟩ (S.set l (.fdc kvs))
 |none=>.no
theorem DenN.at'{α:B9}{H:Hp}{K:J9}: ∀{kvs:K6}{xs:List (NK×Addr×ń)}{i:Nat}{b:MV×MV},DenN K α H kvs xs->kvs[i]? =some b-> ∃x,xs[i]? =some x/\Den K α H b.1 (.ref x.2.1)
 |_,_,0,_,.cons hk e a d r l,h=>by cases h;exact⟨_,rfl,a⟩
 |_,_,i+1,_,.cons hk e a d r l,h=>DenN.at' (i:=i) l h
theorem Dr(L:zP X W o f)(j:attributeBase o "items" X.env (eval o X.env)=eval o X.env:=by rfl)(d:(apos.endLine==pos.line)=true:=by rfl):
  GT X W (.Tuple elts kt pt) (.Call (.Attribute o "items" apos) [] [] pos) (λρ S=>(f ρ S).bind ZL):=by
 obtain⟨t,L,k⟩:=L;refine⟨_,Dq L j d,λα ρ S σ H Rc wd sl q=>k α ρ S σ H _ wd sl (q.bind λu p S1 A H1 e1 x1 T d1 n=>?_)⟩
 replace n:=n.shift x1
 unfold ZL at n;split at n
 .rename_i l kvs ed;obtain⟨c,xs,rfl,B,hS,O,J⟩:=tK T ed d1.1;obtain⟨vs,P,Q⟩:=VY J;refine⟨⟨c,xs,rfl,O⟩,c,xs,rfl,rfl,O,λv G=>?_⟩;have I:=T.newx (o:=FF v c) G;have Y:=T.new (o:=FF v c) G
  have b:DD X (wC H1 v (FF v c)) c xs:=by
   rcases O with h|⟨e,h⟩
   .exact .inl (by rw[zL (zQ h G)];exact h)
   .exact .inr ⟨e,by rw[zL (zQ h G)];exact h⟩
  refine⟨v,c,xs,vs,A,kvs,rfl,zT,b,J.ex0 I.toEx0,Q,λob=>?_⟩;have N:=Y.writex B b.nf (o:=.frz ob (DN X.prog X.w c xs));have z:=(J.ex0 I.toEx0).ex0 N.toEx0;have wf:=Y.write B b.nf (ob:=.fdc kvs) ⟨ob,xs,zT,z⟩;refine((n.shift I).shift N).here wf ⟨λ(α:B9) _ (H:Hp)=>H c=some _/\DenN X.K α H kvs xs/\DenL X.K α H _ vs,?_,⟨zT,z,(P.ext I).ext N⟩,λA S1 H1 M S2 H2 ⟨r,s,F⟩ x w _=>⟨x.frz _ _ _ r,s.ex0 x.toEx0,DenL.ext x F⟩,jN⟩;intro i M S2 H2 ⟨r,s,F⟩ w2;have Z:=s.length;refine⟨λhi=>?_,λhi=>⟨r,by rw[lM]at hi;lia⟩⟩;rw[lM]at hi;refine⟨⟨r,by lia⟩,?_⟩;rintro _ _ ⟨p,x,y,U,rfl,hx,hy,rfl⟩;obtain⟨E,a⟩: ∃E,kvs[i]? =some E:=⟨_,gE hi⟩
  obtain⟨x',D,dk⟩:=s.at' a;rw[hx]at D;cases D;obtain⟨y',C,dy⟩:=F.at (by rw[ö,a];rfl);rw[hy]at C;cases C;have m:=w2.newx (o:=.tup [.ref x.2.1,y]) U;refine⟨m,w2.new U,⟨m.frz _ _ _ r,s.ex0 m.toEx0,F.ext m⟩,.tup [E.1,E.2],by rw[ö,a];rfl,?_⟩;exact aM (.of zT) (zS (dk.ext m) (zS (dy.ext m) zZ))
 .exact n.elim
end
end M
end L2
namespace PySem
def PR:typeLookup (.type "zip") "keys"=pure none:=am_miss_of_fast (by decide+kernel)
theorem rY:typeLookup (.type "zip") "__getattr__"=pure none:=by rw[typeLookup_type];kernel_rfl
def iS:entryFor table "zip.__getattribute__"=some Builtin.«object.__getattribute__»:=
 entryFor_alias (id':="object.__getattribute__") (by kernel_rfl) (by decide+kernel) (by decide+kernel) (by kernel_rfl)
def aP(a:Addr)(xs:B0)(sl:Array (Option ń))(name:Str)(u:Tok)(c:typeLookup (.type "zip") name=pure none)(b:(["__module__","__name__","__qualname__","__doc__","__annotations__"]:C0).contains name=false)(hsz:name.length+100<=sizeLine:=by size_fits):
  Meets (Builtin.«object.__getattribute__» ⟨[.ref a,.str name u],[]⟩) (λA R s=>s.heap.get? a=some {cls:=.type "zip",dict:=none,data:=.fields xs,slots:=sl}/\raisesAttr (.ref a) name A R s):=
 Meets.of_wp λprog w A R s hs=>by
  obtain⟨e,g,d,i,j⟩:=s;obtain⟨h,hs⟩:=hs
  repeat (any_goals (first |assumption|wp_step))
  simp only[b,fT,iF]
  repeat (any_goals (first |assumption|wp_step))
  exact wpAny_raiseAttrError hs.1 hs.2 (attrMsg_fits (by decide+kernel) hsz)
def getAttr?_miss_zip{prog:ņ}{w:World}{A:Ņ}{E:VP}{s:Ń}{a:Addr}{xs:B0}{sl:Array (Option ń)}{name:Str}{Q:Option ń->Ń->Prop}
  (hx:s.heap.get? a=some {cls:=.type "zip",dict:=none,data:=.fields xs,slots:=sl}) (hmiss:typeLookup (.type "zip") name=pure none) (hname:(["__module__","__name__","__qualname__","__doc__","__annotations__"]:C0).contains name=false) (hA:A.handled=none)
  (h: ∀h' j,(∀b o,s.heap.get? b=some o->h'.get? b=some o)->Q none {s with heap:=h',toks:=j}) (hsz:name.length+100<=sizeLine:=by size_fits):
  wpAny (model prog w) A (getAttr? (.ref a) name) Q E s:=by
 obtain⟨m,g,d,j,n⟩:=s;have k: ∀i,(⟨m,g,d,i,n⟩:Ń).TypeIs (.ref a) "zip":=λ_=>⟨_,hx,rfl⟩
 have v:=sub_AttributeError;have r:=F.slot_zip_getattribute.lookup;have q:=F.slot_zip_getattribute.bind (.ref a);have u:=rY;unfold getAttr? getAttrBy? getAttrBy
 repeat (any_goals (first |assumption|exact k _|((with_reducible show wpAny _ _ (call (Value.builtin "zip.__getattribute__") _ _) _ _ _);refine call_meets F.slot_zip_getattribute (k _) iS (F.args_zip_getattribute_2 _ _) (aP a xs sl name _ hmiss hname hsz) ⟨hx,hA,λh' i e c=>?_⟩)|wp_step))
 obtain⟨t',p,y⟩:=c.there;show wpAny _ _ (getattributeRaised _ _ _ _ _ _ _) _ _ _;unfold getattributeRaised
 repeat (any_goals (first |assumption|wp_step))
 exact h _ _ c.keeps
def PV{M:Model}{A:Ņ}{E:VP}{s:Ń}{a:Addr}{Q:Option Obj->Ń->Prop}(h:Q (s.heap.get? a) s):wpAny M A (loadIfAlive a) Q E s:=λ_ _ _=>h
end PySem
namespace L2
namespace M
open PySem PySem.Spec PyProof.Rows
variable{kds:K1}{Q:Option ń->Ń->Prop}{ps:C0}
noncomputable def Vf(b a:ń)(TI TO:Addr):Obj:={cls:=.type "zip",dict:=none,data:=.fields #[b,a,.bool false,.ref TI,.ref TO],slots:=#[]}
structure ZipSt2(k1 k2:Bool)(z TI TO i1 i2 l1 l2:Addr)(i:Nat)(h:Heap):Prop where
 z: ∃T b,h.get? z=some (Vf (rawInt (T:Nat)) (.bool b) TI TO)/\T≠z/\T≠i1/\T≠i2/\ ∃o,h.get? T=some o
 ti:IsPair h TI (.ref i1) (.ref i2)
 s1:IsSub k1 h i1 l1 i
 s2:IsSub k2 h i2 l2 i
section
variable{prog:ņ}{w:World}{A:Ņ}{E:VP}{s:Ń}{k1 k2:Bool}{z TI TO i1 i2 l1 l2:Addr}{i:Nat}{xs ys:B0}
def PX{T:Addr}{b:Bool}{Q:Bool->Ń->Prop}(hz:s.heap.get? z=some (Vf (rawInt (T:Nat)) (.bool b) TI TO)){o:Obj}(d:s.heap.get? T=some o)
  (hQ: ∀h',h'.get? z=some (Vf (rawInt (T:Nat)) (.bool true) TI TO)->Heap.SameBut z s.heap h'->Q false {s with heap:=h'}):
  wpAny (model prog w) A (Builtin.SmallTypes.ownedTupleIsFree (.ref z)) Q E s:=by
 refine wB (ð hz rfl rfl ?_);show wpAny _ _ (loadIfAlive T >>= _) _ _ _;refine wB (PV ?_);rw[d];show wpAny _ _ _ _ _ _;refine wB (ð hz rfl rfl ?_)
 cases b with
 |true=>
  refine wP (hQ s.heap hz ?_);exact⟨rfl,λ_ _=>rfl⟩
 |false=>
  show wpAny _ _ _ _ _ _;exact wB (ô hz (by simp) λh' a c=>wP (hQ h' a c))
theorem ZM{x y:ń}{Q:VP}(D:Apart5 z TI TO i1 i2)(X:Off l1 z TO i1 i2)(N:Off l2 z TO i1 i2)(st:ZipSt2 k1 k2 z TI TO i1 i2 l1 l2 i s.heap)(q:IsSeq k1 s.heap l1 xs)(u:IsSeq k2 s.heap l2 ys)(hx:xs[i]? =some x)(U:ys[i]? =some y)
  (hQ: ∀h',ZipSt2 k1 k2 z TI TO i1 i2 l1 l2 (i+1) h'->IsPair h' ↑0 x y->
   (∀c o,c≠z->c≠i1->c≠i2->s.heap.get? c=some o->h'.get? c=some o)->Q (.ref ↑0) {s with heap:=h'}):
  wpAny (model prog w) A (Builtin.«zip.__next__» ⟨[.ref z],[]⟩) (λfin s'=> ∃v,fin=.done (.ret v)/\Q v s') E s:=by
 obtain⟨⟨T,b,F,L,K,J,O,M⟩,k,h1,h2⟩:=st;show wpAny _ _ (field (.ref z) 2 >>= _) _ _ _;refine wB (ð F rfl (x:=.bool false) rfl ?_);show wpAny _ _ _ _ _ _;refine wB (ð F rfl (x:=.ref TI) rfl (wB (č k rfl ?_)));show wpAny _ _ _ _ _ _;refine wB (PX F M λha H a=>?_);rw[iN xF0];simp only[forIn_toArray,forIn_cons,forIn_nil];refine wB (wB (wB (ú ?_)));show wpAny _ _ _ _ _ _;refine wB (fE (h1.move λo e=>a.extBut _ _ D.i1z e) (q.move λo e=>a.extBut _ _ X.1 e) hx λP B h=>wP ?_);refine wP ?_;refine wB (wB (ú ?_));show wpAny _ _ _ _ _ _;have I: ∀c o,c≠z->c≠i1->s.heap.get? c=some o->P.get? c=some o:=λc o p m e=>h.extBut _ _ m (a.extBut _ _ p e);refine wB (fE (h2.move λo e=>I _ o D.i2z D.i12.symm e) (u.move λo e=>I _ o N.1 N.2.2.1 e) U λhd r d=>wP ?_);refine wP (wP ?_);have j: ∀c o,c≠z->c≠i1->c≠i2->s.heap.get? c=some o->hd.get? c=some o:=λc o p m S e=>d.extBut _ _ S (I c o p m e);have hsz:hd.objs.size=s.heap.objs.size:=by rw[d.1,h.1,a.1]
 refine wB (wpAny_newTuple (hsz:=by show 2<=sizeLine;decide) ?_);refine wP ⟨_,rfl,?_⟩;show Q (.ref hd.objs.size) _;have C:hd.get? z=some _:=d.extBut _ _ D.i2z.symm (h.extBut _ _ D.i1z.symm H)
 have G: ∀{n:Nat},n=↑0->hd.objs.size=n->Q (.ref n) {s with heap:=hd.push {cls:=.type "tuple",data:=.seq #[x,y]}}:=λ{n} Y e2=>by
  subst Y;refine hQ _ ⟨⟨T,true,hP0 _ C,L,K,J,O,hP0 _ (j T O L K J M)⟩,hP0 _ (j TI _ D.TIz D.TIi1 D.TIi2 k),?_,?_⟩ ?_ λc o W c3 Z e=>hP0 _ (j c o W c3 Z e)
  .exact B.move λo e=>hP0 _ (d.extBut _ _ D.i12 e)
  .exact r.move λo e=>hP0 _ e
  .rw[<-e2];exact ã _ rfl
 exact G hsz rfl
def Dt{Q:Fin->Ń->Prop}(G:A.handled=none)(D:Apart5 z TI TO i1 i2)(I:Off l1 z TO i1 i2)(H:Off l2 z TO i1 i2)(st:ZipSt2 k1 k2 z TI TO i1 i2 l1 l2 i s.heap)(j:IsSeq k1 s.heap l1 xs)(p:IsSeq k2 s.heap l2 ys)(k:xs[i]? =none\/ys[i]? =none)
  (hE: ∀h' e,(∀c o,c≠z->c≠i1->c≠i2->s.heap.get? c=some o->h'.get? c=some o)->(∃o,h'.get? e=some o/\o.cls=.type "StopIteration")->E (.ref e) {s with heap:=h'}):
  wpAny (model prog w) A (Builtin.«zip.__next__» ⟨[.ref z],[]⟩) Q E s:=by
 obtain⟨⟨T,b,B,Y,X,W,Z,M⟩,u,h1,P⟩:=st;show wpAny _ _ (field (.ref z) 2 >>= _) _ _ _;refine wB (ð B rfl rfl ?_);show wpAny _ _ _ _ _ _;refine wB (ð B rfl (x:=.ref TI) rfl (wB (č u rfl ?_)));show wpAny _ _ _ _ _ _;refine wB (PX B M λU S a=>?_);rw[iN xF0];simp only[forIn_toArray,forIn_cons,forIn_nil];refine wB (wB (wB (ú ?_)));show wpAny _ _ _ _ _ _
 cases v:xs[i]? with
 |none=>
  exact wB (uN G (h1.move λo e=>a.extBut _ _ D.i1z e) (j.move λo e=>a.extBut _ _ I.1 e) v λm e d n=>hE m e (λc o r F _ q=>d _ _ F (a.extBut _ _ r q)) n)
 |some x=>
  have L:ys[i]? =none:=by rcases k with h|h;(rw[v]at h;cases h);exact h
  refine wB (fE (h1.move λo e=>a.extBut _ _ D.i1z e) (j.move λo e=>a.extBut _ _ I.1 e) v λm N d=>wP ?_);refine wP ?_;refine wB (wB (ú ?_));show wpAny _ _ _ _ _ _;have C: ∀c o,c≠z->c≠i1->s.heap.get? c=some o->m.get? c=some o:=λc o K J e=>d.extBut _ _ J (a.extBut _ _ K e);exact wB (uN G (P.move λo e=>C _ o D.i2z D.i12.symm e) (p.move λo e=>C _ o H.1 H.2.2.1 e) L λhd e y n=>hE hd e (λc o r F O q=>y _ _ O (C c o r F q)) n)
end
def ZSt(k1 k2:Bool)(z TI TO i1 i2 l1 l2:Addr)(i:Nat)(h:Heap):Prop:=ZipSt k1 k2 z TI TO i1 i2 l1 l2 i h\/ZipSt2 k1 k2 z TI TO i1 i2 l1 l2 i h
section
variable{prog:ņ}{w:World}{A:Ņ}{E:VP}{s:Ń}{k1 k2:Bool}{z TI TO i1 i2 l1 l2:Addr}{i:Nat}{xs ys:B0}
def Lu{x y:ń}(D:Apart5 z TI TO i1 i2)(q:Off l1 z TO i1 i2)(B:Off l2 z TO i1 i2)(st:ZSt k1 k2 z TI TO i1 i2 l1 l2 i s.heap)(d:IsSeq k1 s.heap l1 xs)(a:IsSeq k2 s.heap l2 ys)(r:xs[i]? =some x)(v:ys[i]? =some y)
  (hQ: ∀h',ZSt k1 k2 z TI TO i1 i2 l1 l2 (i+1) h'->IsPair h' ↑0 x y->(∀c o,c≠z->c≠TO->c≠i1->c≠i2->s.heap.get? c=some o->h'.get? c=some o)->Q (some (.ref ↑0)) {s with heap:=h'}):
  wpAny (model prog w) A (pyNext (.ref z)) Q E s:=by
 rcases st with st|st
 .have h:s.TypeIs (.ref z) "zip":=⟨_,st.z,rfl⟩
  have k:=â st.z;obtain⟨p1,H,_⟩:=st.s1.there;obtain⟨p2,g2,_⟩:=st.s2.there
  refine wB (Ĉ (î h ĉ (ì ĉ h Ļ
   (OW D q B st d a r v λh' m p j G n u=>wP (hQ h' (.inr ⟨⟨↑0,false,m,ù k,ù (â H),ù (â g2),_,n⟩,u TI _ D.TIz D.TITO D.TIi1 D.TIi2 st.ti,j,G⟩) n u)) (Ķ _))))
 .obtain⟨T,b,k,_⟩:=st.z;have h:s.TypeIs (.ref z) "zip":=⟨_,k,rfl⟩
  refine wB (Ĉ (î h ĉ (ì ĉ h Ļ
   (ZM D q B st d a r v λh' m p j=>wP (hQ h' (.inr m) p λc o C _ I F e=>j c o C I F e)) (Ķ _))))
def Vg(r:A.handled=none)(D:Apart5 z TI TO i1 i2)(q:Off l1 z TO i1 i2)(u:Off l2 z TO i1 i2)(st:ZSt k1 k2 z TI TO i1 i2 l1 l2 i s.heap)(j:IsSeq k1 s.heap l1 xs)(h:IsSeq k2 s.heap l2 ys)(a:xs[i]? =none\/ys[i]? =none)
  (hQ: ∀h',(∀c o,c≠z->c≠TO->c≠i1->c≠i2->s.heap.get? c=some o->h'.get? c=some o)->Q none {s with heap:=h'}):
  wpAny (model prog w) A (pyNext (.ref z)) Q E s:=by
 rcases st with st|st
 .have k:s.TypeIs (.ref z) "zip":=⟨_,st.z,rfl⟩
  refine wB (Ĉ (î k ĉ (ì ĉ k Ļ
   (VD r D q u st j h a λh' e m p=>?_) (Ķ _))))
  obtain⟨o,n,d⟩:=p;exact wB (ğ ⟨o,n,d⟩ isSubtype_stop (wP (hQ h' m)))
 .obtain⟨T,b,B,_⟩:=st.z;have k:s.TypeIs (.ref z) "zip":=⟨_,B,rfl⟩
  refine wB (Ĉ (î k ĉ (ì ĉ k Ļ
   (Dt r D q u st j h a λh' e m p=>?_) (Ķ _))))
  obtain⟨o,n,d⟩:=p;exact wB (ğ ⟨o,n,d⟩ isSubtype_stop (wP (hQ h' λc o v _ C y e=>m c o v C y e)))
def ZSt.frame{h h':Heap}{d:Addr}(st:ZSt k1 k2 z TI TO i1 i2 l1 l2 i h)(hd:d≠z/\d≠TI/\d≠TO/\d≠i1/\d≠i2)(k: ∀b o,b≠d->h.get? b=some o->h'.get? b=some o)(q: ∃o,h'.get? d=some o):ZSt k1 k2 z TI TO i1 i2 l1 l2 i h':=by
 obtain⟨c,n,p,m,j⟩:=hd;rcases st with⟨hz,hTI,⟨a,b,hTO⟩,h1,h2⟩|⟨⟨T,b,hz,Tz,T1,T2,oT,hT⟩,hTI,h1,h2⟩
 .exact .inl ⟨k _ _ c.symm hz,k _ _ n.symm hTI,⟨a,b,k _ _ p.symm hTO⟩,h1.move λo e=>k _ o m.symm e,h2.move λo e=>k _ o j.symm e⟩
 .refine .inr ⟨⟨T,b,k _ _ c.symm hz,Tz,T1,T2,?_⟩,k _ _ n.symm hTI,h1.move λo e=>k _ o m.symm e,h2.move λo e=>k _ o j.symm e⟩;by_cases e:T=d
  .rw[e];exact q
  .exact⟨oT,k _ _ e hT⟩
end
section
variable{prog:ņ}{w:World}{K:Type}[DecidableEq K]{knd:KeyKind prog w K}{A:Ņ}{E:VP}{s:Ń}{R:Result->Ń->Prop}{k1 k2:Bool}{z TI TO i1 i2 l1 l2 D:Addr}{xs ys:B0}
theorem Lv(hh:A.in1.handled=none)(P:Apart5 z TI TO i1 i2)(o1:Off l1 z TO i1 i2)(o2:Off l2 z TO i1 i2)(hd:D≠z/\D≠TI/\D≠TO/\D≠i1/\D≠i2){h₀:Heap}(G:IsSeq k1 h₀ l1 xs)(J:IsSeq k2 h₀ l2 ys)(kvs:List (K×ń))(hz:kvs.length<=sizeLine)
  (hkv: ∀(i:Nat)(C:K×ń),kvs[i]? =some C-> ∃x,xs[i]? =some x/\ys[i]? =some C.2/\knd.is C.1 x=true) (hend:xs[kvs.length]? =none\/ys[kvs.length]? =none)
  (fz:h₀.get? z=none) (fTO:h₀.get? TO=none) (f1:h₀.get? i1=none) (f2:h₀.get? i2=none) (fD:h₀.get? D=none):
  ∀(k i:Nat)(j:Int)(s:Ń),kvs.length - i=k->i<=kvs.length->ZSt k1 k2 z TI TO i1 i2 l1 l2 i s.heap->s.heap.DictOf knd D (merged [] (kvs.take i))->(∀b o,h₀.get? b=some o->s.heap.get? b=some o)->
   (∀h' tk,(∀b o,h₀.get? b=some o->h'.get? b=some o)->h'.DictOf knd D (merged [] kvs)->R (.ok (.ret .none)) {s with heap:=h',toks:=tk})->
   codeAny (model prog w) A (.builtin "dict.update.loop" ⟨[.ref D,.ref z,rawInt j,.none],[]⟩) R s:=by
 have O: ∀{b c:Addr}{o:Obj},h₀.get? b=some o->h₀.get? c=none->b≠c:=λe n q=>by rw[q,n]at e;cases e
 have old: ∀{h h':Heap},(∀b o,h₀.get? b=some o->h.get? b=some o)->(∀c o,c≠z->c≠TO->c≠i1->c≠i2->h.get? c=some o->h'.get? c=some o)-> ∀b o,h₀.get? b=some o->h'.get? b=some o:=λa c b o e=>c b o (O e fz) (O e fTO) (O e f1) (O e f2) (a b o e);obtain⟨d1,d2,T,d4,d5⟩:=hd;have dk: ∀{h h':Heap}{m:List (K×ń)},h.DictOf knd D m->(∀c o,c≠z->c≠TO->c≠i1->c≠i2->h.get? c=some o->h'.get? c=some o)->h'.DictOf knd D m:=λ⟨o,es,ep,W,r⟩ c=>⟨o,es,ep,c D o d1 T d4 d5 W,r⟩
 intro k
 induction k with
 |zero=>
  intro i j s hk hi B S d hR;have Y:i=kvs.length:=by lia
  subst Y;refine ŀ PySem.F.entry_dict_update_loop ?_;rw[Ĺ PySem.F.plain_dict_update_loop _];show wpAny _ A.in1 _ _ _ s;refine wB (Vg hh P o1 o2 B (G.move λo e=>d _ o e) (J.move λo e=>d _ o e) hend λh' p=>?_);show wpAny _ A.in1 _ _ _ _;refine wB (wP ?_);rw[take_length]at S;exact wP (hR h' s.toks (old d p) (dk S p))
 |succ k ih=>
  intro i j s hk hi B S d hR;have M:i<kvs.length:=by lia
  obtain⟨C,y⟩: ∃C,kvs[i]? =some C:=⟨_,gE M⟩
  obtain⟨x,hx,hy,I⟩:=hkv i C y;refine ŀ PySem.F.entry_dict_update_loop ?_;rw[Ĺ PySem.F.plain_dict_update_loop _];show wpAny _ A.in1 _ _ _ s;refine wB (Lu P o1 o2 B (G.move λo e=>d _ o e) (J.move λo e=>d _ o e) hx hy λh' E Q p=>?_);have u:=old d p;have U:=dk S p;have X:Shared.TypeIs {s with heap:=h'} (.ref ↑0) "tuple":=⟨_,Q,rfl⟩
  refine wB (ú ?_);refine wB (wpAny_tryCatch ?_);unfold Builtin.Dict.pairItems;refine wB (ĝ X ?_);rw[iP (by decide)];refine wB ?_;show wpAny _ _ _ _ _ _;refine wB (wpAny_load Q ?_);refine wP (wP ?_);show wpAny _ _ _ _ _ _;refine ú ?_;have N:=merged_length_le [] (kvs.take i);have aa:(kvs.take i).length<=kvs.length:=List.length_take_le' i kvs;refine wpAny_dictSet_pairs (hsz:=by rw[ÿ]at N;lia) I U λh2 L H=>?_;have v: ∀b o,h₀.get? b=some o->h2.get? b=some o:=λb o e=>by rw[H.2 b (O e fD)];exact u b o e
  refine wP ⟨plainId_quiet PySem.F.plain_dict_update_loop _,ih (i+1) (j+1) _ #[0] M (E.frame ⟨d1,d2,T,d4,d5⟩ (λb o hb e=>by rw[H.2 b hb];exact e) ?_) ?_ v λh3 Z k3 T=>hR h3 Z k3 T⟩
  .obtain⟨o,_,_,W,_⟩:=id L;exact⟨o,W⟩
  .rw[merged_take_succ _ _ _ _ y];exact L
def HM{kvs:List (K×ń)}{Q:VP}(v:A.handled=none)(P:Apart5 z TI TO i1 i2)(N:Off l1 z TO i1 i2)(L:Off l2 z TO i1 i2)(st:ZipSt k1 k2 z TI TO i1 i2 l1 l2 0 s.heap){h₀:Heap}(j: ∀b o,h₀.get? b=some o->s.heap.get? b=some o)
  (hl1:IsSeq k1 h₀ l1 xs) (hl2:IsSeq k2 h₀ l2 ys) (hz:kvs.length<=sizeLine) (hkv: ∀(i:Nat)(u:K×ń),kvs[i]? =some u-> ∃x,xs[i]? =some x/\ys[i]? =some u.2/\knd.is u.1 x=true) (hend:xs[kvs.length]? =none\/ys[kvs.length]? =none)
  (fz:h₀.get? z=none) (fTO:h₀.get? TO=none) (f1:h₀.get? i1=none) (f2:h₀.get? i2=none)
  (h: ∀h' C,(∀b o,h₀.get? b=some o->h'.get? b=some o)->h'.DictOf knd ↑0 (merged [] kvs)->Q (.ref ↑0) {s with heap:=h',toks:=C}):
  wpAny (model prog w) A (call (.type "dict") [.ref z]) Q E s:=by
 refine callType_codes (Q₁:=λq d=>q=.ref ↑0/\d={s with heap:=s.heap.push {cls:=.type "dict",data:=.dict #[]}}) PySem.F.kt_called_dict (PySem.F.kt_typeCall_dict_1 _) PySem.F.entry_dict_init (kt_code_dict_new _ ⟨rfl,rfl⟩) ?_;rintro q d ⟨rfl,rfl⟩;have c:(s.heap.push {cls:=.type "dict",data:=.dict #[]}).DictOf knd ↑0 []:=Heap.DictOf.new s.heap;have y: ∀b o,s.heap.get? b=some o->(s.heap.push {cls:=.type "dict",data:=.dict #[]}).get? b=some o:=λb o e=>hP0 _ e;refine⟨c.typeIs,PySem.F.args_dict_init_2 _ _,?_⟩;unfold Builtin.«dict.__init__»;refine wB ?_;unfold Builtin.Dict.selfAndRest;refine wB (ġ c.typeIs ?_);show wpAny _ _ _ _ _ _;refine wP ?_;show wpAny _ _ (Builtin.Dict.updateFrom "dict.__init__" ↑0 (.ref z) [] .none) _ _ _;unfold Builtin.Dict.updateFrom;refine wB (ĝ ⟨_,y _ _ st.z,rfl⟩ ?_);rw[iP (by decide)];refine wB (getAttr?_miss_zip (y _ _ st.z) PR (by decide+kernel) v (λh1 I k1=>?_) (by decide+kernel));rw[iP (show(none:Option ń).isNone=true from rfl)];refine wB (Ę ?_);obtain⟨k,p,⟨a,b,n⟩,H,G⟩:=st;have m: ∀b o,s.heap.get? b=some o->h1.get? b=some o:=λb o e=>k1 b o (y b o e);refine wB (wpAny_pyIter_zip (m _ _ k) ?_);have ne: ∀{b:Addr}{o:Obj},s.heap.get? b=some o->↑0≠b:=λe=>ù (â e);obtain⟨p1,J,_⟩:=H.there;obtain⟨p2,g2,_⟩:=G.there;refine wP ⟨plainId_quiet PySem.F.plain_dict_update_loop _,Lv (h₀:=h₀) (by first |exact v|exact v) P N L ⟨ne k,ne p,ne n,ne J,ne g2⟩ hl1 hl2 kvs hz hkv hend fz fTO f1 f2 ?_ _ 0 0 _ rfl (zero_le _) (.inl ⟨m _ _ k,m _ _ p,⟨a,b,m _ _ n⟩,H.move λo e=>m _ o e,G.move λo e=>m _ o e⟩) ?_ (λb o e=>m b o (j b o e)) λh' C M B=>⟨rfl,h h' C M B⟩⟩
 .cases r:h₀.get? ↑0 with
  |none=>rfl
  |some D=>exact absurd (â (j _ _ r)) (Į _)
 .obtain⟨D,es,ep,r,rest⟩:=c;exact⟨D,es,ep,k1 _ _ r,rest⟩
end
section
variable{X:Cx}{W:XW}{α:B9}{H:Hp}{a b:Expr}{p1 p2 pos pos2:Pos}{ta:TA}{af:Rho->Sto->R (List Er)}
def tDZ(X:Cx)(ta:TA):TE:=λσ H Q=>ta σ H λvs H1=> ∃(k1 k2:Bool)(l1 l2:Addr)(us ws:List V)(ks:List Key),vs=[.ref l1,.ref l2]/\GV k1 X.K H1 l1 us/\GV k2 X.K H1 l2 ws/\us=ks.map kV/\X.calm=true/\ ∀d,H1 d=none->Q (.ref d) (wC H1 d (.dK (WA (ks.zip ws))))
theorem Du(X:Cx): ∀{ks:List Key}{is b:A0}{ws:List V},Vals (ks.map kV) is->Vals ws b->KV (ks.zip ws) (ks.zip b)/\ ∀(i:Nat)(a:Key×ń),(ks.zip b)[i]? =some a-> ∃x,is[i]? =some x/\b[i]? =some a.2/\(kZ X.prog X.w).is a.1 x=true
 |[],_,_,_,_,_=>⟨.nil,λi a h=>by simp at h⟩
 |k::ks,_,_,_,.cons r t,.nil=>⟨.nil,λi a h=>by simp at h⟩
 |k::ks,_,_,_,.cons r t,.cons r' t'=>by
  obtain⟨h1,c⟩:=Du X t t';refine⟨.cons ⟨rfl,r'⟩ h1,λi a h=>?_⟩
  cases i with
  |zero=>cases h;exact⟨_,rfl,rfl,VZ r⟩
  |succ i=>exact c i a h
theorem Lw(C:Gl X "dict")(P:X.mg "dict"=none)(G:Gl X "zip")(E:X.mg "zip"=none)(Y:PA X [a,b] ta)(hs:starEach [a,b] X.env=[(false,eval a X.env),(false,eval b X.env)]:=by rfl)(m:starEach [b] X.env=[(false,eval b X.env)]:=by rfl)
  (hz:starEach [.Call (.Name "zip" p2) [a,b] [] pos2] X.env=[(false,eval (.Call (.Name "zip" p2) [a,b] [] pos2) X.env)]:=by rfl):
  PE X (.Call (.Name "dict" p1) [.Call (.Name "zip" p2) [a,b] [] pos2] [] pos) (tDZ X ta):=by
 intro pins s σ H Q I h;refine Call_ (oM I C P LW (Č ?_ (by rw[hz];rfl) (by rfl)));rw[hz];show wpAny _ _ _ _ _ s;refine Calls.spliced_cons ?_;refine Call_ (oM I G E Cj (Č (kY (Y pos2 pins s σ H _ I h) λus d ⟨vs,H1,I1,Z,q1⟩=>?_) (by rw[hs,m]) (by rw[m];rfl)));obtain⟨k1,k2,l1,l2,T,ws,B,rfl,c1,c2,rfl,hc,q⟩:=q1
 cases Z with
 |cons r rr=>
  cases rr with
  |cons r' rr=>
   cases rr;cases r;cases r';obtain⟨its,L,p1,z1⟩:=I1.seqK c1;obtain⟨j,K,p2,z2⟩:=I1.seqK c2;refine OX p1 p2 λh' st u=>Calls.spliced_nil ?_;obtain⟨S,e2⟩:=Du X L K;have M:=L.length;have n2:=K.length;rw[lM]at M
   have lt: ∀{k:Bool}{l:Addr}{A:B0},IsSeq k d.heap l A->l<d.heap.objs.size:=λ{k} {l} {A} p=>by
    cases k with
    |true=>obtain⟨o,e,_⟩:=(p:d.heap.IsList l A);exact â e
    |false=>obtain⟨o,e,_⟩:=(p:d.heap.IsTuple l A);exact â e
   have v: ∀{l:Addr},l<d.heap.objs.size->Off l (d.heap.objs.size+4) (d.heap.objs.size+3) d.heap.objs.size (d.heap.objs.size+1):=λ{l} h=>by exact⟨ë (ç h (Ē _ _)),ë (ç h (Ē _ _)),ë h,ë (ç h (Ē _ _))⟩
   have y: ∀n,d.heap.objs.size<=n->d.heap.get? n=none:=λn hn=>by
    cases C:d.heap.get? n with
    |none=>rfl
    |some oo=>exact absurd (â C) (Nat.not_lt.mpr hn)
   have c:d.heap.objs.size<=h'.objs.size:=by
    have:=â st.z;have h4:d.heap.objs.size+4<h'.objs.size:=this
    lia
   refine HM (knd:=kZ X.prog X.w) (kvs:=B.zip j) (I1.ok.hd hc) (apart_new _) (v (lt p1)) (v (lt p2)) st u p1 p2 (by rw[ĸ];lia) (λi N hi=>?_) ?_ (y _ (Ē _ _)) (y _ (Ē _ _)) (y _ (à _)) (y _ (Ē _ _)) λh2 W J F=>?_
   .obtain⟨x,O,g2,U⟩:=e2 i N hi;exact⟨x,by simpa using O,by simpa using g2,U⟩
   .rw[ĸ];by_cases D:B.length<=j.length
    .left;rw[min_eq_left D,M];simp
    .right;rw[min_eq_right #[0]];simp
   .have hf:=ZH (B.zip ws);rw[ĸ]at hf;refine⟨.ref h'.objs.size,_,I1.laid (t':=W) J c (show ObjOk X.prog X.w _ h2 _ (.dK (WA (B.zip ws)))from⟨by lia,ļ.mpr (Ne.symm (ë (ç (LH I1) c))),_,WB S .nil,F⟩),rfl,q _ (I1.hok.fresh c)⟩
def Lx:List Er->Sto->R Er
 |[p,q],S=>match srcOf S p with
  |some a=>match srcOf S q with
   |some b=>if a.ds.all tP=true then .ok (.val (.loc S.length)) (S++[.dic (Og (a.ds.zip b.ds))])else .no
   |none=>.no
  |none=>.no
 |_,_=>.no
theorem PY: ∀{ds:K1}{us:List V},ds.all tP=true->DenL X.K α H ds us-> ∃b:List Key,us=b.map kV/\ ∀{es:K1}{ws:List V},DenL X.K α H es ws->DenK X.K α H (ds.zip es) (b.zip ws)
 |[],us,_,l=>⟨[],by rw[l.isnil];rfl,λ_=>.nil⟩
 |d::ds,us,h,l=>by
  obtain⟨v,r,rfl,i,j⟩:=l.uncons;rw[List.all_cons,aE]at h;obtain⟨c,a⟩:=ñ.mp h.1;obtain⟨b,rfl,f⟩:=PY h.2 j;refine⟨c::b,by rw[Dh a i];rfl,λ{es} {ws} le=>?_⟩
  cases es with
  |nil=>rw[le.isnil];exact .nil
  |cons e es=>
   obtain⟨m,n,rfl,k,l2⟩:=le.uncons;exact .cons (Dg a) k (f l2)
def Ly(O:X.calm=true)(z:Gl X "dict")(D:X.mg "dict"=none)(j:Gl X "zip")(n:X.mg "zip"=none)(h:EK X W [a,b] af)(hs:starEach [a,b] X.env=[(false,eval a X.env),(false,eval b X.env)]:=by rfl)(i:starEach [b] X.env=[(false,eval b X.env)]:=by rfl)
  (hz:starEach [.Call (.Name "zip" p2) [a,b] [] pos2] X.env=[(false,eval (.Call (.Name "zip" p2) [a,b] [] pos2) X.env)]:=by rfl):
  zP X W (.Call (.Name "dict" p1) [.Call (.Name "zip" p2) [a,b] [] pos2] [] pos) (λρ S=>(af ρ S).bind Lx):=by
 obtain⟨t,h,k⟩:=h;refine⟨_,Lw z D j n h hs i hz,λα ρ S σ H Q A sl q=>k α ρ S σ H _ A sl (q.bind λvs rs S1 T H1 e K d Z c=>?_)⟩
 replace c:=c.shift K
 unfold Lx at c;split at c
 .rename_i r1 r2;split at c
  .rename_i P G;split at c
   .rename_i N U;split at c
    .rename_i E;obtain⟨u,v,rfl,L,M⟩:=Ob Z;obtain⟨l1,P1,rfl,p1,C⟩:=AB d G L;obtain⟨l2,P2,rfl,p2,Y⟩:=AB d U M;obtain⟨us,B,g2⟩:=C.get _ _ _ p1;obtain⟨ws,J,I⟩:=Y.get _ _ _ p2;obtain⟨w,rfl,f⟩:=PY E g2;have F:=f I;refine⟨P.k,N.k,l1,l2,_,ws,w,rfl,B,J,rfl,O,λp r=>?_⟩;have s:=d.newx (o:=.dK (WA (w.zip ws))) r;obtain⟨x,y⟩:=d.put (m:=.dic _) r (.inl ⟨_,zT,(AR F .nil).ex0 ⟨⟨[p],rfl⟩,s.tup,s.frz⟩⟩);exact c _ _ _ x y (DenE.val (oQ (by rw[<-d.len,å (à _),sub_self];rfl)))
    .exact c.elim
   .exact c.elim
  .exact c.elim
 .exact c.elim
end
section
open PySem.SeqAt
open PySem.AutoSeq1 (wpAny_loadPart')
open PySem.MeetsSeq PySem.MeetsSeq2 PySem.MeetsSeq3
theorem ZN(l b:Addr)(items a:B0)(n G:Nat)(F C:Option Addr)(sl D:Array (Option ń))(v:Bool)(k:Nat):
  ∀i:Nat,items.size - i=k->i<=items.size->i<=a.size->Meets (Builtin.«list.__eq__.loop» ⟨[.ref l,.ref b,rawInt i,rawInt 0],[]⟩)
   (λA R s=>s.heap.get? l=some {cls:=.type "list",dict:=F,data:=.seq items n,slots:=sl}/\s.heap.get? b=some {cls:=.type "list",dict:=C,data:=.seq a G,slots:=D}/\
    LexR A.in1 s (items.toList.drop i) (a.toList.drop i) v/\R (.ok (.ret (.bool v))) s):=by
 induction k with
 |zero=>
  intro i I h1 L prog w A R s h;obtain⟨E,g,d,K,H⟩:=s;obtain⟨p,o,m,h⟩:=h
  wp_walk using þ p,þ o
  have c:items[((i:Nat):Int).toNat]? =none:=by simp;lia
  have hd:items.toList.drop i=[]:=by simp;lia
  rw[hd]at m
  have z:v=decide (items.size<a.size):=by
   generalize M:a.toList.drop i=zs at m;have e:=congrArg List.length M;rw[õ,í]at e
   cases m with
   |nn=>simp only[ÿ]at e;exact(dF0 #[0]).symm
   |nc x xs=>simp only[lC]at e;exact(dT0 #[0]).symm
  rw[z]at h;rw[c]
  cases j:a[((i:Nat):Int).toNat]? with
  |none=>
   wp_walk using þ p,þ o
   exact h
  |some y=>
   wp_walk using þ p,þ o
   exact h
 |succ k ih=>
  intro i I h1 L prog w A R s h;obtain⟨E,g,d,K,H⟩:=s;obtain⟨p,o,m,h⟩:=h
  wp_walk using þ p,þ o
  have u:i<items.size:=by lia
  have c:items[((i:Nat):Int).toNat]? =some items[i]:=by simp[u]
  have hd:items.toList.drop i=items[i]::items.toList.drop (i+1):=by rw[Ħ (by simpa using u)];simp
  have J:((i:Int)+1)=((i+1:Nat):Int):=by push_cast;rfl
  rw[hd]at m;by_cases q:i<a.size
  .have j:a[((i:Nat):Int).toNat]? =some a[i]:=by simp[q]
   have r:a.toList.drop i=a[i]::a.toList.drop (i+1):=by rw[Ħ (by simpa using q)];simp
   rw[r]at m;rw[c,j]
   cases m with
   |eq he hr=>
    refine wB (he prog w _ _ ?_)
    wp_walk
    rw[J];exact⟨plainId_quiet plain_eq_loop _,ŀ entry_eq_loop (by rw[Ĺ plain_eq_loop _];exact ih (i+1) #[0] #[0] #[0] prog w A R _ ⟨p,o,hr,h⟩)⟩
   |ne he hr=>
    refine wB (he prog w _ _ ?_);have B:=hr prog w
    wp_walk using þ p,þ o
    rw[c,j]
    wp_walk using B
    exact h
  .have j:a[((i:Nat):Int).toNat]? =none:=by simp;lia
   have r:a.toList.drop i=[]:=by simp;lia
   rw[r]at m;cases m;have z:decide (items.size<a.size)=false:=dF0 #[0];rw[<-z]at h;rw[c,j]
   wp_walk using þ p,þ o
   exact h
def ZO(l b:Addr)(items a:B0)(n o:Nat)(k e:Option Addr)(sl c:Array (Option ń))(i:Bool):
  Meets (Builtin.«list.__lt__» ⟨[.ref l,.ref b],[]⟩)
   (λA R s=>s.heap.get? l=some {cls:=.type "list",dict:=k,data:=.seq items n,slots:=sl}/\s.heap.get? b=some {cls:=.type "list",dict:=e,data:=.seq a o,slots:=c}/\
    LexR A.in1 s items.toList a.toList i/\R (.ok (.ret (.bool i))) s):=by
 intro prog w A R s h;obtain⟨q,g,d,r,v⟩:=s;obtain⟨m,j,p,h⟩:=h;have u:=AutoSeq1.sub_list_list
 wp_walk using þ m,þ j
 exact⟨plainId_quiet plain_eq_loop _,ŀ entry_eq_loop (by exact ZN l b items a n o k e sl c i _ 0 rfl (zero_le _) (zero_le _) prog w A R _ ⟨m,j,by simpa using p,h⟩)⟩
end
def LstAt(h:Heap)(a:Addr)(its:A0):Prop:= ∃o n,h.get? a=some o/\o.cls=.type "list"/\o.data=.seq its.toArray n
section
variable{A:Ņ}{E:VP}{s:Ń}
def Dv{M:Model}{b:A0}(m:b≠[])(h: ∀x,x∈b-> ∃a its,x=.ref a/\LstAt s.heap a its):
  wpAny M A (keyKind' b.toArray) (λk s'=>s'=s/\k=oneType') E s:=by
 rw[keyKind'_eq];refine wB (û (Srt.wp_mapMA (g:=λ_=>(none:Option ń)) λx i=>?_) (λr s' d=>?_) λ_ _ e=>e)
 .obtain⟨a,its,rfl,o,n,h1,j,q⟩:=h x i;refine wB (ĝ ⟨o,h1,j⟩ ?_);exact wP ⟨rfl,rfl⟩
 .obtain⟨rfl,rfl⟩:=d
  match b,m,h with
  |x::l,m,h=>
   rw[iN (by simp)];refine wB (wB (û (Srt.wp_mapMA (g:=λ_=>Value.type "list") λx i=>?_) (λr s' d=>?_) λ_ _ e=>e))
   .obtain⟨a,its,rfl,o,n,h1,j,q⟩:=h x i;exact ĝ ⟨o,h1,j⟩ ⟨rfl,rfl⟩
   .obtain⟨rfl,rfl⟩:=d;have p:(List.map (λ_=>Value.type "list") (x::l)).toArray[0]? =some (Value.type "list"):=by simp
    have c:((List.map (λ_=>Value.type "list") (x::l)).toArray.all λx=>x==Value.type "list")=true:=by simp only[all_toArray,all_map,ą];intro _ _;rfl
    rw[p];dsimp only;rw[c];exact wP (wP ⟨rfl,rfl⟩)
theorem ZP{prog:ņ}{w:World}{l b:Addr}{its a:A0}{k:Bool}{Q:Bool->Ń->Prop}(D:A.units+2<cLine)(z:LstAt s.heap l its)(r:LstAt s.heap b a)(y:LexR A.in1 s its a k)(B:Q k s):
  wpAny (model prog w) A (keyLt' oneType' (.ref l) (.ref b)) Q E s:=by
 obtain⟨⟨q,u,o,sl⟩,n,h,v,hd⟩:=z;obtain⟨⟨p,m,c,i⟩,C,j,d,e⟩:=r;subst v hd d e;rw[keyLt'_oneType];refine wB (wpAny_cRoomFor #[0] ?_);refine wB (wpAny_callSpecialIfBound?_slot ⟨_,h,rfl⟩ PySem.F.slot_list_lt (call_meets PySem.F.slot_list_lt ⟨_,h,rfl⟩ PySem.F.entry_list_lt (PySem.F.args_list_lt_2 _ _) (ZO l b _ _ n C u m sl i k) ⟨h,j,y,?_⟩));exact ĵ B
end
def KX(l:Bool)(K:J9)(α:B9)(H:Hp)(d:MV)(v:V):Prop:=if l=true then∃es a vs,d=.tup es/\v=.ref a/\H a=some (.lst vs)/\a∉α/\DenL K α H es vs else Den K α H d v
inductive KXL(l:Bool)(K:J9)(α:B9)(H:Hp):List MV->List V->Prop
 |nil:KXL l K α H [] []
 |cons {d v ds vs}:KX l K α H d v->KXL l K α H ds vs->KXL l K α H (d::ds) (v::vs)
noncomputable def ZQ(l:Bool)(d:MV):Er:=if l=true then(match d with |.tup es=>.new es|d=>.val d)else .val d
def Gn(l b:Bool)(d:MV):Prop:=if l=true then∃es,d=.tup es else KindD b d
abbrev WF(l b:Bool):SortKind:=if l=true then oneType' else Dc b
section
variable{l:Bool}{K:J9}{α:B9}{H H':Hp}
def KX.ext(x:Ext α H α H'){d:MV}{v:V}(h:KX l K α H d v):KX l K α H' d v:=by
 cases l with
 |true=>obtain⟨es,a,vs,c,b,h,n,l⟩:=h;exact⟨es,a,vs,c,b,x.keep a _ h n,n,DenL.ext x l⟩
 |false=>exact Den.ext x h
theorem KXL.ext(x:Ext α H α H'): ∀{ds:K1}{vs:List V},KXL l K α H ds vs->KXL l K α H' ds vs
 |_,_,.nil=>.nil
 |_,_,.cons h t=>.cons (h.ext x) (KXL.ext x t)
theorem KXL.length: ∀{ds:K1}{vs:List V},KXL l K α H ds vs->vs.length=ds.length
 |_,_,.nil=>rfl
 |_,_,.cons h t=>by rw[lC,lC,KXL.length t]
theorem KXL.append: ∀{ds es:K1}{vs us:List V},KXL l K α H ds vs->KXL l K α H es us->KXL l K α H (ds++es) (vs++us)
 |_,_,_,_,.nil,h=>h
 |_,_,_,_,.cons a t,h=>.cons a (KXL.append t h)
theorem KXL.at: ∀{ds:K1}{vs:List V}{i:Nat}{d:MV},KXL l K α H ds vs->ds[i]? =some d-> ∃v,vs[i]? =some v/\KX l K α H d v
 |_,_,0,_,.cons h t,e=>by cases e;exact⟨_,rfl,h⟩
 |_,_,i+1,_,.cons h t,e=>KXL.at (i:=i) t e
theorem KXL.get: ∀{ds:K1}{vs:List V}{i:Nat}{v:V},KXL l K α H ds vs->vs[i]? =some v-> ∃d,ds[i]? =some d/\KX l K α H d v
 |_,_,0,_,.cons h t,e=>by cases e;exact⟨_,rfl,h⟩
 |_,_,i+1,_,.cons h t,e=>KXL.get (i:=i) t e
def KXL.den: ∀{ds:K1}{vs:List V},KXL false K α H ds vs->DenL K α H ds vs
 |_,_,.nil=>zZ
 |_,_,.cons h t=>zS h t.den
def Vh{b:Bool}{d:MV}{u:V}(k:Gn l b d)(h:DenX K α H (ZQ l d) u):KX l K α H d u:=by
 cases l with
 |true=>obtain⟨es,rfl⟩:=k;obtain⟨b,vs,e,h,n,l⟩:=h;exact⟨es,b,vs,rfl,e,h,n,l⟩
 |false=>exact h
end
section
variable{X:Cx}{l b:Bool}{α:B9}{S:Sto}{H:Hp}{pins:J5}{σ:St}{s:Ń}{k:Nat}{fa:Addr}{fd:FuncData}{ps:C0}{Fd:List MV->Sto->R Er}
structure LpX(l:Bool)(X:Cx)(pins:J5)(σ:St)(α:B9)(S:Sto)(H:Hp)(L KS:Addr)(e1:Nat)(kds:K1)(m:Nat)(s':Ń):Prop where
 go: ∃(H':Hp)(ks:A0)(n:Nat)(kvs:List V),Inv X pins σ H' s'/\Ext α H α H'/\Wd X.g α S H'/\s'.heap.get? L=some (seqObj "list" #[] e1)/\s'.heap.get? KS=some (seqObj "list" ks.toArray n)/\H' L=none/\H' KS=none/\
  Vals kvs ks/\KXL l X.K α H' (kds.take m) kvs
theorem Dw(F:FnOk X.prog X.w X.K X.mg X.base EB k fa fd ps (SD X.g 1 Fd))(hr:Room (k+2) X.A)(c:Binds X.K fd ps []){L i:Addr}{D:Nat}{ds:K1}{xs:List V}{its:A0}(T:L≠i)
  (fL: ∀H',H' L=none->oN X pins H' L) (fK: ∀H',H' i=none->oN X pins H' i) (dl:DenL X.K α H ds xs) (rv:Vals xs its) (hlen:ds.length<128) (hkl:kds.length=ds.length)
  (hk: ∀(m:Nat) d kd,ds[m]? =some d->kds[m]? =some kd->zH 1 Fd [.val d] S=.ok (ZQ l kd) S) (hkind: ∀d,d∈kds->Gn l b d) {m:Nat} {x:ń} (hx:its[m]? =some x) {A':B0} {E':VP} {P:ForInStep PUnit->Ń->Prop}
  (h:LpX l X pins σ α S H L i D kds m s) (hp: ∀s',LpX l X pins σ α S H L i D kds (m+1) s'->P (.yield ⟨⟩) s'):wpAny (model X.prog X.w) X.A.in1.in1 (Srt.kStep L fa A' (.ref i) x) P E' s:=by
 obtain⟨H',C,n,kvs,I,xt,Y,gL,Z,nL,nK,vk,dk⟩:=h.go;have hm:m<xs.length:=by rw[rv.length];exact(gS.mp hx).1
 obtain⟨J,r⟩: ∃J,xs[m]? =some J:=⟨xs[m],gE hm⟩
 obtain⟨x',y,rx⟩:=rv.get r;rw[hx]at y;cases y;obtain⟨d,hd,dd⟩:=dl.get r;obtain⟨kd,p⟩: ∃kd,kds[m]? =some kd:=⟨kds[m]'(by rw[hkl, <-dl.length];exact hm),gE _⟩
 have hc:=hk m d kd hd p
 have I2:=I.pinned (λb c=>by
  rcases mC.mp c with rfl|c
  .exact fL _ nL
  .rw[mS.mp c];exact fK _ nK) (λb c=>by
  rcases mC.mp c with rfl|c
  .exact⟨_,gL,λv z=>by cases z⟩
  .rw[mS.mp c];exact⟨_,Z,λv z=>by cases z⟩)
 have pl:sW [L,i] s.heap=[(L,seqObj "list" #[] D),(i,seqObj "list" C.toArray n)]:=by unfold sW;simp[gL,Z]
 rw[pl]at I2;unfold Srt.kStep;refine wB (Ĉ (û (Ld (Q:=λu j=> ∃a,Ext α H' a j/\Wd X.g a S j/\KX l X.K a j kd u) F hr c I2 (us:=[x]) (vs:=[J]) (.cons rx .nil) ?_) (λu s2 h2=>?_) λ_ _ e=>e))
 .refine IQ (W:=W0) (Ext.refl α H') Y (.cons (DenE.val (dd.ext xt)) (λds b e=>by cases e) .nil) ?_;rw[hc];exact λu a j q E U=>⟨a,q,E,Vh (hkind kd (è p)) U.1⟩
 .obtain⟨v,j,G,O,a,q,E,U⟩:=h2;have N:=Uo Y q E;subst N;have pL:=G.pin (L,seqObj "list" #[] D) (by simp);have B:=G.pin (i,seqObj "list" C.toArray n) (by simp);have I4:=G.unpinned;dsimp only;have kl:C.length<128:=by rw[<-vk.length,dk.length,lT];lia
  refine wB (listUpdate_at B.1 rfl ?_ (by rw[sA0];have:=ė;lia) (by rw[Ĝ,sA0];have:=ė;lia));obtain⟨n',M⟩: ∃n',(s2.heap.update i (Obj.mapSeq λv=>v.push u)).get? i=some _:=⟨_,by have:=get?_update_seq B.1 (λv=>v.push u);rw[List.push_toArray]at this;exact this⟩
  refine wP (hp _ ⟨j,C++[u],n',kvs++[v],?_,xt.trans q,E,?_,M,pL.2.1,B.2.1,vk.append (.cons O .nil),?_⟩)
  .obtain⟨f0,f1,f2,f3,f4,f5⟩:=fK j B.2.1;exact I4.turned (λb o c e=>(ý _ _ (Ne.symm c)).trans e) f0 f1 f3 f4 f5
  .exact(ý _ _ (Ne.symm T)).trans pL.1
  .rw[List.take_succ,p];exact(KXL.ext q dk).append (.cons U .nil)
def Dx{es:K1}(h:bA (.tup es)=true):uT es=true:=by unfold bA at h;exact h
def Vi(I:↑2){d b:MV}{v:V}(p:bA d=true)(i:bA b=true)(h:KX l X.K α H d v)(h':KX l X.K α H b v):d=b:=by
 cases l with
 |true=>
  obtain⟨es,a,vs,rfl,rfl,h1,_,l1⟩:=h;obtain⟨j,m,k,rfl,e,c,_,l2⟩:=h';cases e;rw[h1]at c;cases c;rw[EZ I (Dx p) (Dx i) l1 l2]
 |false=>exact VW I p i h h'
def TH(I:↑2){a:Addr}{vs:List V}(h:H a=some (.lst vs)): ∃its,Vals vs its/\LstAt s.heap a its:=by obtain⟨its,r,⟨o,n,d,c,hd,b⟩,z⟩:=I.list (.of h:SqL X.K H a vs);exact⟨its,r,o,n,d,c,b⟩
theorem Lz(I:↑2)(j:Wd X.g α S H){A:Ņ}(C:A.units+64<cLine){d f:MV}{x y:V}{u v:ń}{k:Bool}(kd:Gn l b d)(J:Gn l b f)(h1:KX l X.K α H d x)(r:KX l X.K α H f y)(o:RelV x u)(p:RelV y v)
  (h:CZ S zF d f=some k) (prog:ņ) (w:World) (E:VP) (Q:Bool->Ń->Prop) (hq:Q k s):wpAny (model prog w) A (keyLt' (WF l b) u v) Q E s:=by
 cases l with
 |false=>exact Lc I j C kd J h1 r o p h prog w E Q hq
 |true=>
  obtain⟨es,a,vs,rfl,rfl,D,_,l1⟩:=h1;obtain⟨n,M,F,rfl,rfl,g2,_,l2⟩:=r;cases o;cases p;obtain⟨its,L,B⟩:=TH I D;obtain⟨q,z,G⟩:=TH I g2;have h':AA _ _ es n=some k:=h;have i:=by show A.units+1+39<cLine;lia
  exact ZP #[0] B G (UY (λd f x y u v k a b c m e=>vZ I j 39 A.in1 d f x y u v k i a b c m e) (λd f x y u v k a b c m e=>KP I j 39 A.in1 d f x y u v k i a b c m e) l1 l2 L z h') hq
def LY(l:Bool)(K:J9)(α:B9)(H:Hp)(kds:K1)(u:ń):MV:=
 open Classical in if h: ∃d v,d∈kds/\KX l K α H d v/\RelV v u then Classical.choose h else kds.headD .non
def Wu(l:Bool)(K:J9)(α:B9)(H:Hp)(S:Sto)(kds:K1)(p q:Keyed):Bool:=(CZ S zF (LY l K α H kds p.1) (LY l K α H kds q.1)).getD false
def jQ{K:J9}(a:kds≠[])(u:ń):LY l K α H kds u∈kds:=by
 unfold LY;split
 .rename_i h;obtain⟨v,h1,_⟩:=ā h;exact h1
 .match kds,a with
  |x::l,_=>exact mF0
def AU{K:J9}{u:ń}(h: ∃d v,d∈kds/\KX l K α H d v/\RelV v u): ∃v,KX l K α H (LY l K α H kds u) v/\RelV v u:=by unfold LY;rw[dif_pos h];obtain⟨v,_,a,b⟩:=ā h;exact⟨v,a,b⟩
def WG(I:↑2){kvs:List V}{ks:A0}(c: ∀d,d∈kds->bA d=true)(m:KXL l X.K α H kds kvs)(q:Vals kvs ks){i:Nat}{u:ń}{a:MV}(p:ks[i]? =some u)(j:kds[i]? =some a):
  LY l X.K α H kds u=a:=by
 obtain⟨v,o,h⟩:=m.at j;obtain⟨w,b,r⟩:=q.get o;rw[p]at b;cases b;have e:=è j;have ne:kds≠[]:=λz=>by rw[z]at e;cases e
 obtain⟨y,k,n⟩:=AU ⟨a,v,e,h,r⟩;rw[n.inj r]at k;exact Vi I (c _ (jQ ne u)) (c a e) k h
theorem Zx(I:↑2)(wd:Wd X.g α S H){A:Ņ}(hu:A.units+64<cLine)(hne:kds≠[])(hkind: ∀d,d∈kds->Gn l b d)(ho:OrdD S kds){E':VP}:
  Srt.Cmp (model X.prog X.w) A E' s (WF l b) (λp=> ∃d v,d∈kds/\KX l X.K α H d v/\RelV v p.1) (Wu l X.K α H S kds) where
 go x y hx hy st hk Q hq:=by
  obtain⟨v1,d1,r1⟩:=AU hx;obtain⟨v2,d2,r2⟩:=AU hy;obtain⟨t,ht⟩:=ho.any _ (jQ hne x.1) _ (jQ hne y.1);have e:Wu l X.K α H S kds x y=t:=by unfold Wu;rw[ht];rfl
  rw[e]at hq;exact Srt.wp_lt hk (λE Q hq=>Lz I wd hu (hkind _ (jQ hne x.1)) (hkind _ (jQ hne y.1)) d1 d2 r1 r2 ht X.prog X.w E Q hq) hq
 tr x y z h1 h2:=by unfold Wu at h1 h2 ⊢;have mx:=jQ (l:=l) (K:=X.K) (α:=α) (H:=H) hne x.1;have my:=jQ (l:=l) (K:=X.K) (α:=α) (H:=H) hne y.1;have mz:=jQ (l:=l) (K:=X.K) (α:=α) (H:=H) hne z.1;obtain⟨t1,e1⟩:=ho.any _ my _ mx;obtain⟨t2,e2⟩:=ho.any _ mz _ my;rw[e1]at h1;rw[e2]at h2;have h1:=h1;have h2:=h2;subst h1 h2;rw[ho.tr _ mx _ my _ mz e1 e2];rfl
 as x y h:=by unfold Wu at h ⊢;have mx:=jQ (l:=l) (K:=X.K) (α:=α) (H:=H) hne x.1;have my:=jQ (l:=l) (K:=X.K) (α:=α) (H:=H) hne y.1;obtain⟨t1,e1⟩:=ho.any _ mx _ my;rw[e1]at h;have h:=h;subst h;rw[ho.as _ mx _ my e1];rfl
def Vj(I:↑2){A:Ņ}{kvs:List V}{ks:A0}(h:kds≠[])(c: ∀d,d∈kds->Gn l b d)(k:KXL l X.K α H kds kvs)(j:Vals kvs ks){p:VP}:
  wpAny (model X.prog X.w) A (keyKind' ks.toArray) (λq s'=>s'=s/\q=WF l b) p s:=by
 cases l with
 |false=>exact Uq I h c k.den j
 |true=>
  have ne:ks≠[]:=λz=>by have h1:=j.length;have n:=k.length;rw[z]at h1;exact h (List.length_eq_zero_iff.mp (by rw[<-n,h1];rfl))
  refine Dv ne λu o=>?_;obtain⟨i,hi⟩:=getElem?_of_mem o;have m:i<kvs.length:=by rw[j.length];exact(gS.mp hi).1
  obtain⟨y,h1,r⟩:=j.get (gE m);rw[hi]at h1;cases h1;obtain⟨d,n,es,a,vs,rfl,e,v,_,_⟩:=k.get (gE m);rw[e]at r;cases r;obtain⟨its,_,t⟩:=TH I v;exact⟨a,its,rfl,t⟩
theorem Dy(F:FnOk X.prog X.w X.K X.mg X.base EB k fa fd ps (SD X.g 1 Fd))(hr:Room (k+2) X.A)(U:Binds X.K fd ps [])(I:↑2)(wd:Wd X.g α S H){la:Addr}{xs:List V}{ds:K1}(hl:SqL X.K H la xs)(dl:DenL X.K α H ds xs)
  (hlen:ds.length<128) (hkl:kds.length=ds.length) (hk: ∀(m:Nat) d kd,ds[m]? =some d->kds[m]? =some kd->zH 1 Fd [.val d] S=.ok (ZQ l kd) S) (hpu: ∀d,d∈kds->bA d=true) (hkind: ∀d,d∈kds->Gn l b d) (hord:OrdD S kds) {Q:VK}
  (hQ: ∀(idx:Db)(H':Hp)(p:Addr)(ys:List V),idx.Perm (List.range ds.length)->idx.Pairwise (λi j=> ∀a c,kds[i]? =some a->kds[j]? =some c->CZ S zF c a=some false)->Ext α H α H'->Wd X.g α S H'->H' p=none->H p=none->
   DenL X.K α H' (idx.filterMap (ds[·]?)) ys->Q (.ref p) (wC H' p (.lst ys))):wpAny (model X.prog X.w) X.A (call (.builtin "sorted") [.ref la] [("key",.ref fa)]) (EP X pins σ Q) X.xe s:=by
 obtain⟨its,rv,⟨o,n0,e0,ah,_,ai⟩,_⟩:=I.list hl;have af:s.heap.IsList la its.toArray:=⟨o,e0,ah,n0,ai⟩
 have J:its.length=ds.length:=by rw[<-rv.length,dl.length]
 have aw:=ė;refine call_function_entry_kw kind_sorted plain_sorted entry_sorted (LP _ _) ?_;unfold Builtin.«sorted»;refine wB (m:=checkCount "sorted" 1 1 _) (wP ?_);refine wB (collect_list af ?_ #[0]);refine wB (wpAny_newList ?_);generalize N:(s.heap.push (seqObj "list" #[] 0)).update s.heap.objs.size (Obj.mapSeq (· ++its.toArray))=h1;have av:h1.objs.size=↑0+1:=by rw[<-N,Heap.size_update,size_push']
 have k1: ∀b u,s.heap.get? b=some u->h1.get? b=some u:=λb u e=>by rw[<-N,ý _ _ (ù (â e))];exact hP0 _ e
 have P:(h1.push (seqObj "list" its.toArray 0)).get? h1.objs.size=some (seqObj "list" its.toArray 0):=ã _ rfl;show wpAny _ _ _ _ _ {s with heap:=h1.push (seqObj "list" its.toArray 0)};dsimp only;generalize hL:h1.objs.size=L at *;have sL:↑0<=L:=by lia
 refine wB (ú (wpAny_call_entry_kw slot_list_sort ⟨_,P,rfl⟩ entry_list_sort (Srt.sort_keyed P #[0] λe1 T=>?_) (SV _ _)));dsimp only at T ⊢;generalize Y:h1.push (seqObj "list" its.toArray 0)=h2 at *;have ar:h2.objs.size=L+1:=by rw[<-Y,size_push',hL]
 generalize ag:h2.objs.size+1=KS;have sK:↑0<=KS:=by lia
 have O:L≠KS:=by lia
 have fL: ∀H',H' L=none->oN X pins H' L:=λH' hn=>I.fpOk sL hn;have fK: ∀H',H' KS=none->oN X pins H' KS:=λH' hn=>I.fpOk sK hn;have k3: ∀b u,s.heap.get? b=some u->(((h2.update L (Obj.mapSeq λ_=>#[])).push (seqObj "tuple" its.toArray 0)).push (seqObj "list" #[] 0)).get? b=some u:=λb u e=>by refine hP0 _ (hP0 _ ?_);rw[ý _ _ (ù (ç (â e) sL)), <-Y];exact hP0 _ (k1 b u e)
 have I3:Inv X pins σ H {s with heap:=((h2.update L (Obj.mapSeq λ_=>#[])).push (seqObj "tuple" its.toArray 0)).push (seqObj "list" #[] 0)}:=I.kept (t':=s.toks) k3
 have base:LpX l X pins σ α S H L KS e1 kds 0 {s with heap:=((h2.update L (Obj.mapSeq λ_=>#[])).push (seqObj "tuple" its.toArray 0)).push (seqObj "list" #[] 0)}:=by
  refine⟨H,[],0,[],I3,Ext.refl α H,wd,hP0 _ (hP0 _ T),?_,I.hok.fresh sL,I.hok.fresh sK,.nil,by rw[List.take_zero];exact .nil⟩;rw[<-ag];have e:h2.objs.size+1=((h2.update L (Obj.mapSeq λ_=>#[])).push (seqObj "tuple" its.toArray 0)).objs.size:=by rw[size_push',Heap.size_update]
  rw[e];exact ã _ rfl
 refine û (wpAny_forIn_list (α:=ń) (β:=PUnit) _ (λrest _ s'=> ∃m,rest=its.drop m/\LpX l X pins σ α S H L KS e1 kds m s') (λ_ s'=>LpX l X pins σ α S H L KS e1 kds its.length s') ?_ ?_ its PUnit.unit ⟨0,rfl,base⟩) (λ_ C y aq=>?_) λ_ _ e=>e
 .rintro x rest _ s' ⟨m,e,y⟩;have hx:its[m]? =some x:=by have:=congrArg (·[0]?) e;simp only[List.getElem?_cons_zero,getElem?_drop,Nat.add_zero]at this;exact this.symm
  refine Dw F hr U O fL fK dl rv hlen hkl hk hkind hx y λax ab=>⟨m+1,?_,ab⟩
  have:=congrArg List.tail e;rw[List.tail_cons,List.tail_drop]at this;exact this
 .rintro _ s' ⟨m,e,y⟩;have hm:its.length<=m:=List.drop_eq_nil_iff.mp e.symm;obtain⟨H',B,n,kvs,a1,a2,a3,a4,a5,a6,a7,a8,a9⟩:=y.go;exact⟨H',B,n,kvs,a1,a2,a3,a4,a5,a6,a7,a8,by rw[Ā #[0]]at a9 ⊢; exact a9⟩
 .obtain⟨H',B,n,kvs,W,xt,M,gL,gK,nL,nK,E,D⟩:=y.go;rw[Ā #[0]]at D;have q:B.length=ds.length:=by rw[<-E.length,D.length,hkl]
  have hu:X.A.in1.in1.units+64<cLine:=by have:=hr.un;show X.A.units+1+1+64<cLine;lia
  refine⟨B,n,WF l b,(λp=> ∃d v,d∈kds/\KX l X.K α H' d v/\RelV v p.1),Wu l X.K α H' S kds,gL,gK,by lia,λau=>?_,λout op os=>?_⟩
  .have ne:kds≠[]:=λz=>by rw[z]at hkl;simp at hkl;lia
   refine⟨Vj W ne hkind D E,Zx W M hu ne hkind hord,λp hp=>?_⟩;have ak:p.1∈B:=(of_mem_zip hp).1;obtain⟨i,hi⟩:=getElem?_of_mem ak;have Z:i<kvs.length:=by rw[E.length];exact(gS.mp hi).1
   obtain⟨u',G,r⟩:=E.get (gE Z);rw[hi]at G;cases G;obtain⟨d,aj,aa⟩:=D.get (gE Z);exact⟨d,_,è aj,aa,r⟩
  .obtain⟨idx,ip,ie⟩:=JA op.symm (List.range ds.length) (ZA q J);have ib: ∀i,i∈idx->i<ds.length:=λi hi=>mem_range.mp (ip.mem_iff.mp hi);have eo:out.map (·.2)=idx.filterMap (its[·]?):=by rw[<-ie,ĕ];exact FA λi hi=>by rw[J];exact ib i hi
   have po:idx.Pairwise (λi j=> ∀a c,kds[i]? =some a->kds[j]? =some c->CZ S zF c a=some false):=by rw[<-ie,pairwise_map]at os;refine List.Pairwise.imp_of_mem (λ{i j} hi hj h a c ha hc=>?_) os;have ui:B[i]? =some (B[i]'(by rw[q];exact ib i hi)):=gE _;have uj:B[j]? =some (B[j]'(by rw[q];exact ib j hj)):=gE _;have h':(CZ S zF (LY l X.K α H' kds ((B[j]?).getD .none)) (LY l X.K α H' kds ((B[i]?).getD .none))).getD false=false:=h;rw[ui,uj]at h';simp only[Option.getD_some]at h';rw[WG W hpu D E ui ha,WG W hpu D E uj hc]at h';obtain⟨t,ht⟩:=hord.any c (è hc) a (è ha);rw[ht]at h';have h':t=false:=h';rw[ht,h']
   have vy:=Vals.pick rv idx;refine⟨_,rfl,wP ⟨_,rfl,.ref L,wC H' L (.lst (idx.filterMap (xs[·]?))),?_,rfl,hQ idx H' L _ ip po xt M nL (I.hok.fresh sL) ((dl.ext xt).pick idx)⟩⟩;have I5:Inv X pins σ H' {C with heap:=C.heap.update KS (Obj.mapSeq λ_=>#[])}:=by obtain⟨f0,f1,f2,f3,f4,f5⟩:=fK H' nK;exact W.turned (t':=C.toks) (λb o U e=>(ý _ _ (Ne.symm U)).trans e) f0 f1 f3 f4 f5
   have ao:(C.heap.update KS (Obj.mapSeq λ_=>#[])).get? L=some (seqObj "list" #[] e1):=(ý _ _ (Ne.symm O)).trans gL;obtain⟨f0,f1,f2,f3,f4,f5⟩:=fL H' nL
   have I6:Inv X pins σ H' {C with heap:=(C.heap.update KS (Obj.mapSeq λ_=>#[])).update L (Obj.mapSeq λ_=>(out.map (·.2)).toArray)}:=
    I5.turned (t':=C.toks) (λb o U e=>(ý _ _ (Ne.symm U)).trans e) f0 f1 f3 f4 f5
   obtain⟨n',ae⟩: ∃n',((C.heap.update KS (Obj.mapSeq λ_=>#[])).update L (Obj.mapSeq λ_=>(out.map (·.2)).toArray)).get? L=some _:=⟨_,by have:=get?_update_seq ao (λ_=>(out.map (·.2)).toArray);rw[eo]at this ⊢;exact this⟩
   refine YZ (its:=idx.filterMap (its[·]?)) I6 (fL H' nL) (ø I.sz sL) ae vy ?_
   .have:=Ī (xs[·]?) idx;have h3:=ip.length_eq;rw[Ĕ]at h3
    lia
end
structure SrtOkX(l:Bool)(Fd:List MV->Sto->R Er)(S:Sto)(ds kds:K1)(b:Bool):Prop where
 len:ds.length<128
 kl:kds.length=ds.length
 call: ∀(m:Nat) d kd,ds[m]? =some d->kds[m]? =some kd->zH 1 Fd [.val d] S=.ok (ZQ l kd) S
 pu: ∀d,d∈kds->bA d=true
 kind: ∀d,d∈kds->Gn l b d
 ord:OrdD S kds
open Classical in
def BQ(l:Bool)(Fd:List MV->Sto->R Er)(rs:List Er)(S:Sto):R Er:=match rs with
 |[p]=>match jB S p with
  |some ds=>if h: ∃r, ∃kds b,SrtOkX l Fd S ds kds b/\ ∀a,VX S ds kds a->a=r then .ok (.new (Classical.choose h)) S else .no
  |none=>.no
 |_=>.no
def Ma{l:Bool}{Fd:List MV->Sto->R Er}{p:Er}{S:Sto}{ds r:K1}{b:Bool}(e:jB S p=some ds)(ok:SrtOkX l Fd S ds kds b)(u: ∀c,VX S ds kds c->c=r)(ex:VX S ds kds r)(k: ∀a i,SrtOkX l Fd S ds a i->a=kds):
  BQ l Fd [p] S=.ok (.new r) S:=by
 unfold BQ;dsimp only;rw[e];dsimp only;have h: ∃r, ∃kds b,SrtOkX l Fd S ds kds b/\ ∀c,VX S ds kds c->c=r:=⟨r,kds,b,ok,u⟩
 rw[dif_pos h];obtain⟨a,i,d,j⟩:=ā h;rw[k a i d]at j;rw[<-j r ex]
section
variable{X:Cx}{W:XW}{a:Expr}{af:Rho->Sto->R (List Er)}{pos:Pos}
def TJ(l:Bool){k:Nat}{fa:Addr}{fd:FuncData}{Fd:List MV->Sto->R Er}{x:Str}{p N B:Pos}(F:FnOk X.prog X.w X.K X.mg X.base EB k fa fd ps (SD X.g 1 Fd))(D:Room (k+2) X.A)(C:Gl X "sorted")(P:X.mg "sorted"=none)
  (hgk:Gl X x) (hmk:X.mg x=some (.ref fa)) (hb:Binds X.K fd ps []) (e:EK X W [a] af) (hd:(x==("__debug__":Str))=false:=by decide)
  (he:backTo pos (starEach [a] X.env)=(false,eval a X.env)::backTo pos (starEach [] X.env):=by rfl) (hpl:(backTo pos (starEach [a] X.env)).any (·.1)=false:=by rfl):
  zP X W (.Call (.Name "sorted" p) [a] [⟨some "key",.Name x N,B⟩] pos) (λρ S=>(af ρ S).bind λrs S1=>BQ l Fd rs S1):=by
 obtain⟨t,e,z⟩:=e
 refine⟨λσ H Q=>t σ H λvs H1=> ∃α S la xs ds kds b,vs=[.ref la]/\Wd X.g α S H1/\SqL X.K H1 la xs/\DenL X.K α H1 ds xs/\SrtOkX l Fd S ds kds b/\
   ∀(idx:Db)(H':Hp)(p:Addr)(ys:List V),idx.Perm (List.range ds.length)->idx.Pairwise (λi j=> ∀a c,kds[i]? =some a->kds[j]? =some c->CZ S zF c a=some false)->Ext α H1 α H'->Wd X.g α S H'->H' p=none->H1 p=none->
   DenL X.K α H' (idx.filterMap (ds[·]?)) ys->Q (.ref p) (wC H' p (.lst ys)),?_,λα ρ S σ H Q m sl q=>z α ρ S σ H _ m sl (q.bind λvs rs S1 o H1 e1 Y y d1 d=>?_)⟩
 .intro pins s σ H Q I h;refine wpAny_Call_Name_kw (oM I C P ZC ?_);refine callWith_kw (kY (e pos pins s σ H _ I h) λus s1 ⟨vs,H1,I1,E,d⟩=>?_) he hpl;obtain⟨α,S,la,xs,ds,kds,b,rfl,m,G,n,ok,L⟩:=d;obtain⟨u,rfl,O⟩:=E.one;cases O;refine kws_cons (JZ I1 hgk hmk (kws_nil ?_) hd);exact Dy F D hb I1 m G n ok.len ok.kl ok.call ok.pu ok.kind ok.ord L
 .replace d:=d.shift Y
  unfold BQ at d;split at d
  .rename_i p0;split at d
   .rename_i ds el;split at d
    .rename_i h;obtain⟨v,rfl,Z⟩:=OP d1;obtain⟨la,xs,rfl,U,n⟩:=sH rfl y el Z;obtain⟨kds,b,ok,u⟩:=ā h;refine⟨o,S1,la,xs,ds,kds,b,rfl,y,U,n,ok,λidx H' pp ys i1 i2 i3 T M i6 r=>?_⟩;have J:=u _ ⟨idx,i1,i2,rfl⟩;rw[J]at r;exact(d.shift i3).newl T M r
    .exact d.elim
   .exact d.elim
  .exact d.elim
def BR(l:Bool){k:Nat}{Fd:List MV->Sto->R Er}{x:Str}{p h c:Pos}(G:ZF X.prog X.w X.K X.mg X.base x k 1 ps Fd)(e:Room (k+2) X.A)(d:Gl X "sorted")(i:X.mg "sorted"=none)
  (hgk:Gl X x) (ha:EK X W [a] af) (hd:(x==("__debug__":Str))=false:=by decide)
  (he:backTo pos (starEach [a] X.env)=(false,eval a X.env)::backTo pos (starEach [] X.env):=by rfl) (hpl:(backTo pos (starEach [a] X.env)).any (·.1)=false:=by rfl):
  zP X W (.Call (.Name "sorted" p) [a] [⟨some "key",.Name x h,c⟩] pos) (λρ S=>(af ρ S).bind λrs S1=>BQ l Fd rs S1):=
 let ⟨_,_,F,m,_,b⟩:=G.ex;TJ l F e d i hgk m b ha hd he hpl
end
def KAt(d:Addr)(us:A0)(ep:Nat)(h:Heap):Prop:= ∃o es,h.get? d=some o/\o.ExactDict/\o.data=.dict es ep/\es.toList.map (·.key)=us
def KAt.at{d:Addr}{us:A0}{ep:Nat}{h h':Heap}(x:KAt d us ep h)(m: ∀o,h.get? d=some o->h'.get? d=some o):KAt d us ep h':=let ⟨o,es,a,r⟩:=x;⟨o,es,m o a,r⟩
theorem KAt.size{d:Addr}{us:A0}{ep:Nat}{h:Heap}(x:KAt d us ep h): ∃o es,h.get? d=some o/\o.ExactDict/\o.data=.dict es ep/\es.size=us.length/\ ∀i (hi:i<es.size),us[i]? =some es[i].key:=by obtain⟨o,es,a,b,hd,e⟩:=x;refine⟨o,es,a,b,hd,by rw[<-e,lM,í],λi hi=>?_⟩;rw[<-e,ö,ò,đ hi];rfl
section
variable{P:ņ}{w:World}{A:Ņ}{E:VP}{s:Ń}{d it:Addr}{us:A0}{ep i:Nat}
def ZR{Q:VP}(hs:(d==sysModules)=false)(h:KAt d us ep s.heap)
  (hQ:Q (.ref ↑0) {s with heap:=s.heap.push {cls:=.type "dict_keyiterator",data:=.fields #[.ref d,.int 0 0,.int us.length 0,.int ep 0]}}):wpAny (model P w) A (pyIter (.ref d)) Q E s:=by
 obtain⟨o,es,c,i,a,b,_⟩:=h.size;have e:s.TypeIs (.ref d) "dict":=⟨o,c,i.1⟩
 refine wpAny_pyIter_slot e PySem.F.slot_dict_iter (ì PySem.F.slot_dict_iter e PySem.F.entry_dict_iter ?_ (PySem.F.args_dict_iter_1 _));refine wB ?_;refine wB (ġ e ?_);refine wP ?_;show wpAny _ _ (Builtin.Dict.showsAll d >>= _) _ _ s;unfold Builtin.Dict.showsAll;rw[iN (by rw[hs];exact xF0)];refine wB (wP ?_);refine wB (ě c a ?_);refine wB (Ł c a ?_);refine wB (ć (wP ⟨_,rfl,_,_,⟨_,ã _ rfl,rfl⟩,PySem.F.slot_dict_keyiterator_next.lookup,?_⟩));simpa [rawInt,b]using hQ
theorem Dz{x:ń}(a:s.heap.IsKeyIter it d i us.length ep)(y:KAt d us ep s.heap)(q:us[i]? =some x)
  (hQ: ∀h',h'.IsKeyIter it d (i+1) us.length ep->Heap.SameBut it s.heap h'->Q (some x) {s with heap:=h'}):wpAny (model P w) A (pyNext (.ref it)) Q E s:=by
 obtain⟨o,n,u,hd⟩:=id a;obtain⟨od,es,e,v,k,m,j⟩:=y.size;have p:i<us.length:=(gS.mp q).1;have c:i<es.size:=by rw[m];exact p
 have r:es[i].key=x:=by have:=j i c;rw[q]at this;exact(ä this).symm
 unfold pyNext;refine wB (Ĉ (î a.typeIs PySem.F.slot_dict_keyiterator_next (ì PySem.F.slot_dict_keyiterator_next a.typeIs PySem.F.entry_dict_keyiterator_next ?_ (PySem.F.args_dict_keyiterator_next_1 _))));refine wB (wP (wB (wB ?_)))
 first |refine wB (Ĩ a.typeIs (wP ?_))|refine wB _
 refine wB (wpAny_fieldsOf n hd ?_);have h:Builtin.Dict_items.ownsTuple "dict_keyiterator"=false:=by decide
 simp only[h,fT,iF];show wpAny _ _ (if _=true then _ else _) _ _ s;rw[iN (show¬((Value.ref d==Value.none)=true)from xF0)];refine wB (wP (wB (ě e k ?_)));rw[iN (by rw[m];simp)];refine wB (wP (wB (Ł e k ?_)));rw[iN (by simp)];refine wP ?_;simp only[show¬((i:Int)<0)from by lia,iF,Ď,đ c];refine wB ?_
 first |refine wB (Ĩ a.typeIs (wP ?_))|refine wB _
 refine wB (wpAny_isOneOf_keyiter a.typeIs ?_);show wpAny _ _ (setField (.ref it) 1 _ >>= _) _ _ s;refine wB (wpAny_setField n hd (by simp) ?_)
 have b:(s.heap.update it (Obj.mapFields (·.setIfInBounds 1 (rawInt ((i:Int)+1))))).IsKeyIter it d (i+1) us.length ep:=
  ⟨_,Heap.get?_update_self _ n (Obj.isFreed_of_fields (Obj.data_mapFields hd _)),(Obj.cls_mapFields ..).trans u,by rw[Obj.data_mapFields hd];simp[rawInt]⟩
 refine wB (ú ?_);refine wB (wpAny_isOneOf_keyiter b.typeIs ?_);show wpAny _ _ (pure es[i].key) _ _ _;exact wP (wP ⟨_,rfl,wP (r▸hQ _ b (ď ..))⟩)
theorem Ea(p:A.handled=none)(a:s.heap.IsKeyIter it d i us.length ep)(r:KAt d us ep s.heap)(q:us.length<=i)
  (hQ: ∀h',Heap.ExtBut it s.heap h'->Q none {s with heap:=h'}):wpAny (model P w) A (pyNext (.ref it)) Q E s:=by
 obtain⟨o,k,u,hd⟩:=id a;obtain⟨od,es,b,n,h,e,m⟩:=r.size;have j:es.size<=i:=by rw[e];exact q
 unfold pyNext;refine wB (Ĉ (î a.typeIs PySem.F.slot_dict_keyiterator_next (ì PySem.F.slot_dict_keyiterator_next a.typeIs PySem.F.entry_dict_keyiterator_next ?_ (PySem.F.args_dict_keyiterator_next_1 _))));refine wB (wP (wB (wB ?_)))
 first |refine wB (Ĩ a.typeIs (wP ?_))|refine wB _
 refine wB (wpAny_fieldsOf k hd ?_);have c:Builtin.Dict_items.ownsTuple "dict_keyiterator"=false:=by decide
 simp only[c,fT,iF];show wpAny _ _ (if _=true then _ else _) _ _ s;rw[iN (show¬((Value.ref d==Value.none)=true)from xF0)];refine wB (wP (wB (ě b h ?_)));rw[iN (by rw[e];simp)];refine wB (wP (wB (Ł b h ?_)));rw[iN (by simp)];refine wP ?_;simp only[show¬(_<0)from by lia,iF,Ď,Array.getElem?_eq_none j];refine wB ?_
 first |refine wB (Ĩ a.typeIs (wP ?_))|refine wB _
 show wpAny _ _ (setField _ 0 .none >>= _) _ _ s;refine wB (wpAny_setField k hd (by simp) ?_);show wpAny _ _ _ _ _ _;refine wB ?_;simp only[newExc,newTuple];refine wB (ć ?_ (by size_fits));refine wB (wpAny_of_eq (by first |rfl|(simp only[firstArgMember];rfl)) ?_);refine ć ?_ (by size_fits);simp only[raiseNew];refine wB (wpAny_handled ?_);rw[show A.in1.handled=none from p];refine wB (wP (wpAny_throw ?_));refine wB (ğ ⟨_,ã _ rfl,rfl⟩ isSubtype_stop ?_);exact wP (hQ _ (((ď ..).extBut.push _).push _))
def ZS(hh:A.handled=none)(I:Addr)(hne:d≠I)(us:A0)(ep:Nat):Walks P w A I [I,d] [I] us.length (λi x=>us[i]? =some x) (λi h=>h.IsKeyIter I d i us.length ep/\KAt d us ep h) where
 sub:=λb hb=>by simp at hb;simp[hb]
 frame:=λ_ _ _ st hk=>⟨st.1.at λo e=>hk I (by simp) o e,st.2.at λo e=>hk d (by simp) o e⟩
 item:=λi s Q E hi st hQ=>by have hx:=gE hi;refine Dz st.1 st.2 hx λh' hit' hs'=>?_;exact hQ _ h' s.toks hx ⟨hit',st.2.at λo e=>hs'.extBut d o hne e⟩ λb o hb e=>hs'.extBut b o (λh=>hb (by simp[h])) e
 done:=λs Q E st hQ=>Ea hh st.1 st.2 (à _) λh' he'=>hQ h' s.toks λb o hb e=>he' b o (λh=>hb (by simp[h])) e
 self:=λ_ _ _ _ st hQ=>wpAny_pyIter_keyiter st.1 hQ
def Eb(us:A0)(ep:Nat):PySem.W.KdlSrc P w "dict" d d us.length (λi x=>us[i]? =some x) (λh=>(d==sysModules)=false/\KAt d us ep h) where
 type:=λ_ hm=>let ⟨o,_,ho,hc,_⟩:=hm.2;⟨o,ho,hc.1⟩
 there:=λ_ hm=>⟨let ⟨_,_,ho,_⟩:=hm.2;â ho,let ⟨_,_,ho,_⟩:=hm.2;â ho⟩
 keep:=λ_ _ hm hk=>⟨hm.1,hm.2.at λo e=>hk d (.inl rfl) o e⟩
 notList:=by decide
 notTuple:=by decide
 hint:=λ_ _ _ _ hm hq=>PySem.W.kdl_hint_dict (let ⟨o,_,ho,hc,_⟩:=hm.2;⟨o,ho,hc.1⟩) hq
 iter:=λ_ _ hh hm=>⟨_,_,(λ_ _ hq=>ZR hm.1 hm.2 hq),ZS hh _ (ë (let ⟨_,_,ho,_⟩:=hm.2;â ho)) us ep,⟨⟨_,ã _ rfl,rfl,rfl⟩,hm.2.at λo e=>hP0 _ e⟩⟩
end
section
variable{X:Cx}{W:XW}
theorem PZ{K:J9}{α:B9}{H:Hp}: ∀{kvs:K6}{xs:List (NK×Addr×ń)},DenN K α H kvs xs->DenL K α H (kvs.map (·.1)) (xs.map λx=>V.ref x.2.1)
 |_,_,.nil=>zZ
 |_,_,.cons hk e a d r l=>zS a (PZ l)
theorem QB: ∀(xs:List (NK×Addr×ń)),Vals (xs.map λx=>V.ref x.2.1) (xs.map λx=>Value.ref x.2.1)
 |[]=>.nil
 |x::xs=>.cons rfl (QB xs)
theorem TL:CallR X (.type "list") (λxs H Q=> ∃d b α kvs,xs=[.ref d]/\DD X H d b/\DenN X.K α H kvs b/\X.calm=true/\ ∀p,H p=none->Q (.ref p) (wC H p (.lst (b.map λx=>V.ref x.2.1)))):=by
 intro pins s σ H xs us Q I r h;obtain⟨d,b,α,kvs,rfl,y,dn,F,q⟩:=h;obtain⟨u,rfl,m⟩:=vals1 r;cases m;obtain⟨⟨o,es,ep,D,i,hd,B,_,_⟩,k,hs⟩:=rN I y dn;have E:KAt d (b.map λx=>Value.ref x.2.1) ep s.heap:=⟨o,es,D,i,hd,by rw[B,ĕ];rfl⟩
 refine PySem.W.kdl_call (Eb _ ep) (I.ok.hd F) ⟨hs,E⟩ (by rw[lM];exact k) λh' G c A C z a=>?_
 have n:c.toList=b.map λx=>Value.ref x.2.1:=by
  refine ext_getElem? λj=>?_;by_cases v:j<c.size
  .have e:=đ v;rw[ò,e];exact(a.2 j _ e).symm
  .have e:(b.map λx=>Value.ref x.2.1).length<=j:=by have:=a.1;lia
   rw[ò,Array.getElem?_eq_none #[0],getElem?_eq_none e]
 refine⟨.ref ↑0,_,I.laid C (à _) (show ObjOk X.prog X.w _ h' _ (.lst _)from⟨by rw[lM];exact k,c.toList,A,by rw[n];exact QB b,?_⟩),rfl,q _ (I.hok.fresh (à _))⟩;exact z
def AV:List Er->Sto->R Er
 |[r],S=>match cF S r with |some (_,kvs)=>.ok (.new (kvs.map (·.1))) S|none=>.no
 |_,_=>.no
def Ec(o:X.calm=true):sG X W (λxs H Q=> ∃d b α kvs,xs=[.ref d]/\DD X H d b/\DenN X.K α H kvs b/\X.calm=true/\ ∀p,H p=none->Q (.ref p) (wC H p (.lst (b.map λx=>V.ref x.2.1)))) AV:=by
 intro rs vs α S H Q h d a;unfold AV at a;split at a
 .split at a
  .rename_i n kvs e;obtain⟨v,rfl,q⟩:=sI d;obtain⟨c,xs,rfl,j,r,m,i⟩:=tK h e q;exact⟨c,xs,α,kvs,rfl,m,i,o,λp k=>a.newl h k (PZ i)⟩
  .exact a.elim
 .exact a.elim
end
mutual
def TN:Expr->List Str
 |.Name x _=>[x]
 |.Tuple es _ _=>Zy es
 |_=>[]
def Zy:List Expr->List Str
 |[]=>[]
 |e::es=>TN e++Zy es
end
section
variable{X:Cx}{W:XW}{iter:Expr}{pos:Pos}
noncomputable abbrev gnN(T:C0)(N:C0)(idx:Db):List Str:=[]++T++idx.map λi=>(N[i]?).getD Str.empty
def Ed{elt tg:Expr}{ifs:J8}{sc a:Scope}{N:C0}{idx:Db}{b:Rho->Sto->R Wk}{cf:AZ}{ef:AX}{gf:MV->Rho->Sto->R Rho}(c:FnScope N ps a)
  (hi:GT X W tg iter b) (hg: ∀C s₂ H1 fp,(gnN (TN tg) N idx).Nodup->Gi (TN tg).length (zN X sc (TN tg) idx C s₂ H1 fp) W0 tg gf)
  (hc: ∀C s₂ H1 fp,OQ (zN X sc (TN tg) idx C s₂ H1 fp) W0 ifs cf) (he: ∀C s₂ H1 fp,zP (zN X sc (TN tg) idx C s₂ H1 fp) W0 elt ef)
  (hcalm:X.calm=true:=by rfl) (e1:X.env.scope=a:=by rfl) (e2:X.N=N:=by rfl) (hB:sD a N sc idx=true:=by decide+kernel) (hN:(gnN (TN tg) N idx).Nodup:=by decide+kernel)
  (hs: ∀y,foldedSetIterable iter X.env y=pure y:=by intro _;rfl):
  zP X W (.ListComp elt [⟨tg,iter,ifs,0⟩] sc pos) (λρ S=>(b ρ S).bind λk S1=>if k.ds.length<1000000 then(zX gf cf ef (rW (TN tg).length idx ρ) k.gs k.ds S1).bind λout S2=>.ok (.new out) S2 else .no):=Jc a N _ idx hi hcalm hg hc he e1 e2 hB hN hs
def Ee{x:Str}{c b:Pos}{i:Nat}{elt tg:Expr}{ifs:J8}{sc a:Scope}{N:C0}{idx:Db}{d:Rho->Sto->R Wk}{cf:AZ}{ef:AX}{gf:MV->Rho->Sto->R Rho}(e:FnScope N ps a)
  (hi:GT X W tg iter d) (hg: ∀C s₂ H1 fp,(gnN (TN tg) N idx).Nodup->Gi (TN tg).length (zN X sc (TN tg) idx C s₂ H1 fp) W0 tg gf)
  (hc: ∀C s₂ H1 fp,OQ (zN X sc (TN tg) idx C s₂ H1 fp) W0 ifs cf) (he: ∀C s₂ H1 fp,zP (zN X sc (TN tg) idx C s₂ H1 fp) W0 elt ef)
  (hcalm:X.calm=true:=by rfl) (e1:X.env.scope=a:=by rfl) (e2:X.N=N:=by rfl) (hB:sD a N sc idx=true:=by decide+kernel) (hN:(gnN (TN tg) N idx).Nodup:=by decide+kernel)
  (hs: ∀y,foldedSetIterable iter X.env y=pure y:=by intro _;rfl)
  (hi2:X.N[i]? =some x:=by rfl) (hx:Loc X.env.scope x:=by first |exact Or.inl rfl|exact Or.inr rfl)
  (hsw:swapsWith (.ListComp elt [⟨tg,iter,ifs,0⟩] sc pos) (some (.Name x c)) b.line X.env=pure true:=by with_unfolding_all rfl) (hf:Q2 X x:=by first |exact .inl rfl|exact .inr rfl|assumption):
  OO X W (.Assign [.Name x c] (.ListComp elt [⟨tg,iter,ifs,0⟩] sc pos) b) (λρ S=>((d ρ S).bind λk S1=>if k.ds.length<1000000 then(zX gf cf ef (rW (TN tg).length idx ρ) k.gs k.ds S1).bind λout S2=>.ok (.new out) S2 else .no).bind (EM ρ i)):=Je i (by rw[e2];exact e.nd) a N _ idx hi hcalm hg hc he e1 e2 hB hN hs hi2 hx hsw hf
end
section
variable{P:ņ}{w:World}{K:J9}{mg:H9}{base:Heap}{x qual:Str}{st:Stmt}{ps N:C0}{k:Nat}
abbrev ScK(N ps:C0)(sc:Scope):Prop:=N.Nodup/\N.take ps.length=ps/\(∀x∈ps,sc.names.lookup x=some .local\/sc.names.lookup x=some .cell)/\ ∀y∈sc.names,y.2≠.free
def okL{f:Addr}{fd:FuncData}(i:AY)(F:Fun K x qual st f fd)
  (h: ∀(e:ń)(A:Ņ)(d:List Env)(s:Ń)(H:Hp)(E:XK),N.Nodup->FnScope N ps (zR st)->Room k (A.deeper (envOfC qual (zR st) ↑0 f e))->vY (KB EB P w K mg base N qual (zR st) f e A d s H E).nox W0 (gX st) i)
  (h4:ScK N ps (zR st):=by decide+kernel) (a:(zR st).kind=.function:=by rfl) (b:(zR st).isCoroutine=false:=by rfl) (c:(zR st).isGenerator=false:=by rfl):
  FnOk P w K mg base EB (k+1) f fd ps (SD ⟨K,mg,P,w⟩ ps.length λds S=>yA (i (zU N ds) S)):=
 have j:=⟨a,b,c,h4.1,h4.2.1,h4.2.2.1,h4.2.2.2⟩
 okM i F j λe A d s H E m=>h e A d s H E j.nd j m
def Vk:Nat->(List ń->Prop)->Prop
 |0,p=>p []
 |n+1,p=> ∀a,Vk n λl=>p (a::l)
theorem Zz: ∀(us:A0){p:List ń->Prop},Vk us.length p->p us
 |[],_,h=>h
 |a::l,_,h=>Zz l (h a)
def forN{n:Nat}{p:List ń->Prop}(h:Vk n p)(us:A0)(e:us.length=n):p us:=Zz us (e▸h)
def okA(i:AY)(D:DefM K mg x st)
  (h: ∀(f:Addr)(e:ń)(A:Ņ)(d:List Env)(s:Ń)(H:Hp)(E:XK),N.Nodup->FnScope N ps (zR st)->Room k (A.deeper (envOfC x (zR st) ↑0 f e))->vY (KB EB P w K mg base N x (zR st) f e A d s H E).nox W0 (gX st) i)
  (hb:De x st ps:=by exact λ_ _ _ _ _ _=>forN (by(repeat intro _);rfl))
  (h4:ScK N ps (zR st):=by decide+kernel) (a:(zR st).kind=.function:=by rfl) (b:(zR st).isCoroutine=false:=by rfl) (c:(zR st).isGenerator=false:=by rfl):
  ZF P w K mg base x (k+1) ps.length ps λds S=>yA (i (zU N ds) S):=
 okC D hb λf _ F=>okL i F (h f) h4 a b c
end
end M
end L2
namespace L2
namespace M
namespace My
open PySem PySem.Spec PyProof.Rows
variable{S Z T B:Sto}{xs ys:Ch}{rs:List Er}{m:MV}{α:Type}{lr j:Nat}{ts:Tk}{σ:List Nat->MV}{U:K7}{o:MO}
set_option bootstrap.genMatcherCode true in
local macro_rules
 | `(tactic|simp? [$xs,*] $[$l:location]?)=>`(tactic|simp only[List.getElem?_cons_zero,getElem?_cons_succ,Jy,gV,as_int,Yv,Ta,add_int,sub_int,eq_int,Tb,SR,lst1,Tg,Th,lst6,tup2,Yw,Ti,Tj,Tl,To,Tp,Tq,Kf,Kg,List.set_cons_zero,set_cons_succ,if_true,Ki,Kh,vJ,kJ,bJ,dJ,iJ,mJ,tJ,zJ,fJ,eJ,uJ,pJ,qJ,rJ,sJ,wJ,yJ,AJ,BJ,CJ,DJ,EJ,FJ,JJ,$xs,*] $[$l:location]?)
set_option bootstrap.genMatcherCode true in
local macro_rules
 |`(#[$x])=>`(some (.loc $x))
 |`(#[$x,0])=>`(some (.int $x))
 |`(#[$x,1])=>`(.val (.loc $x))
 |`(#[$x,2])=>`(some (.lst $x))
 |`(#[$x,3])=>`(some (.tup $x))
 |`(#[$x,4])=>`(some (.str $x))
 |`(#[$x,5])=>`(.val (.int $x))
 |`(#[$x,6])=>`(.val (.tup $x))
 |`(#[$x,7])=>`(some (.dic $x))
 |`(#[$x,8])=>`(($x).map MV.str)
 |`(#[])=>`(by lia)
 |`(#[$x,$s,0])=>`(.ok (.next $x) $s)
 |`(#[$x,$s,1])=>`(.ok (.val $x) $s)
 |`(#[$x,$s,2])=>`(.ok (.new $x) $s)
abbrev BS:List Str:=["_law_well","_law_many","_law_digit"]
abbrev qV:List Str:=["_law_well","_law_names_here","_law_pool_here"]
abbrev dF:List Str:=["_law_told","_law_more"]
abbrev oU:List Str:=["_law_told","_law_rows_here","_law_row_here","_law_question"]
abbrev AF:=AY
abbrev AE:=AX
def bB:AF:=(iJ (bJ (bJ (yJ (vJ 0) (yJ (kJ (.typ "str")) wJ)) HF) EL) ((AJ (bJ (yJ (kJ (.int 1)) (yJ (kJ (.int 0)) (yJ (vJ 0) wJ))) jM))) (JJ))
def fQ:AF:=(AJ (bJ (yJ (kJ (.int 0)) (yJ (vJ 0) (yJ (kJ (.str [])) wJ))) jM))
def aQ:AF:=zI (bB) ((fQ))
def aR(ds:K1)(S:Sto):R Er:=yA (aQ (zU ["value"] ds) S)
def cO:AZ:=uJ
def jC:AE:=(fJ 1 aR (yJ (vJ 0) wJ))
def fR:AF:=(AJ (bJ (yJ (pJ (bJ (vJ 0) Aj) (yD 0) (cO) (jC) 1 []) wJ) xT))
def aS:AF:=(fR)
def aT(ds:K1)(S:Sto):R Er:=yA (aS (zU ["values"] ds) S)
def fS:AY:=(iJ (sJ (qJ (bJ (vJ 1) EL)) (bJ (dJ EQ (dJ gW (vJ 1) (kJ (.int (-1)))) (vJ 2)) nO)) ((BJ (eJ jO mY (vJ 1) (yJ (vJ 2) wJ)))) (JJ))
def aU:AY:=(fS)
def aV:AF:=(CJ (bJ wJ wF) 1)
def aW:AF:=(FJ (bJ (bJ (yJ (vJ 0) wJ) (BQ false aT)) CY) (yD 2) (aU))
def oV:AF:=(AJ (vJ 1))
def oW:AF:=zI (aV) (zI (aW) ((oV)))
def oX(ds:K1)(S:Sto):R Er:=yA (oW (zU ["some","ordered","values"] ds) S)
def bC:AY:=(iJ (bJ (dJ CP (dJ gW (vJ 3) (kJ (.int 0))) (kJ (.str [118,97,114]))) nO) ((EJ (kJ (.bl true)) (DJ JC (vJ 1) (dJ gW (vJ 3) (kJ (.int 1)))))) (JJ))
def bD:AY:=(bC)
def fU:AY:=(FJ (bJ (dJ gW (vJ 2) (kJ (.int 1))) Aj) (yD 3) (bD))
def bE:AY:=(fU)
def aX:AF:=(CJ zJ 1)
def aY:AF:=(FJ (bJ (vJ 0) itQ) (yD 2) (bE))
def aZ:AF:=(AJ (bJ (yJ (vJ 1) wJ) AQ))
def oY:AF:=zI (aX) (zI (aY) ((aZ)))
def xV(ds:K1)(S:Sto):R Er:=yA (oY (zU ["atoms","names","atom","term"] ds) S)
def yT:AY:=(CJ (iJ (bJ (dJ CP (dJ gW (vJ 3) (kJ (.int 0))) (kJ (.str [118,97,114]))) nO) (eJ SZ Dk (vJ 2) (yJ (dJ gW (vJ 3) (kJ (.int 1))) (yJ (vJ 4) wJ))) (dJ gW (vJ 3) (kJ (.int 1)))) 5)
def dG:AY:=(iJ (bJ (dJ EQ (vJ 5) (vJ 4)) nO) ((AJ (kJ .non))) (JJ))
def xR:AY:=zI (yT) ((dG))
def lB:AF:=(CJ zJ 2)
def lD:AF:=(FJ (bJ (yJ (vJ 0) (yJ (vJ 1) wJ)) Of) (oR 2 (zC (yD 3) (zC (yD 4) yL))) (xR))
def BU:AF:=(AJ (vJ 2))
def eV:AF:=zI (lB) (zI (lD) ((BU)))
def eW(ds:K1)(S:Sto):R Er:=yA (eV (zU ["terms","cells","values","term","cell","expected"] ds) S)
def jR:AZ:=(bJ (dJ CP (dJ gW (vJ 0) (kJ (.int 0))) (dJ gW (vJ 2) (kJ (.int 0)))) nO)
def xE:AE:=(bJ (yJ (fJ 2 eW (yJ (dJ gW (vJ 2) (kJ (.int 1))) (yJ (dJ gW (vJ 0) (kJ (.int 1))) wJ))) (yJ (vJ 1) wJ)) jM)
def xF:AZ:=(bJ (dJ IT (vJ 0) (kJ .non)) nO)
def jS:AE:=(bJ (yJ (vJ 0) (yJ (vJ 1) wJ)) jM)
def lE:AF:=(CJ (pJ (bJ (yJ (vJ 0) (yJ (vJ 1) wJ)) Of) (oR 2 (zC (yD 0) (zC (yD 1) yL))) (jR) (xE) 2 [2]) 3)
def lF:AF:=(AJ (pJ (bJ (vJ 3) CY) (oR 2 (zC (yD 0) (zC (yD 1) yL))) (xF) (jS) 2 []))
def rO:AF:=zI (lE) ((lF))
def oA(ds:K1)(S:Sto):R Er:=yA (rO (zU ["rows","marks","atom","fits"] ds) S)
def nS:AZ:=uJ
def jT:AE:=(dJ LX (vJ 1) (vJ 0))
def lX:AF:=(AJ (bJ (yJ (pJ (bJ (vJ 1) itQ) (yD 0) (nS) (jT) 1 [0]) wJ) xT))
def lG:AF:=(lX)
def yG(ds:K1)(S:Sto):R Er:=yA (lG (zU ["values","names"] ds) S)
def rP:AY:=(CJ (fJ 2 yG (yJ (vJ 3) (yJ (vJ 1) wJ))) 5)
def rQ:AY:=(EJ (dJ Vc (eJ qS uV (vJ 2) (yJ (vJ 5) (yJ (kJ (.int 0)) wJ))) (vJ 4)) (DJ IY (vJ 2) (vJ 5)))
def DH:AY:=zI (rP) ((rQ))
def AW:AZ:=uJ
def oB:AE:=(bJ (yJ (bJ (yJ (vJ 2) (yJ (vJ 0) wJ)) Lx) (yJ (vJ 1) wJ)) jM)
def DI:AF:=(CJ zJ 2)
def DL:AF:=(FJ (bJ (vJ 0) CY) (oR 2 (zC (yD 3) (zC (yD 4) yL))) (DH))
def DM:AF:=(AJ (pJ (bJ (vJ 2) ZL) (oR 2 (zC (yD 0) (zC (yD 1) yL))) (AW) (oB) 2 [1]))
def WH:AF:=zI (DI) (zI (DL) ((DM)))
def JL(ds:K1)(S:Sto):R Er:=yA (WH (zU ["fits","names","told","values","mark","some"] ds) S)
def oZ:AY:=(BJ (eJ jO mY (eJ qS Wt (vJ 3) (yJ (fJ 2 yG (yJ (vJ 4) (yJ (vJ 2) wJ))) (yJ (bJ wJ wF) wJ))) (yJ (bJ (yJ (vJ 4) (yJ (vJ 5) wJ)) jM) wJ)))
def fV:AY:=(oZ)
def pC:AY:=(iJ (bJ (dJ BP (vJ 8) (vJ 5)) EL) (zI (CJ (bJ (yJ (vJ 7) wJ) TB) 9) (zI (BJ (eJ SZ FE (vJ 9) (yJ (vJ 4) wJ))) ((BJ (eJ jO mY (vJ 6) (yJ (bJ (yJ (vJ 9) (yJ (dJ BP (vJ 8) (vJ 5)) wJ)) jM) wJ)))))) (JJ))
def fW:AY:=(pC)
def pD:AY:=(FJ (bJ (eJ qS uV (vJ 3) (yJ (fJ 2 yG (yJ (vJ 7) (yJ (vJ 2) wJ))) (yJ (bJ wJ wF) wJ))) CY) (oR 2 (zC (yD 4) (zC (yD 5) yL))) (fW))
def fX:AY:=(pD)
def pE:AF:=(CJ zJ 3)
def pF:AF:=(FJ (bJ (vJ 1) CY) (oR 2 (zC (yD 4) (zC (yD 5) yL))) (fV))
def pG:AF:=(CJ (bJ wJ wF) 6)
def pH:AF:=(FJ (bJ (vJ 0) CY) (oR 2 (zC (yD 7) (zC (yD 8) yL))) (fX))
def FG:AF:=(AJ (vJ 6))
def uX:AF:=zI (pE) (zI (pF) (zI (pG) (zI (pH) ((FG)))))
def qW(ds:K1)(S:Sto):R Er:=yA (uX (zU ["fits","others","shared","by_shared","more","other","together","values","mark","both"] ds) S)
def kG:AZ:=(bJ (dJ (GU false) (vJ 0) (vJ 1)) nO)
def nE:AE:=(vJ 0)
def kH:AZ:=(sJ (bJ (dJ (GU false) (vJ 0) (vJ 1)) nO) (bJ (dJ (GU false) (vJ 0) (vJ 2)) nO))
def nF:AE:=(vJ 0)
def kI:AZ:=(bJ (dJ (GU true) (vJ 0) (vJ 1)) nO)
def nG:AE:=(vJ 0)
def kL:AZ:=(bJ (dJ (GU false) (vJ 0) (vJ 1)) nO)
def nH:AE:=(vJ 0)
def kM:AY:=(CJ (fJ 1 xV (yJ (bJ (yJ (vJ 8) wJ) wF) wJ)) 9)
def kN:AY:=(CJ (pJ (bJ (vJ 9) CY) (yD 0) (kG) (nE) 1 [5]) 10)
def kO:AY:=(CJ (dJ xA (bJ (yJ (vJ 3) wJ) OV) (fJ 1 xV (yJ (tJ oS (vJ 4) (bJ (dJ xA (vJ 7) (kJ (.int 1))) UU) mJ) wJ))) 11)
def kP:AY:=(CJ (fJ 2 JL (yJ (fJ 3 oA (yJ (vJ 0) (yJ (vJ 1) (yJ (vJ 8) wJ)))) (yJ (pJ (bJ (vJ 9) CY) (yD 0) (kH) (nF) 1 [10,11]) wJ))) 12)
def kQ:AY:=(CJ (pJ (bJ (vJ 9) CY) (yD 0) (kI) (nG) 1 [10]) 13)
def kR:AY:=(CJ (pJ (bJ (dJ xA (vJ 5) (vJ 13)) CY) (yD 0) (kL) (nH) 1 [11]) 5)
def kS:AY:=(CJ (fJ 2 JL (yJ (fJ 3 qW (yJ (vJ 6) (yJ (vJ 12) (yJ (vJ 10) wJ)))) (yJ (vJ 5) wJ))) 6)
def yX:AY:=zI (kM) (zI (kN) (zI (kO) (zI (kP) (zI (kQ) (zI (kR) ((kS)))))))
def xB:AZ:=uJ
def yN:AE:=(bJ (yJ (fJ 2 yG (yJ (vJ 0) (yJ (vJ 2) wJ))) (yJ (vJ 1) wJ)) jM)
def fY:AF:=(CJ (dJ gW (vJ 2) (kJ (.int 0))) 3)
def gF:AF:=(CJ (dJ gW (vJ 2) (kJ (.int 1))) 4)
def xW:AF:=(CJ (bJ wJ wF) 5)
def xX:AF:=(CJ (bJ (yJ (bJ (yJ zJ (yJ (kJ (.int (-1))) wJ)) jM) wJ) wF) 6)
def gG:AF:=(FJ (bJ (yJ (vJ 4) wJ) Yy) (oR 2 (zC (yD 7) (zC (yD 8) yL))) (yX))
def gH:AF:=(AJ (bJ (yJ (pJ (bJ (vJ 6) CY) (oR 2 (zC (yD 0) (zC (yD 1) yL))) (xB) (yN) 2 [3]) wJ) JK))
def cP:AF:=zI (fY) (zI (gF) (zI (xW) (zI (xX) (zI (gG) ((gH))))))
def xP(ds:K1)(S:Sto):R Er:=yA (cP (zU ["rows","marks","question","head","atoms","known","fits","place","atom","own","shared","asked","others","new"] ds) S)
def lY:AZ:=uJ
def lZ:AE:=(kJ (.int 1))
def qX:AF:=(AJ (fJ 1 oX (yJ (bJ (yJ (fJ 3 xP (yJ (vJ 0) (yJ (pJ (bJ (vJ 0) CY) (yD 0) (lY) (lZ) 1 []) (yJ (vJ 1) wJ)))) wJ) AV) wJ)))
def rR:AF:=(qX)
def zY(ds:K1)(S:Sto):R Er:=yA (rR (zU ["rows","question"] ds) S)
def jD:AF:=(iJ (bJ (dJ Oe (vJ 1) (bJ (yJ (vJ 0) wJ) lW)) nO) ((AJ (dJ gW (vJ 0) (vJ 1)))) (JJ))
def oC:AF:=(AJ (kJ (.int 0)))
def bF:AF:=zI (jD) ((oC))
def zO(ds:K1)(S:Sto):R Er:=yA (bF (zU ["_law_script","_law_k"] ds) S)
def bG:AY:=(CJ (dJ HD (dJ xA (dJ xA (dJ uI (vJ 2) (kJ (.int 48271))) (dJ uI (kJ (.int 7919)) (vJ 4))) (kJ (.int 11))) (kJ (.int 2147483647))) 2)
def bH:AY:=(CJ (dJ HD (dJ uI (vJ 2) (vJ 2)) (kJ (.int 2147483629))) 5)
def bI:AY:=(CJ (dJ xA (dJ uI (vJ 3) (kJ (.int 2147483587))) (dJ HD (dJ uI (vJ 5) (kJ (.int 69621))) (kJ (.int 2147483587)))) 3)
def jU:AY:=zI (bG) (zI (bH) ((bI)))
def jV:AF:=(CJ (dJ OT (vJ 0) (kJ (.int 2))) 1)
def jW:AF:=(iJ (bJ (dJ CP (dJ HD (vJ 0) (kJ (.int 2))) (kJ (.int 0))) nO) ((AJ (bJ (yJ (vJ 1) wJ) wF))) (JJ))
def nT:AF:=(CJ (dJ HD (vJ 1) (kJ (.int 2147483647))) 2)
def qB:AF:=(CJ (kJ (.int 0)) 3)
def nU:AF:=(FJ (bJ (yJ (kJ (.int 16)) wJ) fC) (yD 4) (jU))
def nV:AF:=(AJ (bJ (yJ (vJ 3) wJ) wF))
def dH:AF:=zI (jV) (zI (jW) (zI (nT) (zI (qB) (zI (nU) ((nV))))))
def zV(ds:K1)(S:Sto):R Er:=yA (dH (zU ["_law_cell","_law_rest","_law_number","_law_total","_law_k","_law_other"] ds) S)
def dI:AF:=(CJ (dJ HD (dJ gW (vJ 0) (kJ (.int 0))) (vJ 1)) 2)
def dL:AF:=(EJ (dJ OT (dJ gW (vJ 0) (kJ (.int 0))) (vJ 1)) (DJ IU (vJ 0) (kJ (.int 0))))
def sM:AF:=(AJ (vJ 2))
def qY:AF:=zI (dI) (zI (dL) ((sM)))
def zA(ds:K1)(S:Sto):R Er:=yA (qY (zU BS ds) S)
def nW:AY:=(CJ (dJ xA (vJ 2) (dJ gW (vJ 1) (fJ 2 zA (yJ (vJ 0) (yJ (kJ (.int 26)) wJ))))) 2)
def dM:AY:=(nW)
def sN:AF:=(CJ (kJ (.str [97,98,99,100,101,102,103,104,105,106,107,108,109,110,111,112,113,114,115,116,117,118,119,120,121,122])) 1)
def sO:AF:=(CJ (kJ (.str [])) 2)
def mE:AF:=(FJ (bJ (yJ (dJ xA (kJ (.int 1)) (fJ 2 zA (yJ (vJ 0) (yJ (kJ (.int 8)) wJ)))) wJ) fC) (yD 3) (dM))
def sP:AF:=(AJ (vJ 2))
def qZ:AF:=zI (sN) (zI (sO) (zI (mE) ((sP))))
def kT(ds:K1)(S:Sto):R Er:=yA (qZ (zU ["_law_well","_law_letters","_law_word_here","_law_k"] ds) S)
def nY:AY:=(CJ (fJ 2 zA (yJ (vJ 0) (yJ (kJ (.int 4)) wJ))) 4)
def nZ:AY:=(CJ (dJ Bt (fJ 2 zA (yJ (vJ 0) (yJ (kJ (.int 9)) wJ))) (kJ (.int 4))) 5)
def jX:AY:=(iJ (bJ (dJ CP (vJ 4) (kJ (.int 1))) nO) ((CJ (dJ xA (dJ Bt (fJ 2 zA (yJ (vJ 0) (yJ (dJ Bt (dJ uI (kJ (.int 2)) (dJ Ji (kJ (.int 10)) (kJ (.int 30)))) (kJ (.int 1))) wJ))) (dJ Ji (kJ (.int 10)) (kJ (.int 30)))) (kJ (.int 1))) 5)) (JJ))
def jY:AY:=(iJ (bJ (dJ gtF (vJ 4) (kJ (.int 1))) nO) ((CJ (fJ 1 kT (yJ (vJ 0) wJ)) 5)) (JJ))
def jZ:AY:=(iJ (bJ (dJ (GU true) (vJ 5) (vJ 2)) nO) ((BJ (eJ jO mY (vJ 2) (yJ (vJ 5) wJ)))) (JJ))
def dN:AY:=zI (nY) (zI (nZ) (zI (jX) (zI (jY) ((jZ)))))
def mG:AF:=(CJ (bJ wJ wF) 2)
def mH:AF:=(FJ (bJ (yJ (vJ 1) wJ) fC) (yD 3) (dN))
def mI:AF:=(AJ (vJ 2))
def lH:AF:=zI (mG) (zI (mH) ((mI)))
def gQ(ds:K1)(S:Sto):R Er:=yA (lH (zU ["_law_well","_law_many","_law_pool_here","_law_k","_law_way","_law_value"] ds) S)
def bK:AY:=(CJ (dJ xA (kJ (.int 1)) (fJ 2 zA (yJ (vJ 0) (yJ (kJ (.int 3)) wJ)))) 3)
def bL:AY:=(BJ (eJ jO mY (vJ 1) (yJ (bJ (yJ (vJ 3) (yJ (fJ 2 zA (yJ (vJ 0) (yJ (dJ xA (vJ 3) (kJ (.int 1))) wJ))) wJ)) jM) wJ)))
def hX:AY:=zI (bK) ((bL))
def aB:AF:=(CJ (bJ wJ wF) 1)
def aC:AF:=(FJ (bJ (yJ (dJ xA (kJ (.int 1)) (fJ 2 zA (yJ (vJ 0) (yJ (kJ (.int 3)) wJ)))) wJ) fC) (yD 2) (hX))
def aD:AF:=(AJ (vJ 1))
def mK:AF:=zI (aB) (zI (aC) ((aD)))
def dO(ds:K1)(S:Sto):R Er:=yA (mK (zU ["_law_well","_law_tables_here","_law_k","_law_wide"] ds) S)
def fZ:AZ:=uJ
def bM:AE:=(dJ gW (vJ 2) (fJ 2 zA (yJ (vJ 1) (yJ (bJ (yJ (vJ 2) wJ) lW) wJ))))
def eC:AF:=(CJ (fJ 2 zA (yJ (vJ 0) (yJ (bJ (yJ (vJ 1) wJ) lW) wJ))) 3)
def eE:AF:=(AJ (bJ (yJ (vJ 3) (yJ (bJ (yJ (pJ (bJ (yJ (dJ gW (dJ gW (vJ 1) (vJ 3)) (kJ (.int 0))) wJ) fC) (yD 0) (fZ) (bM) 1 [0,2]) wJ) xT) wJ)) jM))
def pI:AF:=zI (eC) ((eE))
def xY(ds:K1)(S:Sto):R Er:=yA (pI (zU ["_law_well","_law_tables_here","_law_pool_here","_law_t"] ds) S)
def gA:AZ:=uJ
def wG:AE:=(fJ 1 zV (yJ (vJ 0) wJ))
def gB:AY:=(CJ (fJ 3 xY (yJ (vJ 8) (yJ (vJ 2) (yJ (vJ 3) wJ)))) 9)
def wH:AY:=(iJ (rJ (bJ (dJ (GU true) (vJ 9) (vJ 7)) nO) (bJ (dJ Oe (bJ (yJ (vJ 7) wJ) lW) (vJ 4)) nO)) ((BJ (eJ jO mY (vJ 7) (yJ (vJ 9) wJ)))) (JJ))
def xG:AY:=zI (gB) ((wH))
def dP:AF:=(CJ (fJ 1 zV (yJ (vJ 1) wJ)) 5)
def dQ:AF:=(CJ (fJ 2 zA (yJ (vJ 5) (yJ (kJ (.int 20)) wJ))) 6)
def dR:AF:=(CJ (bJ wJ wF) 7)
def dS:AF:=(FJ (bJ (dJ xA (pJ (bJ (vJ 0) CY) (yD 0) (gA) (wG) 1 []) (dJ uI (bJ (yJ (vJ 5) wJ) wF) (vJ 6))) CY) (yD 8) (xG))
def sQ:AF:=(AJ (vJ 7))
def lI:AF:=zI (dP) (zI (dQ) (zI (dR) (zI (dS) ((sQ)))))
def lK(ds:K1)(S:Sto):R Er:=yA (lI (zU ["_law_cells","_law_extra","_law_tables_here","_law_pool_here","_law_most","_law_more","_law_many","_law_rows_here","_law_well","_law_row_here"] ds) S)
def wI:AF:=(iJ (bJ (dJ CP (fJ 2 zA (yJ (vJ 0) (yJ (kJ (.int 4)) wJ))) (kJ (.int 0))) nO) ((AJ (bJ (yJ (kJ (.str [105,115])) (yJ (dJ gW (vJ 2) (fJ 2 zA (yJ (vJ 0) (yJ (bJ (yJ (vJ 2) wJ) lW) wJ)))) wJ)) jM))) (JJ))
def dU:AF:=(AJ (bJ (yJ (kJ (.str [118,97,114])) (yJ (dJ gW (vJ 1) (fJ 2 zA (yJ (vJ 0) (yJ (bJ (yJ (vJ 1) wJ) lW) wJ)))) wJ)) jM))
def gR:AF:=zI (wI) ((dU))
def lL(ds:K1)(S:Sto):R Er:=yA (gR (zU qV ds) S)
def cQ:AZ:=uJ
def jE:AE:=(fJ 3 lL (yJ (vJ 1) (yJ (vJ 2) (yJ (vJ 3) wJ))))
def cR:AY:=(CJ (fJ 2 zA (yJ (vJ 0) (yJ (bJ (yJ (vJ 1) wJ) lW) wJ))) 7)
def cS:AY:=(BJ (eJ jO mY (vJ 5) (yJ (bJ (yJ (vJ 7) (yJ (bJ (yJ (pJ (bJ (yJ (dJ gW (dJ gW (vJ 1) (vJ 7)) (kJ (.int 0))) wJ) fC) (yD 0) (cQ) (jE) 1 [0,2,3]) wJ) xT) wJ)) jM) wJ)))
def bN:AY:=zI (cR) ((cS))
def iA:AF:=(CJ (bJ wJ wF) 5)
def iB:AF:=(FJ (bJ (yJ (vJ 4) wJ) fC) (yD 6) (bN))
def iC:AF:=(AJ (vJ 5))
def eF:AF:=zI (iA) (zI (iB) ((iC)))
def eI(ds:K1)(S:Sto):R Er:=yA (eF (zU ["_law_well","_law_tables_here","_law_names_here","_law_pool_here","_law_many","_law_atoms_here","_law_k","_law_t"] ds) S)
def xK:AY:=(iJ (rJ (bJ (dJ CP (vJ 4) (kJ (.str [118,97,114]))) nO) (bJ (dJ (GU true) (vJ 5) (vJ 1)) nO)) ((BJ (eJ jO mY (vJ 1) (yJ (vJ 5) wJ)))) (JJ))
def yF:AY:=(xK)
def jK:AY:=(FJ (bJ (vJ 3) Aj) (oR 2 (zC (yD 4) (zC (yD 5) yL))) (yF))
def wO:AY:=(jK)
def wQ:AF:=(CJ (bJ wJ wF) 1)
def wR:AF:=(FJ (bJ (vJ 0) itQ) (oR 2 (zC (yD 2) (zC (yD 3) yL))) (wO))
def wU:AF:=(AJ (vJ 1))
def gC:AF:=zI (wQ) (zI (wR) ((wU)))
def yZ(ds:K1)(S:Sto):R Er:=yA (gC (zU ["_law_atoms_here","_law_found","_law_t","_law_terms","_law_word_here","_law_name"] ds) S)
def aF:AY:=(iJ (bJ (dJ EQ (vJ 3) (bJ wJ wF)) nO) ((BJ (eJ jO mY (vJ 4) (yJ (eJ jO ZD (vJ 3) (yJ (fJ 2 zA (yJ (vJ 0) (yJ (bJ (yJ (vJ 3) wJ) lW) wJ))) wJ)) wJ)))) (JJ))
def dW:AY:=(aF)
def mL:AF:=(CJ (fJ 1 yZ (yJ (vJ 1) wJ)) 3)
def mN:AF:=(CJ (bJ wJ wF) 4)
def mP:AF:=(FJ (bJ (yJ (fJ 2 zA (yJ (vJ 0) (yJ (dJ xA (vJ 2) (kJ (.int 1))) wJ))) wJ) fC) (yD 5) (dW))
def mQ:AF:=(AJ (vJ 4))
def lN:AF:=zI (mL) (zI (mN) (zI (mP) ((mQ))))
def nI(ds:K1)(S:Sto):R Er:=yA (lN (zU ["_law_well","_law_atoms_here","_law_most","_law_there","_law_head_here","_law_k"] ds) S)
def cT:AY:=(CJ (fJ 1 kT (yJ (vJ 0) wJ)) 4)
def jF:AY:=(iJ (bJ (dJ (GU false) (vJ 4) (vJ 2)) nO) ((CJ (dJ gW (bJ (yJ (dJ xA (kJ (.str [98])) (vJ 1)) (yJ (dJ xA (dJ xA (kJ (.str [98])) (vJ 1)) (kJ (.str [97]))) wJ)) wF) (vJ 3)) 4)) (JJ))
def cU:AY:=(BJ (eJ jO mY (vJ 2) (yJ (vJ 4) wJ)))
def kU:AY:=zI (cT) (zI (jF) ((cU)))
def bO:AF:=(CJ (tJ oS (fJ 1 kT (yJ (vJ 0) wJ)) mJ (bJ (kJ (.int 6)) UU)) 1)
def bP:AF:=(iJ (bJ (dJ CP (fJ 2 zA (yJ (vJ 0) (yJ (kJ (.int 2)) wJ))) (kJ (.int 0))) nO) ((AJ (bJ (yJ (vJ 1) (yJ (dJ xA (vJ 1) (kJ (.str [97]))) (yJ (dJ xA (kJ (.str [98])) (vJ 1)) wJ))) wF))) (JJ))
def iD:AF:=(CJ (bJ (yJ (vJ 1) wJ) wF) 2)
def iE:AF:=(FJ (bJ (yJ (kJ (.int 2)) wJ) fC) (yD 3) (kU))
def iG:AF:=(AJ (vJ 2))
def uY:AF:=zI (bO) (zI (bP) (zI (iD) (zI (iE) ((iG)))))
def eK(ds:K1)(S:Sto):R Er:=yA (uY (zU ["_law_well","_law_base","_law_names_here","_law_k","_law_name"] ds) S)
def cV:AY:=(iJ (bJ (bJ (yJ (vJ 2) (yJ (kJ (.typ "str")) wJ)) HF) EL) ((BJ (eJ jO mY (vJ 1) (yJ (bJ (yJ (kJ (.int 1)) (yJ (kJ (.int 0)) (yJ (vJ 2) wJ))) jM) wJ)))) ((BJ (eJ jO mY (vJ 1) (yJ (bJ (yJ (kJ (.int 0)) (yJ (vJ 2) (yJ (kJ (.str [])) wJ))) jM) wJ)))))
def bQ:AY:=(cV)
def bR:AF:=(CJ (bJ wJ wF) 1)
def iH:AF:=(FJ (bJ (vJ 0) Aj) (yD 2) (bQ))
def iI:AF:=(AJ (vJ 1))
def eM:AF:=zI (bR) (zI (iH) ((iI)))
def eO(ds:K1)(S:Sto):R Er:=yA (eM (zU ["_law_cells","_law_marks","_law_value"] ds) S)
def xZ:AZ:=uJ
def yK:AE:=(bJ (yJ (vJ 0) (yJ (iJ (bJ (dJ CP (vJ 0) (kJ (.str [118,97,114]))) nO) (dJ LX (vJ 2) (vJ 1)) (vJ 1)) wJ)) jM)
def gI:AY:=(CJ (pJ (bJ (vJ 6) Aj) (oR 2 (zC (yD 0) (zC (yD 1) yL))) (xZ) (yK) 2 [3]) 7)
def gM:AY:=(BJ (eJ jO mY (vJ 4) (yJ (bJ (yJ (vJ 5) (yJ (bJ (yJ (vJ 7) wJ) xT) wJ)) jM) wJ)))
def jG:AY:=zI (gI) ((gM))
def gN:AZ:=uJ
def wA:AE:=(dJ LX (vJ 1) (vJ 0))
def cW:AF:=(CJ (bJ (yJ (vJ 1) (yJ (vJ 2) wJ)) Lx) 3)
def cX:AF:=(CJ (bJ wJ wF) 4)
def cY:AF:=(FJ (bJ (dJ gW (vJ 0) (kJ (.int 1))) Aj) (oR 2 (zC (yD 5) (zC (yD 6) yL))) (jG))
def cZ:AF:=(AJ (bJ (yJ (bJ (yJ (pJ (bJ (dJ gW (vJ 0) (kJ (.int 0))) Aj) (yD 0) (gN) (wA) 1 [3]) wJ) xT) (yJ (bJ (yJ (vJ 4) wJ) xT) wJ)) jM))
def bS:AF:=zI (cW) (zI (cX) (zI (cY) ((cZ))))
def bT(ds:K1)(S:Sto):R Er:=yA (bS (zU ["_law_question","_law_names_here","_law_others_here","_law_new","_law_atoms_here","_law_t","_law_terms","_law_some"] ds) S)
def wV:AZ:=(bJ (dJ (GU true) (dJ xA (vJ 0) (dJ gW (vJ 1) (kJ (.int 0)))) (vJ 1)) nO)
def wW:AE:=(dJ xA (vJ 0) (dJ gW (vJ 1) (kJ (.int 0))))
def aG:AF:=(CJ (pJ (bJ (kJ (.str [99,100,101,102])) Ym) (yD 0) (wV) (wW) 1 [0]) 1)
def aH:AF:=(AJ (bJ (yJ (dJ gW (vJ 1) (kJ (.int 0))) (yJ (dJ gW (vJ 0) (kJ (.int 0))) (yJ (dJ gW (vJ 0) (kJ (.int 1))) wJ))) wF))
def dX:AF:=zI (aG) ((aH))
def dY(ds:K1)(S:Sto):R Er:=yA (dX (zU ["_law_names_here","_law_strange"] ds) S)
def wX:AZ:=(bJ (dJ (GU true) (vJ 0) (vJ 1)) nO)
def bU:AE:=(vJ 0)
def aI:AF:=(AJ (dJ CP (pJ (bJ (vJ 0) CY) (yD 0) (wX) (bU) 1 [1]) (bJ wJ wF)))
def dZ:AF:=(aI)
def yU(ds:K1)(S:Sto):R Er:=yA (dZ (zU dF ds) S)
def bV:AF:=(iJ (bJ (dJ (GU false) (vJ 2) (vJ 1)) nO) ((AJ (kJ (.bl true)))) (JJ))
def iK:AF:=(AJ (fJ 2 yU (yJ (vJ 0) (yJ (fJ 2 zY (yJ (dJ xA (vJ 1) (bJ (yJ (vJ 2) wJ) wF)) (yJ (vJ 3) wJ))) wJ))))
def eP:AF:=zI (bV) ((iK))
def eQ(ds:K1)(S:Sto):R Er:=yA (eP (zU oU ds) S)
def bW:AZ:=uJ
def wY:AE:=(dJ xA (tJ oS (vJ 0) (bJ (vJ 1) UU) mJ) (tJ oS (vJ 0) mJ (bJ (vJ 1) UU)))
def aK:AF:=(CJ (pJ (bJ (vJ 0) CY) (yD 0) (bW) (wY) 1 [1]) 2)
def aL:AF:=(AJ (bJ (yJ (vJ 2) wJ) (BQ true eO)))
def nA:AF:=zI (aK) ((aL))
def nB(ds:K1)(S:Sto):R Er:=yA (nA (zU ["_law_told","_law_turn","_law_found"] ds) S)
def BA:AY:=(iJ (sJ (bJ (dJ EQ (fJ 2 zY (yJ (vJ 7) (yJ (vJ 13) wJ))) (vJ 8)) nO) (bJ (dJ EQ (fJ 2 zY (yJ (tJ (uK (-1)) (vJ 7) mJ mJ) (yJ (vJ 13) wJ))) (vJ 8)) nO)) ((AJ (kJ (.bl false)))) (JJ))
def DO:AY:=(BA)
def rS:AZ:=(bJ (dJ (GU true) (vJ 0) (vJ 1)) nO)
def BB:AE:=(vJ 0)
def LZ:AF:=(CJ (fJ 1 dO (yJ (fJ 1 zV (yJ (fJ 2 zO (yJ (vJ 0) (yJ (kJ (.int 0)) wJ))) wJ)) wJ)) 1)
def MA:AF:=(CJ (fJ 2 gQ (yJ (fJ 1 zV (yJ (fJ 2 zO (yJ (vJ 0) (yJ (kJ (.int 1)) wJ))) wJ)) (yJ (kJ (.int 4)) wJ))) 2)
def MB:AF:=(CJ (fJ 1 eK (yJ (fJ 1 zV (yJ (fJ 2 zO (yJ (vJ 0) (yJ (kJ (.int 2)) wJ))) wJ)) wJ)) 3)
def MD:AF:=(CJ (fJ 1 zV (yJ (fJ 2 zO (yJ (vJ 0) (yJ (kJ (.int 3)) wJ))) wJ)) 4)
def ME:AF:=(CJ (fJ 5 eI (yJ (vJ 4) (yJ (vJ 1) (yJ (vJ 3) (yJ (vJ 2) (yJ (dJ xA (kJ (.int 1)) (fJ 2 zA (yJ (vJ 4) (yJ (kJ (.int 4)) wJ)))) wJ)))))) 5)
def MF:AF:=(CJ (fJ 1 zV (yJ (fJ 2 zO (yJ (vJ 0) (yJ (kJ (.int 5)) wJ))) wJ)) 4)
def MG:AF:=(CJ (bJ (yJ (fJ 3 nI (yJ (vJ 4) (yJ (vJ 5) (yJ (kJ (.int 3)) wJ)))) wJ) xT) 6)
def MH:AF:=(CJ (fJ 5 lK (yJ (tJ oS (vJ 0) (bJ (kJ (.int 7)) UU) mJ) (yJ (fJ 2 zO (yJ (vJ 0) (yJ (kJ (.int 4)) wJ))) (yJ (vJ 1) (yJ (vJ 2) (yJ (kJ (.int 24)) wJ)))))) 7)
def MK:AF:=(CJ (fJ 2 zY (yJ (vJ 7) (yJ (bJ (yJ (vJ 6) (yJ (bJ (yJ (vJ 5) wJ) xT) wJ)) jM) wJ))) 8)
def FH:AF:=(CJ (fJ 2 zA (yJ (vJ 4) (yJ (bJ (yJ (vJ 5) wJ) lW) wJ))) 9)
def FK:AF:=(CJ (dJ xA (tJ oS (vJ 5) (bJ (vJ 9) UU) mJ) (tJ oS (vJ 5) mJ (bJ (vJ 9) UU))) 10)
def FL:AF:=(CJ (dJ xA (tJ oS (vJ 5) mJ (bJ (kJ (.int 1)) UU)) (vJ 10)) 11)
def FM:AF:=(CJ (bJ (yJ (bJ (yJ (vJ 6) (yJ (bJ (yJ (vJ 10) wJ) xT) wJ)) jM) (yJ (bJ (yJ (vJ 6) (yJ (bJ (yJ (tJ (uK (-1)) (vJ 10) mJ mJ) wJ) xT) wJ)) jM) wJ)) wF) 12)
def rA:AF:=(iJ (bJ (dJ Oe (bJ (yJ (vJ 11) wJ) lW) (kJ (.int 5))) nO) ((BJ (eJ jO mY (vJ 12) (yJ (bJ (yJ (vJ 6) (yJ (bJ (yJ (vJ 11) wJ) xT) wJ)) jM) wJ)))) (JJ))
def FN:AF:=(FJ (bJ (vJ 12) CY) (yD 13) (DO))
def FO:AF:=(CJ (fJ 3 bT (yJ (bJ (yJ (vJ 6) (yJ (bJ (yJ (vJ 5) wJ) xT) wJ)) jM) (yJ (vJ 3) (yJ (fJ 1 dY (yJ (vJ 3) wJ)) wJ)))) 14)
def FP:AF:=(iJ (sJ (bJ (dJ EQ (fJ 2 zY (yJ (vJ 7) (yJ (vJ 14) wJ))) (vJ 8)) nO) (bJ (dJ EQ (fJ 2 zY (yJ (bJ wJ wF) (yJ (dJ gW (vJ 12) (kJ (.int 0))) wJ))) (bJ wJ wF)) nO)) ((AJ (kJ (.bl false)))) (JJ))
def FQ:AF:=(CJ (fJ 2 zA (yJ (vJ 4) (yJ (dJ xA (bJ (yJ (vJ 6) wJ) lW) (kJ (.int 1))) wJ))) 9)
def FR:AF:=(CJ (bJ (yJ (dJ xA (tJ oS (vJ 6) (bJ (vJ 9) UU) mJ) (tJ oS (vJ 6) mJ (bJ (vJ 9) UU))) (yJ (bJ (yJ (vJ 5) wJ) xT) wJ)) jM) 15)
def FS:AF:=(iJ (bJ (dJ EQ (fJ 2 zY (yJ (vJ 7) (yJ (vJ 15) wJ))) (fJ 2 nB (yJ (vJ 8) (yJ (vJ 9) wJ)))) nO) ((AJ (kJ (.bl false)))) (JJ))
def FU:AF:=(CJ (fJ 3 xY (yJ (fJ 1 zV (yJ (fJ 2 zO (yJ (vJ 0) (yJ (kJ (.int 6)) wJ))) wJ)) (yJ (vJ 1) (yJ (vJ 2) wJ)))) 16)
def FV:AF:=(iJ (qJ (bJ (fJ 4 eQ (yJ (vJ 8) (yJ (vJ 7) (yJ (vJ 16) (yJ (dJ gW (vJ 12) (kJ (.int 0))) wJ))))) EL)) ((AJ (kJ (.bl false)))) (JJ))
def FW:AF:=(CJ (tJ oS (vJ 10) (bJ (kJ (.int 1)) UU) mJ) 17)
def FX:AF:=(CJ (fJ 1 yZ (yJ (vJ 17) wJ)) 18)
def oD:AF:=(iJ (rJ (bJ (dJ EQ (vJ 17) (bJ wJ wF)) nO) (bJ (dJ CP (pJ (bJ (vJ 6) Aj) (yD 0) (rS) (BB) 1 [18]) (bJ wJ wF)) nO)) (zI (CJ (fJ 2 zY (yJ (vJ 7) (yJ (bJ (yJ (vJ 6) (yJ (bJ (yJ (vJ 17) wJ) xT) wJ)) jM) wJ))) 19) ((AJ (fJ 2 yU (yJ (vJ 8) (yJ (vJ 19) wJ)))))) (JJ))
def FY:AF:=(AJ (kJ (.bl true)))
def WI:AF:=zI (LZ) (zI (MA) (zI (MB) (zI (MD) (zI (ME) (zI (MF) (zI (MG) (zI (MH) (zI (MK) (zI (FH) (zI (FK) (zI (FL) (zI (FM) (zI (rA) (zI (FN) (zI (FO) (zI (FP) (zI (FQ) (zI (FR) (zI (FS) (zI (FU) (zI (FV) (zI (FW) (zI (FX) (zI (oD) ((FY))))))))))))))))))))))))))
def JM(ds:K1)(S:Sto):R Er:=yA (WI (zU ["_law_script","_law_tables_here","_law_pool_here","_law_names_here","_law_well","_law_atoms_here","_law_head_here","_law_rows_here","_law_told","_law_turn","_law_about","_law_twice","_law_some","_law_question","_law_renamed_here","_law_turned_here","_law_row_here","_law_less","_law_there","_law_more"] ds) S)
section
variable{α β:Type}{ρ ρ':Rho}{S S1 S2 S3:Sto}{f g h:AX}{p q:Er}{d:MV}{r:R α}{z:R Er}{y:R Fl}
theorem ev_v{i:Nat}(e:ρ[i]? =some (some d)):vJ i ρ S=#[d,S,1]:=by unfold vJ;rw[e];rfl
def ev_b{f:Rho->Sto->R β}{F:β->Sto->R α}{a:β}(e:f ρ S=.ok a S1)(k:F a S1=r):bJ f F ρ S=r:=by unfold bJ;rw[e];exact k
def ev_d{F:Er->Er->Sto->R Er}(e:f ρ S=.ok p S1)(a:g ρ S1=.ok q S2)(k:F p q S2=z):dJ F f g ρ S=z:=by unfold dJ;rw[e,gV,a];exact k
def ev_i{c:AZ}{f g:Rho->Sto->R α}{k:Bool}(e:c ρ S=.ok k S1)(h:(if k=true then f ρ S1 else g ρ S1)=r):iJ c f g ρ S=r:=by unfold iJ;rw[e];exact h
def ev_t{F:Er->Option Int->Option Int->Sto->R Er}{g h:Rho->Sto->R (Option Int)}{a b:J7}(e:f ρ S=.ok p S1)(c:g ρ S1=.ok a S2)(d:h ρ S2=.ok b S3)(k:F p a b S3=z):tJ F f g h ρ S=z:=by unfold tJ;rw[e,gV,c,gV,d];exact k
def ev_f{n:Nat}{F:List MV->Sto->R Er}{a:Rho->Sto->R (List Er)}(e:a ρ S=.ok rs S1)(k:zH n F rs S1=z):fJ n F a ρ S=z:=by unfold fJ;rw[e];exact k
def ev_e{t:Er->Sto->Bool}{F:Er->List Er->Sto->R Er}{a:Rho->Sto->R (List Er)}(e:f ρ S=.ok p S1)(b:t p S1=true)(c:a ρ S1=.ok rs S2)(k:F p rs S2=z):eJ t F f a ρ S=z:=by unfold eJ;rw[e,gV,iP b,c];exact k
def ev_p{i:Rho->Sto->R Wk}{g:MV->Rho->Sto->R Rho}{c:AZ}{n:Nat}{I:Db}{k:Wk}{o:K1}(e:i ρ S=.ok k S1)(a:k.ds.length<1000000)(b:zX g c f (rW n I ρ) k.gs k.ds S1=.ok o S2)(h:#[o,S2,2]=z):pJ i g c f n I ρ S=z:=by unfold pJ;rw[e,gV,iP a,b];exact h
theorem ev_q{f:AZ}{k:Bool}(e:f ρ S=.ok k S1):qJ f ρ S=.ok (!k) S1:=by unfold qJ;rw[e];rfl
def ev_r{f g:AZ}{k:Bool}{r:R Bool}(e:f ρ S=.ok k S1)(h:(if k=true then g ρ S1 else .ok false S1)=r):rJ f g ρ S=r:=by unfold rJ;rw[e];exact h
def ev_s{f g:AZ}{k:Bool}{r:R Bool}(e:f ρ S=.ok k S1)(h:(if k=true then .ok true S1 else g ρ S1)=r):sJ f g ρ S=r:=by unfold sJ;rw[e];exact h
theorem ev_y{g:Rho->Sto->R (List Er)}{l:List Er}(e:f ρ S=.ok p S1)(a:g ρ S1=.ok l S2):yJ f g ρ S=.ok (p::l) S2:=by unfold yJ;rw[e,gV,a];rfl
def ev_A(e:f ρ S=.ok p S1)(k:.ok (.ret p) S1=y):AJ f ρ S=y:=by unfold AJ;rw[e];exact k
def ev_B(e:f ρ S=.ok p S1)(k:#[ρ,S1,0]=y):BJ f ρ S=y:=by unfold BJ;rw[e];exact k
def ev_C{i:Nat}(e:f ρ S=.ok p S1)(k:EM ρ i p S1=y):CJ f i ρ S=y:=by unfold CJ;rw[e];exact k
def ev_D{F:Er->Er->MV->Rho->Sto->R Rho}{r:R Rho}(e:f ρ S=.ok p S1)(a:g ρ S1=.ok q S2)(k:F p q d ρ S2=r):DJ F f g d ρ S=r:=by unfold DJ;rw[e,gV,a];exact k
def ev_E{g:MV->Rho->Sto->R Rho}(e:f ρ S=#[d,S1,1])(k:g d ρ S1=.ok ρ' S2)(h:#[ρ',S2,0]=y):EJ f g ρ S=y:=by unfold EJ;rw[e];show(g d ρ S1).bind _=_;rw[k];exact h
def ev_F{i:Rho->Sto->R Wk}{g:MV->Rho->Sto->R Rho}{b:AY}{k:Wk}(e:i ρ S=.ok k S1)(h:wK g b k.gs k.ds ρ S1=y):FJ i g b ρ S=y:=by unfold FJ;rw[e];exact h
def A3{a b:R α}(h:a=r):(if true=true then a else b)=r:=h
def A4{a b:R α}(h:b=r):(if false=true then a else b)=r:=h
def A5{c:Prop}[Decidable c]{a b:R α}(d: ¬c)(h:b=r):(if decide c=true then a else b)=r:=by rw[dF0 d];exact h
end
section
variable{a b:Int}{S:Sto}
def modA(h:0<b:=by first |decide|omega):HD #[a,5] #[b,5] S=.ok #[a % b,5] S:=mod_lit h a S
def divA(h:0<b/\b<1073741824:=by first |decide|omega):OT #[a,5] #[b,5] S=.ok #[a / b,5] S:=LC h.1 h.2 a S
def mulB(h:0<=b/\b<4294967296:=by first |exact mdl|decide|omega):uI #[a,5] #[b,5] S=.ok #[a * b,5] S:=DA ⟨by omega,by omega⟩ a S
end
set_option bootstrap.genMatcherCode true in
local macro_rules
 | `(tactic|exists 7,$[$hs],*)=>`(tactic|first
  |(with_reducible first $[|exact $hs ..]*)
  |((with_reducible first |apply ev_v|apply ev_b|apply ev_d|apply ev_y|apply ev_f|apply ev_C|apply ev_A|apply ev_i|apply A3|apply A4|apply ev_F|apply ev_p|apply ev_e|apply ev_B|apply ev_r|apply ev_s|apply ev_q|apply ev_a|apply ev_o|apply ev_n|apply ev_t|apply ev_g|apply ev_E|apply ev_D)<;>exists 7,$[$hs],*)
  |(with_reducible first |exact eq_int .. |exact tup2 .. |exact Yw .. |exact SR .. |exact lst1 .. |exact Tg .. |exact Th ..)
  |(with_reducible show HD _ _ _=_);exact modA
  |(with_reducible show OT _ _ _=_);exact divA
  |(with_reducible show uI _ _ _=_);(first |exact mulA|exact mulB)
  |(with_reducible show fC _ _=_);exact tG (by omega)
  |(with_reducible show zX _ _ _ _ _ _ _=_);(first $[|exact $hs]*)
  |(with_reducible show wK _ _ _ _ _ _=_);(first $[|exact $hs]*)
  |(with_reducible first $[|exact of_eq_true $hs]* $[|refine ite_d $hs ?_]* $[|refine A5 $hs ?_]* $[|refine(iP $hs).trans ?_]* $[|refine(iN $hs).trans ?_]*)<;>exists 7,$[$hs],*
  |exact rfl)
def Mb{b:Int}(h:Jh 0 b)(a:Int)(S:Sto):OT #[a,5] #[b,5] S=.ok #[a / b,5] S:=iP h
def wZ{l:Nat}{ds:K1}{d:MV}(a:S[l]? =#[ds,2])(hz:ds.length<1000000):mY #[l,1] [.val d] S=#[.non,S.set l (.lst (ds++[d])),1]:=by show YR #[l,1] S (λds=>if ds.length<sizeLine then some _ else none)=_;unfold YR;dsimp only;rw[a];dsimp only;rw[iP (ç hz (fits (à _)))]
theorem xL{l:Nat}{ds:K1}(a:S[l]? =#[ds,2]):jO #[l,1] S=true:=by unfold jO;rw[fG a];rfl
def Ef{l:Nat}{ds:K1}{k:Int}{d:MV}{ρ:Rho}(b:S[l]? =#[ds,2])(a:IF ds.length k=some j):IU #[l,1] #[k,5] d ρ S=.ok ρ (S.set l (.lst (ds.set j d))):=by unfold IU;dsimp only;rw[b];dsimp only;rw[a]
def get_set{l:Nat}{o':MO}(h:S[l]? =some o):(S.set l o')[l]? =some o':=ę (gS.mp h).1
def tQ{l m:Nat}{o':MO}(h:l≠m):(S.set l o')[m]? =S[m]? :=ĥ h
def gT{l:Nat}{ds:K1}(a:S[l]? =#[ds,2]):xT [#[l,1]] S=.ok #[ds,6] S:=by show(match jB S _ with |some ds=>R.ok _ S|none=>.no)=_;rw[fG a]
theorem Mc(ds:K1)(S:Sto):lW [#[ds,6]] S=.ok #[ds.length,5] S:=rfl
theorem ML(gf:MV->Rho->Sto->R Rho)(ρ:Rho)(d:MV)(S:Sto):Iu gf ρ (.val d) S=(gf d ρ S).bind λρ' S2=>#[ρ',S2,0]:=rfl
noncomputable def tbl(p:Int×Int):MV:=.tup [.int p.1,.int p.2]
def Eg(ts:Tk):Prop:=1<=ts.length/\ts.length<=4/\ ∀p∈ts,1<=p.1/\p.1<=4/\0<=p.2/\p.2<=p.1
mutual
def pd:MV->Bool
 |.int _=>true
 |.str _=>true
 |.tup ds=>RK ds
 |_=>false
def RK:List MV->Bool
 |[]=>true
 |d::ds=>pd d&&RK ds
end
mutual
def uZ:MV->Nat
 |.tup ds=>BC ds+1
 |_=>0
def BC:List MV->Nat
 |[]=>0
 |d::ds=>max (uZ d) (BC ds)
end
def xQ(ds:K1):pd (.tup ds)=RK ds:=by rw[pd]
def vA:RK []=true:=by rw[RK]
def yB(d:MV)(ds:K1):RK (d::ds)=(pd d&&RK ds):=by rw[RK]
def gD(ds:K1):uZ (.tup ds)=BC ds+1:=by rw[uZ]
def yO(d:MV)(ds:K1):BC (d::ds)=max (uZ d) (BC ds):=by rw[BC]
def vB:BC []=0:=by rw[BC]
def MM(i:Int):pd (.int i)=true:=by rw[pd]
def tR(i:Db):pd (.str i)=true:=by rw[pd]
def pM(i:Int):uZ (.int i)=0:=by simp[uZ]
def lO(i:Db):uZ (.str i)=0:=by simp[uZ]
theorem bX: ∀{ds:K1},(∀d∈ds,pd d=true)->RK ds=true
 |[],_=>vA
 |d::ds,h=>by rw[yB,h d mF0,bX λe a=>h e (mO _ a)];rfl
theorem MN: ∀{ds:K1},RK ds=true-> ∀d∈ds,pd d=true
 |[],_,d,h=>by simp at h
 |e::ds,hp,d,h=>by
  rw[yB,aE]at hp;rcases mC.mp h with rfl|h
  .exact hp.1
  .exact MN hp.2 d h
theorem vC: ∀{ds:K1}{n:Nat},(∀d∈ds,uZ d<=n)->BC ds<=n
 |[],n,_=>by rw[vB];exact zero_le _
 |d::ds,n,h=>by
  rw[yO];have h1:=h d mF0;have b:=vC λe a=>h e (mO _ a)
  lia
theorem QD: ∀{ds:K1}, ∀d∈ds,uZ d<=BC ds
 |[],d,h=>by simp at h
 |e::ds,d,h=>by
  rcases mC.mp h with rfl|h
  .exact Nat.le_max_left _ _
  .exact ø (QD d h) (Nat.le_max_right _ _)
def QE{d:MV}(h:pd d=true):(∃i,d=.int i)\/(∃x,d=.str x)\/ ∃ds,d=.tup ds/\RK ds=true:=by
 cases d with
 |int i=>exact .inl ⟨i,rfl⟩
 |str x=>exact .inr (.inl ⟨x,rfl⟩)
 |tup ds=>exact .inr (.inr ⟨ds,rfl,by rw[<-xQ];exact h⟩)
 |_=>rw[pd]at h<;>first |cases h|(intros;simp)
def dec_is{p:Prop}[Decidable p]{q:Prop}[Decidable q](h:p↔q):decide p=decide q:=by
 by_cases a:q
 .rw[dT0 a,dT0 (h.mpr a)]
 .rw[dF0 a,dF0 λz=>a (h.mp z)]
theorem vD{e:MV->MV->Option Bool}: ∀{ds es:K1},(∀d∈ds, ∀f∈es,e d f=some (decide (d=f)))-> ∃bs,BN e ds es=some bs/\(bs.all id&&ds.length==es.length)=decide (ds=es)
 |[],[],_=>⟨[],rfl,by simp⟩
 |[],_::_,_=>⟨[],rfl,by simp⟩
 |_::_,[],_=>⟨[],rfl,by simp⟩
 |d::ds,f::es,h=>by
  obtain⟨bs,h1,c⟩:=vD λa i b j=>h a (mO _ i) b (mO _ j);refine⟨decide (d=f)::bs,?_,?_⟩
  .unfold BN;rw[h d mF0 f mF0,h1];rfl
  .by_cases hd:d=f
   .subst hd;rw[List.all_cons,dT0 rfl];simp only[id,Bool.true_and,lC];rw[show(ds.length+1==es.length+1)=(ds.length==es.length) by simp,c];exact dec_is (by simp)
   .rw[dF0 hd];rw[dF0 (λz=>hd (List.cons.inj z).1)];rfl
theorem oE{S:Sto}: ∀(n:Nat){d e:MV},pd d=true->pd e=true->uZ d<n->eqv S n d e=some (decide (d=e))
 |0,d,e,_,_,h=>by lia
 |n+1,d,e,hd,he,h=>by
  rcases QE hd with⟨i,rfl⟩|⟨x,rfl⟩|⟨ds,rfl,pds⟩<;>rcases QE he with⟨j,rfl⟩|⟨y,rfl⟩|⟨es,rfl,pes⟩
  .rw[KY];exact congrArg some (dec_is (by simp))
  .rw[Tc,dF0 (by simp)]
  .rw[dF0 (by simp)];rfl
  .rw[Td,dF0 (by simp)]
  .rw[uO];exact congrArg some (dec_is (by simp))
  .rw[dF0 (by simp)];rfl
  .rw[dF0 (by simp)];rfl
  .rw[dF0 (by simp)];rfl
  .rw[gD]at h;obtain⟨bs,h1,k⟩:=vD λa c b m=>oE n (MN pds a c) (MN pes b m) (by have:=QD a c;lia);show((BN _ ds es).map λbs=>bs.all id&&ds.length==es.length)=_;rw[h1];show some (bs.all id&&ds.length==es.length)=_;rw[k];exact congrArg some (dec_is (by simp))
theorem QF{S:Sto}{d:MV}(hd:pd d=true): ∀{ys:K1},(∀y∈ys,pd y=true/\uZ y<40)->OU S zF d ys=some (ys.map λy=>decide (y=d))
 |[],_=>rfl
 |y::ys,h=>by have h1:=h y mF0;unfold OU;rw[oE zF h1.1 hd (by unfold zF;exact h1.2),QF hd λz a=>h z (mO _ a)];rfl
def WJ{n:Nat}{F:List MV->Sto->R Er}{b:Bool}(a:rs.length=n)(c:F (zE rs S).1 (zE rs S).2=#[.bl b,S,1]):zH n F rs S=#[.bl b,S,1]:=eU a c (Co _ _) (λl=>by simp)
def SqM(S:Sto)(m:MV)(ds:K1):Prop:=m=.tup ds\/ ∃l,m=.loc l/\S[l]? =#[ds,2]
def SqM.len{ds:K1}(h:SqM S m ds):lW [.val m] S=.ok #[ds.length,5] S:=by
 rcases h with rfl|⟨l,rfl,hS⟩
 .rfl
 .exact xU hS
def SqM.app{ds:K1}(h:SqM S m ds):SqM (S++T) m ds:=by
 rcases h with h|⟨l,h,hS⟩
 .exact .inl h
 .exact .inr ⟨l,h,by rw[á (gS.mp hS).1];exact hS⟩
def bY{n:Nat}{F:List MV->Sto->R Er}{r:Er}{ds:K1}{as:K1}{S2:Sto}(b:rs.length=n)(c:zE rs S=(as,S2))(e:F as S2=.ok r (S++T))(d:r=.new ds\/ ∃l,r=#[l,1]/\↑1<=l/\(S++T)[l]? =#[ds,2])(h:tX ↑1 ds):zH n F rs S=#[ds,S,2]:=by
 have a:F (zE rs S).1 (zE rs S).2=.ok r (S++T):=by rw[c];exact e
 rcases d with rfl|⟨l,rfl,h1,h2⟩
 .exact mZ b a h
 .exact ER b a h1 h2 h
theorem Md(a:Bool)(p:Er)(l:Nat)(S:Sto):GU a p #[l,1] S=KR a p #[l,1] S:=by
 unfold GU;split
 .rename_i h;cases h
 .rfl
def lP{l:Nat}{d:MV}{ys:K1}(a:Bool)(c:S[l]? =#[ys,2])(hd:pd d=true)(h: ∀y∈ys,pd y=true/\uZ y<40):GU a (.val d) #[l,1] S=#[.bl (if a=true then !decide (d∈ys)else decide (d∈ys)),S,1]:=by
 have i:itemsOf S #[l,1]=some ys:=by unfold itemsOf;exact fG c
 rw[Md];unfold KR;rw[i];dsimp only;rw[QF hd h];dsimp only
 have e:(ys.map λy=>decide (y=d)).any id=decide (d∈ys):=by
  rw[List.any_map];by_cases b:d∈ys
  .rw[dT0 b,List.any_eq_true];exact⟨d,b,by simp⟩
  .rw[dF0 b];rw[List.any_eq_false];intro y j;simp only[Function.comp,id,decide_eq_true_eq];rintro rfl;exact b j
 rw[e]
theorem gt_int(i j:Int)(S:Sto):gtF #[i,5] #[j,5] S=#[.bl (decide (j<i)),S,1]:=rfl
noncomputable abbrev GW:List Nat:=[118,97,114]
noncomputable abbrev IS:List Nat:=[105,115]
def bZ(d:MV):Prop:=(∃x,d=.tup [.str GW,.str x])\/ ∃v,((∃i,v=.int i)\/ ∃x,v=.str x)/\d=.tup [.str IS,v]
mutual
theorem iL{n:Nat}: ∀{d:MV},pd d=true->lo n d
 |.int i,_=>AC n i
 |.str x,_=>SN n x
 |.tup ds,h=>SO (MP (by rw[xQ]at h;exact h))
 |.non,_=>Cp n
 |.bl b,_=>Co n b
 |.scr ds,h=>by unfold pd at h;cases h
 |.loc l,h=>by unfold pd at h;cases h
 |.typ t,h=>by unfold pd at h;cases h
theorem MP{n:Nat}: ∀{ds:K1},RK ds=true->tX n ds
 |[],_=>cN λd hd=>by simp at hd
 |d::ds,h=>by rw[yB,aE]at h;unfold tX;exact⟨iL h.1,MP h.2⟩
end
def WK{d:MV}(h:bZ d):pd d=true/\uZ d<=1:=by
 rcases h with⟨x,rfl⟩|⟨v,⟨i,rfl⟩|⟨x,rfl⟩,rfl⟩
 .exact⟨by rw[xQ,yB,yB];rfl,by rw[gD,yO,yO,lO,lO];decide⟩
 .exact⟨by rw[xQ,yB,yB];rfl,by rw[gD,yO,yO,pM];decide⟩
 .exact⟨by rw[xQ,yB,yB];rfl,by rw[gD,yO,yO,lO,lO];decide⟩
def vn:MV->Option (List Nat)
 |.tup [.str w,.str x]=>if w=GW then some x else none
 |_=>none
def mR(x:Db):vn (.tup [.str GW,.str x])=some x:=by simp[vn]
def QG(S:Sto):CP (.val (.str GW)) (.val (.str GW)) S=#[.bl true,S,1]:=by rw[eq_str,dT0 rfl]
def Eh(S:Sto):CP (.val (.str IS)) (.val (.str GW)) S=#[.bl false,S,1]:=by rw[eq_str,dF0 (by decide)]
def zG(S:Sto)(o:MO):(S++[o])[↑1]? =some o:=by simp
def cA(S:Sto)(o o':MO):(S++[o]).set ↑1 o'=S++[o']:=by simp
def DP{fs:Ch}: ∀y∈fs.map MV.str,pd y=true/\uZ y<40:=λd hd=>by obtain⟨u,_,rfl⟩:=mM.mp hd;exact⟨tR u,by rw[lO];decide⟩
def DQ{x:Db}{fs:Ch}:MV.str x∈fs.map MV.str↔x∈fs:=⟨λh=>by obtain⟨u,a,e⟩:=mM.mp h;cases e;exact a,λh=>mM.mpr ⟨x,h,rfl⟩⟩
theorem Ei(a b:MV)(S:Sto):gW #[[a,b],6] #[0,5] S=#[a,S,1]:=rfl
theorem Ej(a b:MV)(S:Sto):gW #[[a,b],6] #[1,5] S=#[b,S,1]:=rfl
def SqM.itQ{ds:K1}(h:SqM S m ds): ∃gs,(∀T,stay gs (S++T))/\ ∀T,itQ (.val m) (S++T)=.ok ⟨ds,gs⟩ (S++T):=by
 rcases h with rfl|⟨l,rfl,hS⟩
 .exact⟨[],λT=>gP _,λT=>rfl⟩
 .have a: ∀T,(S++T)[l]? =some _:=λT=>by rw[á (gS.mp hS).1];exact hS
  refine⟨[_],λT=>yW (a T),λT=>?_⟩;have e:srcOf (S++T) #[l,1]=some ⟨true,ds,[(l,ds)]⟩:=by unfold srcOf;dsimp only;rw[a T]
  unfold L2.M.itQ;rw[e]
def QH{kvs:K6}{k:MV}(h:(look kvs k).isSome=true):k∈kvs.map (·.1):=by unfold look at h;rw[Option.isSome_map]at h;obtain⟨p,a⟩:=ñ.mp h;have h1:=List.find?_some a;exact mM.mpr ⟨p,List.mem_of_find?_eq_some a,Ě h1⟩
def at0(c:α)(t:List α):sC (c::t) 0=some c:=by unfold sC IF;simp
def tup2(a b:MV)(S:Sto):jM [.val a,.val b] S=.ok #[[a,b],6] S:=SQ (by simp)
theorem pN(ds:K1)(S:Sto):Aj #[ds,6] S=.ok ⟨ds,[]⟩ S:=rfl
def lst1(a:MV)(S:Sto):wF [.val a] S=#[[a],S,2]:=AG (by simp)
def tS(ks:Ch)(x:Db):List (List Nat):=if x∈ks then ks else ks++[x]
def Ek(ks:Ch)(x y:Db):y∈tS ks x↔y∈ks\/y=x:=by
 unfold tS;split
 .rename_i h;exact⟨.inl,λz=>z.elim id λe=>e▸h⟩
 .rw[é,mS]
def Me{ks:Ch}(h:ks.Nodup)(x:Db):(tS ks x).Nodup:=by
 unfold tS;split
 .exact h
 .rename_i e;exact į.mpr ⟨h,by simp,λa d b c=>by rw[mS.mp c];rintro rfl;exact e d⟩
theorem FZ(ks:Ch)(x:Db):(tS ks x).length<=ks.length+1:=by
 unfold tS;split
 .lia
 .rw[lA,lS];lia
def xH(ks xs:Ch):List (List Nat):=xs.foldl tS ks
theorem oF: ∀(xs ks:Ch)(y:Db),y∈xH ks xs↔y∈ks\/y∈xs
 |[],ks,y=>by simp[xH]
 |x::xs,ks,y=>by show y∈xH _ xs↔_;rw[oF xs,Ek,mC,or_assoc]
theorem DR: ∀(xs:Ch){ks:Ch},ks.Nodup->(xH ks xs).Nodup
 |[],_,h=>h
 |x::xs,_,h=>DR xs (Me h x)
theorem rB: ∀(xs ks:Ch),(xH ks xs).length<=ks.length+xs.length
 |[],ks=>à _
 |x::xs,ks=>by
  have h1:=rB xs (tS ks x);have a:=FZ ks x;show(xH _ xs).length<=_;rw[lC]
  lia
noncomputable def dT(ks:Ch):List (MV×MV):=ks.map λx=>(.str x,.bl true)
theorem WL(ks:Ch):(dT ks).map (·.1)=ks.map MV.str:=by unfold dT;rw[ĕ];rfl
def Mf(ks:Ch)(x:Db):(look (dT ks) (.str x)).isSome=decide (x∈ks):=by
 by_cases h:x∈ks
 .rw[dT0 h];unfold look;rw[Option.isSome_map,List.find?_isSome];exact⟨_,mM.mpr ⟨x,h,rfl⟩,by simp⟩
 .rw[dF0 h]
  cases z:(look _ _).isSome with
  |false=>rfl
  |true=>
   have:=QH z;rw[WL]at this;exact absurd (DQ.mp this) h
theorem Vm(ks:Ch)(x:Db):putK (dT ks) (.str x) (.bl true)=dT (tS ks x):=by
 unfold putK tS;rw[Mf];by_cases h:x∈ks
 .rw[iP h,iP (dT0 h)];unfold dT;rw[ĕ];refine Ģ λy _=>?_;show(if MV.str y=MV.str x then _ else _)=_;split<;>rfl
 .rw[iN h,iN (by rw[dF0 h];exact xF0)];unfold dT;rw[ï];rfl
theorem Oi(ks:Ch):(dT ks).all (λp=>tP p.1)=true:=by unfold dT;rw[all_map,ą];intro x _;rfl
def El{l:Nat}{kvs:K6}(h:S[l]? =#[kvs,7])(a:kvs.all (λp=>tP p.1)=true):AO S #[l,1]=some (l,kvs):=by unfold AO;dsimp only;rw[h];dsimp only;rw[iP a]
def Mg{l:Nat}{ks:Ch}(h:S[l]? =#[dT ks,7])(a:ks.length<1000000)(x:Db)(ρ:Rho):JC #[l,1] (.val (.str x)) (.bl true) ρ S=.ok ρ (S.set l (.dic (dT (tS ks x)))):=by unfold JC;rw[El h (Oi ks)];dsimp only;rw[iP ⟨rfl,by unfold dT;rw[lM];exact a⟩,Vm]
def Em{l:Nat}{ks:Ch}(h:S[l]? =#[dT ks,7]):AQ [#[l,1]] S=#[ks.map MV.str,S,2]:=by unfold AQ;dsimp only;rw[El h (Oi ks)];dsimp only;rw[WL]
theorem dA{α:Type}{f g:α->MV}{S:Sto}{gf:MV->Rho->Sto->R Rho}{cf:AZ}{ef:AX}{ρb:Rho}{gs:K5}(hs:stay gs S):
  ∀{ds:List α},(∀d∈ds, ∃ρ1,gf (f d) ρb S=.ok ρ1 S/\cf ρ1 S=.ok true S/\ef ρ1 S=#[g d,S,1])->zX gf cf ef ρb gs (ds.map f) S=.ok (ds.map g) S
 |[],_=>rfl
 |d::ds,st=>by obtain⟨ρ1,h1,a,b⟩:=st d mF0;have e:=dA hs λd hd=>st d (mO _ hd);rw[æ];unfold zX;rw[h1,yM,gV,a,yM,gV,b,yM,gV];unfold kC;rw[gV,iP hs,e];rfl
theorem BD(ds:List α)(j:Nat):cE ds none (some (j:Int))=ds.take j:=by
 unfold cE;rw[HT.sIx_nat,show HT.sIx ds.length 0 none=0 from rfl,drop_zero,Nat.sub_zero];by_cases h:j<=ds.length
 .rw[min_eq_left h]
 .rw[min_eq_right #[],Ā (à _),Ā #[]]
theorem oG(ds:List α)(j:Nat):cE ds (some (j:Int)) none=ds.drop j:=by
 unfold cE;rw[HT.sIx_nat];by_cases h:j<=ds.length
 .rw[min_eq_left h,Ā (by rw[õ];exact à _)]
 .rw[min_eq_right #[],drop_of_length_le (à _),drop_of_length_le #[],List.take_nil]
def A6{xs:List α}{k:Nat}{x:α}(h:xs[k]? =some x):sC xs (k:Int)=some x:=L2.atI_nat h
theorem MQ(ds:K1)(l h:J7)(S:Sto):oS #[ds,6] l h S=.ok #[cE ds l h,6] S:=rfl
noncomputable abbrev iM(k:Nat):MV:=.int (k:Int)
theorem Mh{n:Nat}(h:n<=1000)(S:Sto):fC [#[(n:Int),5]] S=.ok ⟨(List.range n).map iM,[]⟩ S:=by rw[tG #[],Ď]
theorem pO{α:Type}{f g:α->MV}{p:α->Bool}{S:Sto}{gf:MV->Rho->Sto->R Rho}{cf:AZ}{ef:AX}{ρb:Rho}{gs:K5}(hs:stay gs S):
  ∀{ds:List α},(∀d∈ds, ∃ρ1,gf (f d) ρb S=.ok ρ1 S/\cf ρ1 S=.ok (p d) S/\ef ρ1 S=#[g d,S,1])->zX gf cf ef ρb gs (ds.map f) S=.ok ((ds.filter p).map g) S
 |[],_=>rfl
 |d::ds,st=>by
  obtain⟨ρ1,h1,b,c⟩:=st d mF0;have e:=pO hs λd hd=>st d (mO _ hd);rw[æ];unfold zX
  cases a:p d with
  |true=>
   rw[h1,yM,gV,b,yM,gV,a,c,yM,gV];unfold kC;rw[gV,iP hs,e,List.filter_cons_of_pos a];rfl
  |false=>
   rw[h1,yM,gV,b,yM,gV,a,iN xF0,iP hs,e,List.filter_cons_of_neg (by rw[a];exact xF0)]
def mT(S T:Sto)(o:MO):(S++o::T)[↑1]? =some o:=by simp
def WM(S T:Sto)(o o':MO):(S++o::T).set ↑1 o'=S++o'::T:=by simp
theorem En{n:Nat}{F:List MV->Sto->R Er}{kvs:K6}(a:rs.length=n)(b:F (zE rs S).1 (zE rs S).2=.ok #[↑1,1] (S++.dic kvs::T)):zH n F rs S=.ok #[↑1,1] (S++.dic kvs::T):=by
 unfold zH;rw[iP a,b];show jI S _ _=_;unfold jI;dsimp only;split
 .rw[iN (Į _),mT]
 .rfl
def WN{l:Nat}{ds:K1}(h:S[l]? =#[ds,2]):EL #[l,1] S=.ok (!ds.isEmpty) S:=by unfold EL;dsimp only;rw[h]
theorem Mi(ds:K1)(S:Sto):Yy [#[ds,6]] S=.ok ⟨SS ds,[]⟩ S:=rfl
noncomputable def abc:List Nat:=[97,98,99,100,101,102,103,104,105,106,107,108,109,110,111,112,113,114,115,116,117,118,119,120,121,122]
def pP(ws:Ch)(n:Nat):tX n #[ws,8]:=cN λd hd=>by obtain⟨x,_,rfl⟩:=mM.mp hd;exact SN _ _
def MS{l:Nat}{ds:K1}(c:S[l]? =#[ds,2])(a b:J7):oS #[l,1] a b S=#[cE ds a b,S,2]:=by show(match jB S _ with |some ds=>R.ok _ S|none=>.no)=_;rw[fG c]
abbrev VS(v:MV):Prop:=(∃i,v=.int i)\/ ∃x,v=.str x
def rC{v:MV}(h:VS v):pd v=true/\uZ v<40:=by
 rcases h with⟨i,rfl⟩|⟨x,rfl⟩
 .exact⟨MM i,by rw[pM];decide⟩
 .exact⟨tR x,by rw[lO];decide⟩
def A7{vs:K1}(h: ∀v∈vs,VS v)(n:Nat):tX n vs:=cN λd hd=>iL (rC (h d hd)).1
theorem TQ{l:Nat}{ds:K1}(a:S[l]? =#[ds,2]):EQ #[l,1] (.new []) S=#[.bl (!ds.isEmpty),S,1]:=by
 have e:IR S #[l,1]=some (.ls ds):=by show(jB S _).map Vw.ls=_;rw[fG a];rfl
 unfold EQ uF;rw[e]
 cases ds with
 |nil=>rfl
 |cons d ds=>rfl
theorem pQ(a:Za)(k:Int)(n:0<=k)(S:Sto): ∃c,zH 2 zO [.val (.scr (a.map MV.int)),#[k,5]] S=.ok #[c,5] S:=by
 have i:lW [.val (.scr (a.map MV.int))] S=.ok #[a.length,5] S:=by show R.ok _ S=_;rw[lM]
 have j:jD [some (.scr (a.map MV.int)),#[k,0]] S=if decide (k<a.length)=true then(gW (.val (.scr (a.map MV.int))) #[k,5] S).bind λr S1=>.ok (.ret r) S1 else #[[some (.scr (a.map MV.int)),#[k,0]],S,0]:=by unfold jD;exists 7,i,lt_int
 have fin: ∀c,zO [.scr (a.map MV.int),.int k] S=.ok _ S-> ∃c,zH 2 zO [.val _,.val _] S=#[_,S,1]:=λc h=>⟨c,eU rfl h (AC _ _) (λl=>by simp)⟩
 have hs:zU ["_law_script","_law_k"] [.scr (a.map MV.int),.int k]=[some _,some _]:=rfl;by_cases b:k<a.length
 .obtain⟨d,hd⟩:=LD (xs:=a.map MV.int) n (by rw[lM];exact b);obtain⟨c,rfl⟩: ∃c,d=.int c:=VE (P:=λd=> ∃c,d=.int c) (λe o=>by obtain⟨c,_,rfl⟩:=mM.mp o;exact⟨c,rfl⟩) hd;have m:gW (.val (.scr (a.map MV.int))) #[k,5] S=.ok #[c,5] S:=by show(match sC _ k with |some d=>R.ok (Er.val d) S|none=>.no)=_;rw[hd]
  refine fin c ?_;rw[dT0 b,iP rfl,m,gV]at j;unfold zO bF;rw[hs,iW j];rfl
 .refine fin 0 ?_;rw[dF0 b,iN xF0]at j;unfold zO bF;rw[hs,zD j];rfl
theorem pp30(S:Sto):Ji #[10,5] #[30,5] S=.ok #[10 ^ 30,5] S:=rfl
theorem rD(S:Sto)(a b:MO):(S++[a,b])[↑1+1]? =some b:=by rw[å #[],show ↑1+1 - ↑1=1 by lia];rfl
theorem Eo: ∀(fs:Ch)(i:Nat),(fs.map MV.str).eraseIdx i=(fs.eraseIdx i).map MV.str
 |[],_=>rfl
 |_::_,0=>rfl
 |c::fs,i+1=>congrArg _ (Eo fs i)
theorem Mj{l:Nat}{ds:K1}{i:Int}{d:MV}(a:S[l]? =#[ds,2])(b:0<=i)(h1:i<ds.length)(e:ds.length<1000)(hd:ds[i.toNat]? =some d):ZD #[l,1] [#[i,5]] S=#[d,S.set l (.lst (ds.eraseIdx i.toNat)),1]:=by
 have c:IF ds.length i=some i.toNat:=by unfold IF;rw[iP b,iP h1]
 unfold ZD;dsimp only;rw[a];dsimp only;rw[iP ⟨by lia,by lia⟩,c];dsimp only;rw[hd]
theorem Ep{L:Sto}{n i:Nat}(h:B.length=n):(B++L)[n+i]? =L[i]? :=by rw[å #[],h,Nat.add_sub_cancel_left]
def zK{L:Sto}{m:Nat}(h:B[m]? =some o):(B++L)[m]? =some o:=by rw[á (gS.mp h).1];exact h
def zB{F G:AY}{ρ ρ':Rho}{S':Sto}{r:R Fl}(h:F ρ S=#[ρ',S',0])(k:G ρ' S'=r):zI F G ρ S=r:=(zD h).trans k
theorem cB{X:R Fl}{r:Er}(h:X=.ok (.ret r) S):yA X=.ok r S:=by rw[h];rfl
theorem lQ{gf:MV->Rho->Sto->R Rho}{body:AY}{n:Nat}(I:Nat->Rho->Sto->Prop): ∀(L:K1)(i:Nat){ρ:Rho}{S:Sto},i+L.length<=n->I i ρ S->(∀d∈L, ∀i,i<n-> ∀ρ S,I i ρ S-> ∃a ρ' S',gf d ρ S=.ok a S/\body a S=#[ρ',S',0]/\I (i+1) ρ' S')-> ∃ρ' S',wK gf body [] L ρ S=#[ρ',S',0]/\I (i+L.length) ρ' S'
 |[],i,ρ,S,_,h,_=>⟨ρ,S,rfl,h⟩
 |d::L,i,ρ,S,hn,h,st=>by rw[lC]at hn ⊢;obtain⟨a,ρ1,S1,h1,j,k⟩:=st d mF0 i #[] ρ S h;obtain⟨ρ',S',b,c⟩:=lQ I L _ #[] k λe m=>st e (mO _ m);exact⟨ρ',S',by rw[yH h1 j (gP _),b],by rw[show i+_=i+1+L.length by lia];exact c⟩
theorem md{x n:Int}(h:0<n:=by decide):0<=x % n/\x % n<n:=⟨eN _ #[],eL _ h⟩
section
variable{gf:MV->Rho->Sto->R Rho}{cf:AZ}{ef:AX}{ρb ρ1:Rho}{gs:K5}{d y:MV}{ds out:K1}{S S1 S2:Sto}
theorem vE(h1:gf d ρb S=.ok ρ1 S)(b:cf ρ1 S=.ok true S)(e:ef ρ1 S=#[y,S1,1])(a:stay gs S1)(c:zX gf cf ef ρb gs ds S1=.ok out S2):zX gf cf ef ρb gs (d::ds) S=.ok (y::out) S2:=by unfold zX;rw[h1,yM,gV,b,yM,gV,e,yM,gV];unfold kC;rw[gV,iP a,c];rfl
def WO(h1:gf d ρb S=.ok ρ1 S)(b:cf ρ1 S=.ok false S)(a:stay gs S)(c:zX gf cf ef ρb gs ds S=.ok out S2):zX gf cf ef ρb gs (d::ds) S=.ok out S2:=by unfold zX;rw[h1,yM,gV,b,yM,gV,iN xF0,iP a,c]
end
noncomputable abbrev Wl(S:Sto)(l:Nat)(x:Int):Sto:=S.set l (.lst [.int x])
def TR{l:Nat}(h:l<↑1)(x:Int):(Wl S l x)[l]? =#[[.int x],2]:=ę h
def iO{l m:Nat}(h:l≠m)(x:Int):(Wl S l x)[m]? =S[m]? :=ĥ h
def Oj(S:Sto)(l:Nat)(x y:Int):(Wl S l x).set l (.lst [.int y])=Wl S l y:=List.set_set ..
def gO(S:Sto)(l:Nat)(x:Int):(Wl S l x).length=S.length:=Ą ..
def lR(S:Sto)(x:Int):S++[.lst [.int x]]=Wl (S++[.lst []]) ↑1 x:=by simp[Wl]
def dB{l:Nat}(h:l<↑1)(x:Int)(T:Sto):Wl S l x++T=Wl (S++T) l x:=by unfold Wl;rw[ı _ _ h]
theorem MT{l:Nat}(h:l<↑1)(x:Int)(o o':MO):(Wl (S++[o]) l x).set ↑1 o'=Wl (S++[o']) l x:=by unfold Wl;rw[ı _ _ h,ı _ _ h];rw[Ġ _ _ (by rw[Ą];exact à _),Ą,sub_self];rfl
def vF{l:Nat}(h:l<↑1)(x:Int)(o:MO):(Wl (S++[o]) l x)[↑1]? =some o:=by rw[iO (ë h)];simp
def Vn{l:Nat}(x:Int)(T:Sto):OR S (Wl S l x++T):=by
 refine⟨by rw[lA,gO];exact Ē _ _,λm a=>?_⟩;rw[á (by rw[gO];exact a)];by_cases e:l=m
 .subst e;exact .inr ⟨_,TR a x,cN λe b=>by rw[mS.mp b];exact AC _ _⟩
 .exact .inl (iO e x)
def WP{l:Nat}(y x:Int)(T:Sto):OR (Wl S l y) (Wl S l x++T):=by have:=Vn (S:=Wl S l y) (l:=l) x T;rw[show Wl _ l x=Wl S l x from Oj S l y x]at this;exact this
def WQ(S:Sto)(l:Nat)(x:Int)(T:Sto){n:Nat}(h:n=↑1):(Wl S l x++T).take n=Wl S l x:=by rw[h,List.take_append_of_le_length (by rw[gO];exact à _),Ā (by rw[gO];exact à _)]
def vG{n:Nat}{F:List MV->Sto->R Er}{l:Nat}{x y:Int}{d:MV}(a:rs.length=n)(b:F (zE rs (Wl S l x)).1 (zE rs (Wl S l x)).2=#[d,Wl S l y++T,1])(h:lo ↑1 d)(hd: ∀l,d≠.loc l):zH n F rs (Wl S l x)=#[d,Wl S l y,1]:=by
 unfold zH;rw[iP a,b,yM,gV];unfold jI;rw[iP (WP x y T)];have e:=WQ S l y T (gO S l x);have h':lo (Wl S l x).length d:=by rw[gO];exact h
 cases d with
 |loc m=>exact absurd rfl (hd m)
 |_=>dsimp only;rw[iP h',e]
theorem BV{n:Nat}{F:List MV->Sto->R Er}{l m:Nat}{x y:Int}{ds:K1}(a:rs.length=n)(b:F (zE rs (Wl S l x)).1 (zE rs (Wl S l x)).2=.ok #[m,1] (Wl S l y++T))(d:↑1<=m)(c:(Wl S l y++T)[m]? =#[ds,2])(h:tX ↑1 ds):zH n F rs (Wl S l x)=#[ds,Wl S l y,2]:=by unfold zH;rw[iP a,b,yM,gV];unfold jI;rw[iP (WP x y T)];dsimp only;rw[gO,iN #[],c];dsimp only;rw[iP h,WQ S l y T rfl]
section
variable{S:Sto}{l:Nat}{x:Int}
theorem QI{n:Int}(d:l<↑1)(i:0<n)(hd: ∀(a:Int)(S:Sto),OT #[a,5] #[n,5] S=.ok #[a / n,5] S):zH 2 zA [#[l,1],#[n,5]] (Wl S l x)=.ok #[x % n,5] (Wl S l (x / n)):=by
 have hs:zU BS [.loc l,.int n]=[some _,some _,none]:=rfl;have c:sC [MV.int x] 0=some _:=rfl;have b:=TR d x;have h:dI [#[l],#[n,0],none] (Wl S l x)=#[[#[l],#[n,0],#[x % n,0]],Wl S l x,0]:=by unfold dI;exists 7,fF b c,mod_lit i
 have e:dL [#[l],#[n,0],#[x % n,0]] (Wl S l x)=#[[#[l],#[n,0],#[x % n,0]],Wl S l (x / n),0]:=by unfold dL;simp? [fF b c,hd,ML,Ef b (show IF [MV.int x].length 0=some 0 from rfl)];exact congrArg _ (Oj S l x _)
 refine vG (T:=[]) rfl ?_ (AC _ _) (λl=>by simp);show zA [.loc l,.int n] (Wl S l x)=_;unfold zA qY;rw[hs,zD h,zD e,aN];rfl
def yS{n:Int}(b:l<↑1)(a:0<n:=by decide)(h1:n<1073741824:=by decide):zH 2 zA [#[l,1],#[n,5]] (Wl S l x)=.ok #[x % n,5] (Wl S l (x / n)):=QI b a (LC a h1)
theorem MU(a:l<↑1): ∃y z,y.length<=8/\zH 1 kT [#[l,1]] (Wl S l x)=#[.str y,Wl S l z,1]:=by have o:=md (x:=x) (n:=8);obtain⟨_,_,e,y,z,k,rfl,rfl,j⟩:=lQ (gf:=yD 3) (body:=dM) (n:=9) (λi ρ S'=> ∃(y:Db)(z:Int)(k:K2),ρ=[#[l],#[abc,4],#[y,4],k]/\S'=Wl S l z/\y.length=i) ((List.range (1+x % 8).toNat).map iM) 0 (by rw[lM,Ĕ];lia) ⟨[],_,none,rfl,rfl,rfl⟩ (λd _ i hi ρ S1 ⟨y,z,k,h1,h,m⟩=>by subst h1 h;obtain⟨c,b⟩:=LD (xs:=abc) (md (by decide)).1 (md (x:=z) (n:=26)).2;refine⟨_,_,_,rfl,?_,y++[c],z / 26,some d,rfl,rfl,by simp[m]⟩;unfold dM nW;simp? [yS (n:=26) a,ix_str (by rw[ė];decide) b];rw[add_str (fits (by rw[lS];lia))];rfl);refine⟨y,z,by simp at j;lia,vG (T:=[]) rfl ?_ (SN _ _) (λl=>by simp)⟩;rw[aN];show yA (qZ [#[l],none,none,none] _)=_;refine cB (zB rfl (zB rfl (zB (ρ':=[#[l],#[abc,4],#[y,4],k]) ?_ rfl)));unfold mE;simp? [yS (n:=8) a];rw[tG #[],gV];exact e
end
def gU(c:Int)(S:Sto): ∃t,zH 1 zV [#[c,5]] S=#[[.int t],S,2]:=by
 obtain⟨t,h⟩: ∃t,dH [#[c,0],none,none,none,none,none] S=.ok (.ret (.new [.int t])) S:=by
  unfold dH;have b:jV [#[c,0],none,none,none,none,none] S=#[[#[c,0],#[c / 2,0],none,none,none,none],S,0]:=by unfold jV;exists 7,LC (show(0:Int)<2 by decide) (by decide)
  by_cases p:c % 2=0
  .refine⟨c / 2,zB b (iW ?_)⟩;unfold jW;exists 7,mod_lit (show(0:Int)<2 by decide),dT0 p
  .obtain⟨_,_,e,n,t,k,o,rfl,rfl⟩:=lQ (gf:=yD 4) (body:=jU) (n:=16) (λ_ ρ S'=> ∃(n t:Int)(k o:K2),ρ=[#[c,0],#[c / 2,0],#[n,0],#[t,0],k,o]/\S=S') ((List.range 16).map iM) 0 (by decide) ⟨_,0,none,none,rfl,rfl⟩ (λd hd i _ ρ S1 ⟨n,t,k,o,h1,r⟩=>by
    subst h1 r;obtain⟨j,_,rfl⟩:=mM.mp hd;have q:=md (x:=n * 48271+7919 * (j:Int)+11) (n:=2147483647);obtain⟨m,a⟩: ∃m,m=(n * 48271+7919 * (j:Int)+11) % 2147483647:=⟨_,rfl⟩
    rw[<-a]at q;refine⟨_,_,_,rfl,?_,m,t * 2147483587+m * m % 2147483629 * 69621 % 2147483587,some (iM j),#[m * m % 2147483629,0],rfl,rfl⟩;unfold jU;apply zB
    .unfold bG;simp? [DA (show -(2 ^ 64)<(48271:Int)/\(48271:Int)<2 ^ 64 by decide),OY (show -(2 ^ 64)<(7919:Int)/\(7919:Int)<2 ^ 64 by decide),mod_lit (show(0:Int)<2147483647 by decide), <-a];rfl
    apply zB
    .unfold bH;exists 7,mul_31 ⟨q.1,by omega⟩,mod_lit (show(0:Int)<2147483629 by decide)
    unfold bI;exists 7,DA (show -(2 ^ 64)<(2147483587:Int)/\_<2 ^ 64 by decide),DA (show -(2 ^ 64)<(69621:Int)/\(69621:Int)<2 ^ 64 by decide),mod_lit (show(0:Int)<2147483587 by decide))
   refine⟨t,zB b ?_⟩;apply zB
   .unfold jW;simp? [mod_lit (show(0:Int)<2 by decide),dF0 p,fT,iF];rfl
   apply zB
   .unfold nT;exists 7,mod_lit (show(0:Int)<2147483647 by decide)
   refine zB rfl (zB (ρ':=[#[c,0],#[c / 2,0],#[n,0],#[t,0],k,o]) (S':=S) ?_ ?_)
   .unfold nU;simp? [tG (j:=16) (by decide)];exact e
   unfold nV;simp? [gV]
 exact⟨t,bY rfl rfl (by rw[aN];exact cB h) (.inl rfl) (cN λe s=>by rw[mS.mp s];exact AC _ _)⟩
noncomputable abbrev PP(M:Int)(l m:Nat)(k w v:K2):Rho:=[#[l],#[M,0],#[m],k,w,v]
section
variable{M:Int}{S:Sto}{l m:Nat}{x:Int}{vs:K1}{k w v:K2}
def po3{n:Int}{v:MV}(c:l<↑1)(b:VS v): ∃a z,VS a/\jX (PP M l m k #[n,0] (some v)) (Wl S l x)=#[PP M l m k #[n,0] (some a),Wl S l z,0]:=by
 unfold jX;simp? [pp30,OY (show -_<(2:Int)/\_<2 ^ 64 by decide),QI c (show _<2 * 10 ^ 30 - 1 by decide) (Mb (by decide+kernel))];split
 .exact⟨_,_,.inl ⟨_,rfl⟩,rfl⟩
 .exact⟨v,x,b,rfl⟩
def po4{n:Int}{v:MV}(b:l<↑1)(c:VS v): ∃a z,VS a/\jY (PP M l m k #[n,0] (some v)) (Wl S l x)=#[PP M l m k #[n,0] (some a),Wl S l z,0]:=by
 obtain⟨y,z,_,d⟩:=MU (x:=x) b;unfold jY;simp? [d];split
 .exact⟨_,_,.inr ⟨y,rfl⟩,rfl⟩
 .exact⟨v,x,c,rfl⟩
theorem ZT(p:l<↑1)(j: ∀d∈vs,VS d)(E:vs.length<1000): ∃a r s z,(∀d∈a,VS d)/\a.length<=vs.length+1/\1<=a.length/\dN (PP M l ↑1 k w v) (Wl (S++[.lst vs]) l x)=#[PP M l ↑1 k r s,Wl (S++[.lst a]) l z,0]:=by
 have b:l<(S++[MO.lst vs]).length:=by rw[lA];lia
 obtain⟨G,F,o,q⟩:=po3 (M:=M) (k:=k) b (.inl ⟨_,rfl⟩);obtain⟨i,c,e,u⟩:=po4 (M:=M) (k:=k) b o;have m:(Wl (S++[.lst vs]) l c)[↑1]? =#[vs,2]:=vF p c _
 obtain⟨a,h1,A,D,B⟩: ∃a,(∀d∈a,VS d)/\a.length<=vs.length+1/\1<=a.length/\jZ (PP M l ↑1 k #[x % 4,0] (some i)) (Wl (S++[.lst vs]) l c)=.ok _ (Wl (S++[.lst a]) l c):=by
  unfold jZ;simp? [lP true m (rC e).1 λy C=>rC (j y C),xL m,wZ m #[],MT p];by_cases h:i∈vs
  .exact⟨vs,j,le_succ _,List.length_pos_of_mem h,by rw[dT0 h];rfl⟩
  .refine⟨vs++[i],λd hd=>?_,by simp,by simp,by rw[dF0 h];rfl⟩;rcases é.mp hd with hd|hd
   .exact j d hd
   .rw[mS.mp hd];exact e
 refine⟨a,#[x % 4,0],some i,c,h1,A,D,?_⟩;unfold dN;apply zB
 .unfold nY;exists 7,yS (n:=4) b
 apply zB
 .unfold nZ;exists 7,yS b
 exact zB q (zB u B)
end
theorem Vo{l:Nat}(h:l<↑1)(x:Int){M:Nat}(h1:1<=M)(y:M<=4): ∃vs z,(∀d∈vs,VS d)/\1<=vs.length/\vs.length<=4/\gQ [.loc l,iM M] (Wl S l x)=.ok #[↑1,1] (Wl (S++[.lst vs]) l z):=by
 obtain⟨_,_,e,vs,z,k,w,v,rfl,rfl,a,j,g2⟩:=lQ (gf:=yD 3) (n:=M) (λi ρ S'=> ∃(vs:K1)(z:Int)(k w v:K2),ρ=PP M l ↑1 k w v/\S'=Wl (S++[.lst vs]) l z/\(∀d∈vs,VS d)/\vs.length<=i/\(i=0\/1<=vs.length)) ((List.range M).map iM) 0 (by simp) ⟨[],x,none,none,none,rfl,rfl,by simp,à _,.inl rfl⟩ (λd _ i hi ρ S1 ⟨vs,z,k,w,v,s,m,a,j,_⟩=>by subst s m;obtain⟨c,r,p,u,b,A,o,q⟩:=ZT h a #[];exact⟨_,_,_,rfl,q,c,u,_,r,p,rfl,rfl,b,by lia,.inr o⟩);rw[lM,Ĕ]at j g2;refine⟨vs,z,a,by lia,by lia,?_⟩;show yA (lH [#[l],some (iM M),none,none,none,none] _)=_;refine cB ?_;unfold lH;apply zB
 .unfold mG;simp? [gO,dB h];rfl
 refine zB (ρ':=PP M l ↑1 k w v) (S':=Wl (S++[.lst vs]) l z) ?_ ?_
 .unfold mH;exists 7,Mh (show M<=1000 by omega),e
 unfold mI;exists 7,rfl
theorem Mk(t:Int)(S:Sto): ∃vs,(∀d∈vs,VS d)/\1<=vs.length/\vs.length<=4/\zH 2 gQ [.new [.int t],#[4,5]] S=#[vs,S,2]:=by
 have a:↑1<(S++[MO.lst []]).length:=by simp
 obtain⟨vs,z,b,h,c,e⟩:=Vo a t (M:=4) (by decide) (by decide);refine⟨vs,b,h,c,bY (T:=[.lst [.int z],.lst vs]) rfl (show zE [.new [.int t],.val _] S=([.loc ↑1,.int 4],S++[.lst [.int t]])from rfl) ?_ (.inr ⟨_,rfl,le_succ _,rD S _ _⟩) (A7 b _)⟩;rw[lR];show gQ [.loc ↑1,iM 4] _=_;rw[e,lA, <-dB a, <-lR,aA];rfl
noncomputable abbrev T4(l m:Nat)(k w:K2):Rho:=[#[l],#[m],k,w]
theorem Et{l:Nat}{x:Int}{k w:K2}(c:l<↑1)(j:ts.length<1000):
  ∃p i z,(1<=p.1/\p.1<=4/\0<=p.2/\p.2<=p.1)/\hX (T4 l ↑1 k w) (Wl (S++[.lst (ts.map tbl)]) l x)=#[T4 l ↑1 k i,Wl (S++[.lst ((ts++[p]).map tbl)]) l z,0]:=by
 have b:l<(S++[MO.lst (ts.map tbl)]).length:=by rw[lA];lia
 obtain⟨a,h⟩: ∃a,a=1+x % 3:=⟨_,rfl⟩
 have h1:=md (x:=x) (n:=3);have e:=md (x:=x / 3) (show 0<a+1 by lia);have d: ∀z,(Wl _ l z)[↑1]? =#[ts.map tbl,2]:=λz=>vF c z _;refine⟨(a,x / 3 % (a+1)),#[a,0],x / 3 / (a+1),⟨by show 1<=a;lia,by show a<=4;lia,e.1,by show x / 3 % _<=a;lia⟩,?_⟩;unfold hX;apply zB
 .unfold bK;simp? [yS (n:=3) b, <-h];rfl
 unfold bL;simp? [xL (d _),yS b (show 0<a+1 by lia) #[],wZ (d _) (by rw[lM];lia),MT c];rw[ï];rfl
theorem ZU(t:Int)(S:Sto): ∃ts,Eg ts/\zH 1 dO [.new [.int t]] S=#[ts.map tbl,S,2]:=by
 have a:↑1<(S++[MO.lst []]).length:=by simp
 have y:=md (x:=t) (n:=3)
 obtain⟨_,_,e,ts,z,k,w,rfl,rfl,b,h1⟩:=lQ (gf:=yD 2) (n:=3) (λi ρ S'=> ∃(ts:Tk)(z:Int)(k w:K2),ρ=T4 ↑1 (↑1+1) k w/\S'=Wl (S++[.lst []]++[.lst (ts.map tbl)]) ↑1 z/\(∀p∈ts,1<=p.1/\p.1<=4/\0<=p.2/\p.2<=p.1)/\ts.length=i) ((List.range (1+t % 3).toNat).map iM) 0 (by simp;lia) ⟨[],t / 3,none,none,rfl,rfl,by simp,rfl⟩ (λd _ i hi ρ S1 ⟨ts,z,k,w,s,m,b,h1⟩=>by
  subst s m;obtain⟨p,r,v,o,c⟩:=Et (ts:=ts) (w:=w) a #[];rw[lA]at c;refine⟨_,_,_,rfl,c,ts++[p],v,some d,r,rfl,rfl,λq u=>?_,by simp[h1]⟩;rcases é.mp u with h|h
  .exact b q h
  .rw[mS.mp h];exact o)
 rw[lM,Ĕ]at h1;refine⟨ts,⟨by omega,by omega,b⟩,bY (T:=[.lst [.int z],.lst (ts.map tbl)]) rfl rfl ?_ (.inr ⟨_,rfl,le_succ _,rD S _ _⟩) (cN λd hd=>by obtain⟨p,_,rfl⟩:=mM.mp hd;exact SO (cN λe j=>by simp at j;rcases j with rfl|rfl<;>exact AC _ _))⟩;show yA _=_;rw[lR,show S++[MO.lst [.int z],.lst (ts.map tbl)]=Wl _ ↑1 z by rw[<-dB a, <-lR,aA];rfl];refine cB ?_;unfold mK;refine zB (ρ':=T4 ↑1 (↑1+1) none none) (S':=Wl (S++[.lst []]++[.lst []]) ↑1 t) ?_ (zB (ρ':=T4 ↑1 (↑1+1) k w) (S':=Wl (S++[.lst []]++[.lst (ts.map tbl)]) ↑1 z) ?_ ?_)
 .unfold aB;simp? [gO,dB a];rw[lA];rfl
 .unfold aC;exists 7,yS (n:=3) (show ↑1<(S++[MO.lst []]++[MO.lst []]).length by simp),tG (by omega),e
 unfold aD;exists 7,rfl
noncomputable abbrev N5(l m:Nat)(b:Db)(k w:K2):Rho:=[#[l],#[b,4],#[m],k,w]
theorem adds{x y:Db}(h:x.length+y.length<=1000)(S:Sto):xA (.val (.str x)) (.val (.str y)) S=#[.str (x++y),S,1]:=add_str (fits #[])
theorem Ml{l:Nat}{x:Int}{b:Db}{w:K2}{us:Ch}(k:l<↑1)(u:us.length<1000)(e:b∈us)(v:b.length<=6)(n:j<2):
  ∃y p z,y≠b/\kU (N5 l ↑1 b (some (iM j)) w) (Wl (S++[.lst #[us,8]]) l x)=#[N5 l ↑1 b (some (iM j)) p,Wl (S++[.lst ((us++[y]).map MV.str)]) l z,0]:=by
 have d:l<(S++[MO.lst #[us,8]]).length:=by rw[lA];lia
 obtain⟨y,z,_,q⟩:=MU (x:=x) d;have h:(Wl _ l z)[↑1]? =#[us.map MV.str,2]:=vF k z _
 obtain⟨r,m,i⟩: ∃r,sC [MV.str ([98]++b),.str ([98]++b++[97])] (j:Int)=#[r,4]/\r≠b:=by
  match j,n with
  |0,_=>exact⟨_,rfl,λz=>by have:=congrArg List.length z;simp at this⟩
  |1,_=>exact⟨_,rfl,λz=>by have:=congrArg List.length z;simp at this;lia⟩
 obtain⟨a,o,s⟩: ∃a,a≠b/\jF (N5 l S.length b (some (iM j)) #[y,4]) (Wl (S++[.lst #[us,8]]) l z)=#[N5 l ↑1 b _ #[a,4],_,0]:=by
  unfold jF;simp? [lP false h (tR y) DP,adds (x:=[98]) (y:=b) (by simp only[lS];lia),adds (x:=[98]++b) (y:=[97]) (by simp only[lA,lS];lia),Tf m,fT,iF];split
  .exact⟨r,i,rfl⟩
  .rename_i c;exact⟨y,λz=>c (dT0 (ģ (z▸e))),rfl⟩
 refine⟨a,#[a,4],z,o,?_⟩;unfold kU;apply zB
 .unfold cT;exists 7,q
 refine zB s ?_;unfold cU;simp? [xL h,wZ h (by rw[lM];lia),MT k];rw[ï];rfl
theorem Eu(t:Int)(S:Sto): ∃ys:List (List Nat),(∃a b c,ys=[a,b,c]/\a≠b/\a≠c/\a.length<=6)/\zH 1 eK [.new [.int t]] S=#[ys.map MV.str,S,2]:=by
 have m:↑1<(S++[MO.lst []]).length:=by simp
 obtain⟨w,z,hw,K⟩:=MU (S:=S++[.lst []]) (l:=↑1) (x:=t) m;have A:bO [#[↑1],none,none,none,none] (Wl (S++[.lst []]) ↑1 t)=#[[#[↑1],#[w.take 6,4],none,none,none],Wl (S++[.lst []]) ↑1 z,0]:=by unfold bO;simp? [K,cut_str (fits (show w.length<=1000000 by lia)),show cE w none (some 6)=w.take 6 from Kk _ _ (by decide)]
 have s:(w.take 6).length<=6:=by rw[lT];exact Nat.min_le_left _ _
 generalize w.take 6=b at s A;have r:bP [#[↑1],#[b,4],none,none,none] (Wl (S++[.lst []]) ↑1 z)=if decide (z % 2=0)=true then .ok (.ret (.new [.str b,.str (b++[97]),.str ([98]++b)])) (Wl (S++[.lst []]) ↑1 (z / 2))else #[[#[↑1],#[b,4],none,none,none],Wl (S++[.lst []]) ↑1 (z / 2),0]:=by unfold bP;simp? [yS (n:=2) m,adds (x:=b) (y:=[97]) (by simp only[lS];lia),adds (x:=[98]) (y:=b) (by simp only[lS];lia)]
 by_cases h:z % 2=0
 .rw[dT0 h,iP rfl]at r;refine⟨[b,b++[97],[98]++b],⟨b,_,_,rfl,λz=>by have:=congrArg List.length z;simp at this,λz=>by have:=congrArg List.length z;simp at this,s⟩,bY (T:=[.lst [.int (z / 2)]]) rfl rfl ?_ (.inl rfl) (pP _ _)⟩;rw[lR,lR];exact cB (zB A (iW r))
 .rw[dF0 h,iN xF0]at r
  obtain⟨_,_,e,ys,q,k,v,rfl,rfl,us,B,h1,o⟩:=lQ (gf:=yD 3) (body:=kU) (n:=2) (λi ρ S'=> ∃(ys:Ch)(z:Int)(k w:K2),ρ=N5 S.length (S.length+1) b k w/\S'=Wl (S++[.lst []]++[.lst #[ys,8]]) S.length z/\ ∃us:List (List Nat),ys=b::us/\us.length=i/\ ∀u∈us,u≠b) ((List.range 2).map iM) 0 (by decide) ⟨[b],z / 2,none,none,rfl,rfl,[],rfl,rfl,λu h=>(nomatch h)⟩ (λd hd i hi ρ S1 ⟨ys,z,k,v,L,H,us,I,h1,o⟩=>by
   subst L H I;obtain⟨j,D,rfl⟩:=mM.mp hd;obtain⟨y,J,E,F,C⟩:=Ml (S:=S++[.lst []]) (l:=↑1) (x:=z) (b:=b) (us:=b::us) (j:=j) (w:=v) m (by rw[lC];lia) (.head _) s (mem_range.mp D);rw[lA]at C
   exact⟨_,_,_,rfl,C,b::us++[y],E,some (iM j),J,rfl,rfl,us++[y],rfl,by simp[h1],λu p=>by
    rcases é.mp p with p|p
    .exact o u p
    .rw[mS.mp p];exact F⟩)
  have G: ∃a b c,ys=[a,b,c]/\a≠b/\a≠c/\a.length<=6:=by
   rw[lM,Ĕ]at h1
   match us,B,h1,o with
   |[u,v],B,_,o=>exact⟨b,u,v,B,(o u (by simp)).symm,(o v (by simp)).symm,s⟩
  refine⟨ys,G,bY (T:=[.lst [.int q],.lst #[ys,8]]) rfl rfl ?_ (.inr ⟨_,rfl,le_succ _,rD S _ _⟩) (pP _ _)⟩;rw[lR,show S++[MO.lst [.int q],.lst #[ys,8]]=Wl (S++[.lst []]++[.lst #[ys,8]]) ↑1 q by rw[<-dB m, <-lR,aA];rfl];refine cB (zB A (zB r (zB (ρ':=N5 ↑1 (↑1+1) b none none) (S':=Wl (S++[.lst []]++[.lst ([b].map MV.str)]) ↑1 (z / 2)) ?_ (zB (ρ':=N5 ↑1 (↑1+1) b k v) (S':=Wl (S++[.lst []]++[.lst #[ys,8]]) ↑1 q) ?_ ?_))))
  .unfold iD;simp? [gO,dB m];rw[lA];rfl
  .unfold iE;exists 7,tG (j:=2) (by decide),e
  unfold iG;simp? [gV]
abbrev Rw:=Int×List MV
variable{rows:List Rw}
noncomputable def zM(r:Rw):MV:=.tup [.int r.1,.tup r.2]
set_option bootstrap.genMatcherCode true in
local macro_rules
 |`(#[$x,9])=>`(($x).map zM)
noncomputable def ZV(ts:Tk)(t:Int):Nat:=((ts[t.toNat]?).map (·.1.toNat)).getD 0
def TmP(ys:Ch)(vs:K1)(d:MV):Prop:=(∃y∈ys,d=.tup [.str GW,.str y])\/ ∃v∈vs,d=.tup [.str IS,v]
def A9(ts:Tk)(ys:Ch)(vs:K1)(a:Rw):Prop:=a.2.length=ZV ts a.1/\ ∀d∈a.2,TmP ys vs d
def Gp(ts:Tk)(vs:K1)(r:Rw):Prop:=r.2.length=ZV ts r.1/\ ∀c∈r.2,c∈vs
theorem oH(o:K1)(S:Sto):xT [.new o] S=.ok #[o,6] S:=rfl
def TmP.ok{vs:K1}(a: ∀v∈vs,VS v){d:MV}(h:TmP ys vs d):bZ d:=by
 rcases h with⟨y,_,rfl⟩|⟨v,hv,rfl⟩
 .exact .inl ⟨y,rfl⟩
 .exact .inr ⟨v,a v hv,rfl⟩
theorem Ew{lt:Nat}(d:Eg ts)(n:Int): ∃p,(1<=p.1/\p.1<=4)/\(ZV ts (n % (ts.length:Int)):Int)=p.1/\ ∀S:Sto,S[lt]? =#[ts.map tbl,2]->gW #[lt,1] #[n % (ts.length:Int),5] S=#[tbl p,S,1]:=by
 have i:=d.1;have e:=eN n (show(ts.length:Int)≠0 by lia);have h1:=eL n (show(0:Int)<ts.length by lia);obtain⟨k,b⟩: ∃k:Nat,n % (ts.length:Int)=k:=⟨(n % (ts.length:Int)).toNat,by lia⟩
 have a:k<ts.length:=by lia
 have c:=d.2.2 _ (getElem_mem a);refine⟨_,⟨c.1,c.2.1⟩,?_,λS h=>?_⟩
 .unfold ZV;rw[b,Ď,gE a];show((ts[k].1.toNat:Nat):Int)=ts[k].1
  lia
 .rw[b];exact fF h (A6 (by rw[ö,gE a];rfl))
theorem MW{S:Sto}{l:Nat}{gf:MV->Rho->Sto->R Rho}{cf:AZ}{ef:AX}{ρb:Rho}{P:MV->Prop}(st: ∀(d:MV)(x:Int), ∃ρ1 y z,gf d ρb (Wl S l x)=.ok ρ1 (Wl S l x)/\cf ρ1 (Wl S l x)=.ok true (Wl S l x)/\ef ρ1 (Wl S l x)=#[y,Wl S l z,1]/\P y):
  ∀(L:K1)(x:Int), ∃out z,out.length=L.length/\(∀d∈out,P d)/\zX gf cf ef ρb [] L (Wl S l x)=.ok out (Wl S l z)
 |[],x=>⟨[],x,rfl,by simp,rfl⟩
 |d::L,x=>by obtain⟨ρ1,y,c,h1,i,k,a⟩:=st d x;obtain⟨out,z,h,j,b⟩:=MW st L c;refine⟨_,z,by rw[lC,lC,h],λe m=>(mC.mp m).elim (λz=>z▸a) (j e),?_⟩;unfold zX;rw[h1,yM,gV,i,yM,gV,k,yM,gV];unfold kC;rw[gV,iP (gP _),b];rfl
section
variable{S:Sto}{l p q lt:Nat}{x:Int}{vs:K1}{ys:Ch}{ts:Tk}
theorem MX(e:l<↑1)(k:l≠p){ds:K1}(j:S[p]? =#[ds,2])(h1:1<=ds.length)(m:ds.length<=1000)(x:Int): ∃d∈ds, ∃z,(((lW [#[p,1]] (Wl S l x)).bind λn S=>zH 2 zA [#[l,1],n] S).bind λi S=>gW #[p,1] i S)=#[d,Wl S l z,1]:=by
 have c: ∀z,(Wl S l z)[p]? =some _:=λz=>(iO k z).trans j;have a:(0:Int)<(ds.length:Int):=by lia
 obtain⟨v,b⟩:=LD (eN _ #[]) (eL _ a);refine⟨v,VE (λ_ h=>h) b,x / (ds.length:Int),?_⟩;rw[xU (c x),gV,yS e a #[],gV,fF (c _) b]
theorem Mm(c:l<↑1)(A:l≠p)(w:l≠q)(k:S[p]? =#[vs,2])(s:S[q]? =#[ys.map MV.str,2])(j: ∀d∈vs,VS d)(h1:1<=vs.length)(G:vs.length<=4)(i:1<=ys.length)(D:ys.length<=10)(x:Int):
  ∃u z,TmP ys vs u/\zH 3 lL [#[l,1],#[q,1],#[p,1]] (Wl S l x)=#[u,Wl S l z,1]:=by
 obtain⟨v,C,m,a⟩:=MX c A k h1 #[] (x / 4);obtain⟨d,hd,o,b⟩:=MX c w s (by rw[lM];exact i) (by rw[lM];lia) (x / 4);obtain⟨y,F,rfl⟩:=mM.mp hd;by_cases h:x % 4=0
 .have e:wI [#[l],#[q],#[p]] (Wl S l x)=.ok (.ret #[[.str IS,v],6]) (Wl S l m):=by have B: ∀z,(Wl S l z)[p]? =#[vs,2]:=λz=>(iO A z).trans k;rw[xU (B _),gV]at a;unfold wI;simp? [yS (n:=4) c,h,decide_true,xU (B (x / 4))];rw[a];exists 7,rfl
  have ok:TmP ys vs _:=.inr ⟨v,C,rfl⟩;refine⟨_,m,ok,vG (T:=[]) rfl ?_ (iL (WK (ok.ok j)).1) (λl=>by simp)⟩;show yA (gR [#[l],#[q],#[p]] (Wl S l x))=_;unfold gR;rw[iW e,aN];rfl
 .have e:wI [#[l],#[q],#[p]] (Wl S l x)=#[[#[l],#[q],#[p]],Wl S l (x / 4),0]:=by unfold wI;exists 7,yS c,h,decide_false,fT,iF
  have E:dU [#[l],#[q],#[p]] (Wl S l (x / 4))=.ok (.ret #[[.str GW,.str y],6]) (Wl S l o):=by have r: ∀z,(Wl S l z)[q]? =some _:=λz=>(iO w z).trans s;rw[xU (r _),gV]at b;unfold dU;simp? [xU (r (x / 4))];rw[b];exists 7,rfl
  have ok:TmP ys vs _:=.inl ⟨y,F,rfl⟩;refine⟨_,o,ok,vG (T:=[]) rfl ?_ (iL (WK (ok.ok j)).1) (λl=>by simp)⟩;show yA (gR [#[l],#[q],#[p]] (Wl S l x))=_;unfold gR;rw[zD e,E,aN];rfl
theorem Ol(s:l<↑1)(w:l≠p)(nt:l≠lt)(q:S[p]? =#[vs,2])(F:S[lt]? =#[ts.map tbl,2])(B: ∀d∈vs,VS d)(h1:1<=vs.length)(K:vs.length<=4)(k:Eg ts)(x:Int):
  ∃r z,Gp ts vs r/\pd (zM r)=true/\xY [.loc l,.loc lt,.loc p] (Wl S l x)=#[zM r,Wl S l z,1]:=by
 have m: ∀z,(Wl S l z)[lt]? =some _:=λz=>(iO nt z).trans F;have A:0<ts.length:=k.1;have J:=k.2.1;have i: ∀z,lW [#[lt,1]] (Wl S l z)=.ok _ (Wl S l z):=λz=>by rw[xU (m z),lM]
 obtain⟨I,G,hw,a⟩:=Ew (lt:=lt) k x;obtain⟨t,b⟩: ∃t,t=x % (ts.length:Int):=⟨_,rfl⟩
 rw[<-b]at hw a;have C:eC [#[l],#[lt],#[p],none] (Wl S l x)=#[[#[l],#[lt],#[p],#[t,0]],Wl S l (x / (ts.length:Int)),0]:=by unfold eC;simp? [i,yS (n:=(ts.length:Int)) s #[] #[]];rw[b]
 obtain⟨out,z,o,u,j⟩:=MW (S:=S) (l:=l) (gf:=yD 0) (cf:=fZ) (ef:=bM) (ρb:=[none,#[l],#[p]]) (λd x=>by obtain⟨v,D,z,e⟩:=MX s w q h1 #[] x;refine⟨_,v,z,rfl,rfl,?_,D⟩;have y: ∀z,(Wl S l z)[p]? =#[vs,2]:=λz=>(iO w z).trans q;rw[xU (y _),gV]at e;unfold bM;simp? [xU (y x)];exact e) ((List.range (ZV ts t)).map iM) _;rw[lM,Ĕ]at o;have E: ∀S,gW (.val (tbl I)) #[0,5] S=.ok #[(ZV ts t:Int),5] S:=λS=>by rw[hw];rfl
 have H:eE [#[l],#[lt],#[p],#[t,0]] (Wl S l (x / (ts.length:Int)))=.ok (.ret (.val (zM (t,out)))) (Wl S l z):=by unfold eE;simp? [a _ (m _),E,Mh (show ZV ts t<=1000 by lia),lM,Ĕ,show ZV ts t<1000000 by lia];rw[show rW 1 [0,2] [#[l],#[lt],#[p],#[t,0]]=[none,#[l],#[p]]from rfl,j];exists 7,oH
 have h:pd (zM (t,out))=true:=by unfold zM;rw[xQ,yB,MM,yB,xQ,bX λc j=>(rC (B c (u c j))).1,vA];rfl
 refine⟨_,z,⟨o,u⟩,h,?_⟩;show yA (pI [#[l],#[lt],#[p],none] (Wl S l x))=_;unfold pI;rw[zD C,H];rfl
def Vq(j:l<↑1)(m:l≠p)(nt:l≠lt)(h:S[p]? =#[vs,2])(i:S[lt]? =#[ts.map tbl,2])(c: ∀d∈vs,VS d)(h1:1<=vs.length)(k:vs.length<=4)(n:Eg ts)(x:Int):
  ∃r z,Gp ts vs r/\zH 3 xY [#[l,1],#[lt,1],#[p,1]] (Wl S l x)=#[zM r,Wl S l z,1]:=by
 obtain⟨r,z,a,b,e⟩:=Ol j m nt h i c h1 k n x;exact⟨r,z,a,vG rfl (by rw[aN];exact e) (iL b) (λl=>by simp[zM])⟩
theorem B3(i:S[p]? =#[vs,2])(h:S[lt]? =#[ts.map tbl,2])(k: ∀d∈vs,VS d)(h1:1<=vs.length)(j:vs.length<=4)(m:Eg ts)(t:Int):
  ∃r,Gp ts vs r/\zH 3 xY [.new [.int t],#[lt,1],#[p,1]] S=#[zM r,S,1]:=by
 have c:↑1<(S++[MO.lst []]).length:=by simp
 have n:=(gS.mp i).1;have tl:=(gS.mp h).1;obtain⟨r,z,a,b,e⟩:=Ol c #[] #[] (zK i) (zK h) k h1 j m t;refine⟨r,a,qO (T:=[.lst [.int z]]) rfl ?_ (iL b) (λl=>by simp[zM])⟩;show xY [.loc ↑1,.loc lt,.loc p] (S++[.lst [.int t]])=_;rw[lR,e, <-lR]
end
theorem B4{vs:K1}(b: ∀v∈vs,VS v){a:Rw}(h:A9 ts ys vs a):pd (zM a)=true/\uZ (zM a)<=3:=by
 have h1:=bX λd hd=>(WK ((h.2 d hd).ok b)).1;have c:=vC λd hd=>(WK ((h.2 d hd).ok b)).2;unfold zM;refine⟨by rw[xQ,yB,yB,xQ,h1];rfl,?_⟩;rw[gD,yO,yO,vB,pM,gD]
 lia
abbrev A8(M l p q lt m:Nat)(k t:K2):Rho:=[#[l],#[lt],#[q],#[p],some (iM M),#[m],k,t]
section
variable{S:Sto}{M l p q lt:Nat}{vs:K1}{ys:Ch}{ts:Tk}
theorem ZW(A:l<↑1)(J:l≠p)(W:l≠q)(nt:l≠lt)(E:S[p]? =#[vs,2])(H:S[q]? =#[ys.map MV.str,2])(F:S[lt]? =#[ts.map tbl,2])(L: ∀d∈vs,VS d)(h1:1<=vs.length)(O:vs.length<=4)(w:1<=ys.length)(r:ys.length<=10)(s:Eg ts){as:List Rw}(X:as.length<100)(x:Int)(k I:K2):
  ∃a t' z,A9 ts ys vs a/\bN (A8 M l p q lt ↑1 k I) (Wl (S++[.lst #[as,9]]) l x)=#[A8 M l p q lt ↑1 k t',Wl (S++[.lst ((as++[a]).map zM)]) l z,0]:=by
 have b:l<(S++[MO.lst #[as,9]]).length:=by rw[lA];lia
 have v: ∀{j:Nat}{o:MO},S[j]? =some o->(S++[MO.lst #[as,9]])[j]? =some o:=λh=>by rw[á (gS.mp h).1];exact h
 have y: ∀z,(Wl _ l z)[lt]? =#[ts.map tbl,2]:=λz=>(iO nt z).trans (v F);have B: ∀z,(Wl _ l z)[↑1]? =#[as.map zM,2]:=λz=>vF A z _;have K:0<ts.length:=s.1;have U:=s.2.1;have u: ∀z,lW [#[lt,1]] _=.ok _ _:=λz=>by rw[xU (y z),lM]
 obtain⟨P,G,hw,c⟩:=Ew (lt:=lt) s x;obtain⟨t,i⟩: ∃t,t=x % (ts.length:Int):=⟨_,rfl⟩
 rw[<-i]at hw c;obtain⟨out,z,C,Q,N⟩:=MW (gf:=yD 0) (cf:=cQ) (ef:=jE) (ρb:=[none,#[l],#[q],#[p]]) (λd x=>by obtain⟨T,z,h,e⟩:=Mm b J W (v E) (v H) L h1 O w r x;refine⟨_,T,z,rfl,rfl,?_,h⟩;unfold jE;exists 7,e) ((List.range (ZV ts t)).map iM) _;rw[lM,Ĕ]at C;have D: ∀S,gW (.val (tbl P)) #[0,5] S=.ok #[(ZV ts t:Int),5] S:=λS=>by rw[hw];rfl
 have m: ∀Y,jM [#[t,5],#[out,6]] Y=#[zM (t,out),Y,1]:=λY=>tup2 _ _ Y;refine⟨(t,out),#[t,0],z,⟨C,Q⟩,?_⟩;unfold bN;apply zB
 .unfold cR;simp? [u,yS (n:=(ts.length:Int)) b #[] #[], <-i];rfl
 unfold cS;simp? [xL (B _),c _ (y _),D,Mh (show ZV ts t<=1000 by lia),lM,Ĕ,show ZV ts t<1000000 by lia];rw[show rW 1 [0,2,3] _=[none,#[l],#[q],#[p]]from rfl,N];simp? [oH,m,wZ (B z) (by rw[lM];lia),MT A];rw[ï];rfl
theorem Ex(c:l<↑1)(B:l≠p)(H:l≠q)(nt:l≠lt)(v:S[p]? =#[vs,2])(y:S[q]? =#[ys.map MV.str,2])(w:S[lt]? =#[ts.map tbl,2])(u: ∀d∈vs,VS d)(h1:1<=vs.length)(G:vs.length<=4)(s:1<=ys.length)(r:ys.length<=10)(C:Eg ts)(I:M<=4)(x:Int):
  ∃(as:List Rw)(z:Int),as.length=M/\(∀a∈as,A9 ts ys vs a)/\zH 5 eI [#[l,1],#[lt,1],#[q,1],#[p,1],.val (iM M)] (Wl S l x)=#[as.map zM,Wl S l z,2]:=by
 obtain⟨_,_,e,as,z,k',t',rfl,rfl,k,j⟩:=lQ (gf:=yD 6) (n:=M) (λi ρ S'=> ∃(as:List Rw)(z:Int)(k' t':K2),ρ=A8 M l p q lt ↑1 k' t'/\S'=Wl (S++[.lst #[as,9]]) l z/\(∀a∈as,A9 ts ys vs a)/\as.length=i) ((List.range M).map iM) 0 (by simp) ⟨[],x,none,none,rfl,rfl,by simp,rfl⟩ (λd _ i hi ρ S1 ⟨as,z,k',t',F,E,k,j⟩=>by subst F E;obtain⟨a,D,A,m,o⟩:=ZW c B H nt v y w u h1 G s r C (as:=as) #[] z (some d) t';exact⟨_,_,_,rfl,o,_,A,_,D,rfl,rfl,λb o=>(é.mp o).elim (k b) λh=>by rw[mS.mp h];exact m,by simp[j]⟩);rw[lM,Ĕ,ă]at j;refine⟨as,z,j,k,BV rfl ?_ (à _) (by rw[dB c];exact vF c z _) (cN λd hd=>by obtain⟨a,m,rfl⟩:=mM.mp hd;exact iL (B4 u (k a m)).1)⟩;show yA (eF [#[l],#[lt],#[q],#[p],some (iM M),none,none,none] _)=_;rw[dB c];refine cB ?_;unfold eF;apply zB
 .unfold iA;simp? [gO,dB c];rfl
 refine zB (ρ':=A8 M l p q lt ↑1 k' t') (S':=Wl (S++[.lst #[as,9]]) l z) ?_ ?_
 .unfold iB;simp? [Mh (show M<=1000 by lia)];exact e
 unfold iC;simp? [gV]
end
noncomputable abbrev N6(a:MV)(m:Nat)(t u w n:K2):Rho:=[some a,#[m],t,u,w,n]
def cG(as:List Rw):List (List Nat):=as.flatMap λa=>a.2.filterMap vn
def BW(v:MV):vn (.tup [.str IS,v])=none:=by cases v<;>simp[vn]
theorem BE{S:Sto}{a:MV}{t u:K2}: ∀(c:K1),(∀d∈c,bZ d)-> ∀(fs:Ch)(w n:K2),fs.length+c.length<1000->
  ∃(p r:K2),wK (oR 2 (zC (yD 4) (zC (yD 5) yL))) yF [] c (N6 a ↑1 t u w n) (S++[.lst #[fs,8]])=#[N6 a ↑1 t u p r,S++[.lst ((xH fs (c.filterMap vn)).map MV.str)],0]
 |[],_,fs,w,n,_=>⟨w,n,rfl⟩
 |d::c,hT,fs,w,n,hl=>by
  rw[lC]at hl;have i:=zG S (.lst #[fs,8]);rcases hT d mF0 with⟨x,rfl⟩|⟨v,hv,rfl⟩
  .have j:yF (N6 a ↑1 t u #[GW,4] #[x,4]) (S++[.lst #[fs,8]])=#[N6 a ↑1 t u #[GW,4] #[x,4],S++[.lst ((tS fs x).map MV.str)],0]:=by
    unfold yF xK;unfold tS;by_cases h:x∈fs
    .rw[iP h];simp? [QG,lP true i (tR x) DP,dT0 (DQ.mpr h),Bool.not_true,fT,iF]
    .rw[iN h];simp? [QG,lP true i (tR x) DP,dF0 (λz=>h (DQ.mp z)),Bool.not_false,xL i,wZ i (by rw[lM];lia),cA,ï,æ,List.map_nil]
   have q:=FZ fs x;obtain⟨k,m,b⟩:=BE c (λe o=>hT e (mO _ o)) (tS fs x) #[GW,4] #[x,4] #[];refine⟨k,m,?_⟩;rw[yH rfl j (gP _),b,ī,mR];rfl
  .have j:yF (N6 a ↑1 t u #[IS,4] (some v)) (S++[.lst #[fs,8]])=#[N6 a ↑1 t u #[IS,4] (some v),S++[.lst #[fs,8]],0]:=by unfold yF xK;exists 7,Eh,fT,iF
   obtain⟨k,m,b⟩:=BE c (λe o=>hT e (mO _ o)) fs #[IS,4] (some v) #[];refine⟨k,m,?_⟩;rw[yH rfl j (gP _),b,ī,BW]
def QJ(ks xs ys:Ch):xH ks (xs++ys)=xH (xH ks xs) ys:=by
 induction xs generalizing ks with
 |nil=>rfl
 |cons x xs ih=>exact ih _
theorem JN{S:Sto}{a:MV}{gs:K5}(c: ∀T,stay gs (S++T)): ∀(as:List Rw),(∀b∈as,(∀d∈b.2,bZ d)/\b.2.length<=4)-> ∀(fs:Ch)(t u w n:K2),fs.length+4 * as.length<1000->
  ∃(t' h i m:K2),wK (oR 2 (zC (yD 2) (zC (yD 3) yL))) wO gs #[as,9] (N6 a ↑1 t u w n) (S++[.lst #[fs,8]])=#[N6 a ↑1 t' h i m,S++[.lst ((xH fs (cG as)).map MV.str)],0]
 |[],_,fs,t,u,w,n,_=>⟨t,u,w,n,rfl⟩
 |b::as,hA,fs,t,u,w,n,hl=>by
  rw[lC]at hl;obtain⟨y,C⟩:=hA b mF0;obtain⟨p,j,o⟩:=BE b.2 y fs w n #[];have s:=rB (b.2.filterMap vn) fs;have r:=Ī vn b.2;obtain⟨A,k,q,z,v⟩:=JN c as (λe B=>hA e (mO _ B)) (xH fs (b.2.filterMap vn)) _ _ p j #[];refine⟨A,k,q,z,?_⟩;rw[æ,yH rfl ?_ (c _),v]
  .show _=R.ok _ (S++[.lst ((xH fs (b.2.filterMap vn++cG as)).map MV.str)]);rw[QJ]
  .unfold wO jK;exists 7,pN,o
theorem Ey{as:List Rw}(h:SqM S m #[as,9])(p: ∀b∈as,(∀d∈b.2,bZ d)/\b.2.length<=4)(q:as.length<=100):zH 1 yZ [.val m] S=#[(xH [] (cG as)).map MV.str,S,2]:=by
 obtain⟨gs,n,hi⟩:=h.itQ;have o:wQ [some m,none,none,none,none,none] S=#[N6 m ↑1 none none none none,S++[.lst []],0]:=by unfold wQ;exists 7,rfl
 obtain⟨t',a,c,e,i⟩:=JN n as p [] none none none none (by simp only[ÿ];lia);have j:wR (N6 m ↑1 none none none none) (S++[.lst []])=#[N6 m ↑1 t' a c e,S++[.lst ((xH [] (cG as)).map MV.str)],0]:=by unfold wR;exists 7,hi [.lst []],i
 have k:wU (N6 m ↑1 t' a c e) (S++[.lst ((xH [] (cG as)).map MV.str)])=.ok (.ret #[↑1,1]) (S++[.lst ((xH [] (cG as)).map MV.str)]):=by unfold wU;exists 7,rfl
 refine ER rfl ?_ (à _) (zG S _) (pP _ _);show yA (gC [some m,none,none,none,none,none] S)=_;unfold gC;rw[zD o,zD j,k];rfl
section
variable{S:Sto}{l:Nat}{a b:MO}{x:Int}
def w2_a(h:l<↑1):(Wl (S++[a,b]) l x)[↑1]? =some a:=by rw[iO (ë h)];simp
def Vr(h:l<↑1):(Wl (S++[a,b]) l x)[↑1+1]? =some b:=by rw[iO (ë (Nat.lt_succ_of_lt h)),rD]
theorem B5(h:l<↑1)(c:MO):(Wl (S++[a,b]) l x).set ↑1 c=Wl (S++[c,b]) l x:=by unfold Wl;rw[ı _ _ h,ı _ _ h,Ġ _ _ (by rw[Ą];exact à _),Ą,sub_self];rfl
theorem B6(h:l<↑1)(c:MO):(Wl (S++[a,b]) l x).set (↑1+1) c=Wl (S++[a,c]) l x:=by unfold Wl;rw[ı _ _ h,ı _ _ h,Ġ _ _ (by rw[Ą];exact le_succ _),Ą,Nat.add_sub_cancel_left];rfl
end
noncomputable abbrev H6(l a m:Nat)(k:K2):Rho:=[#[l],#[a],#[3,0],#[m],#[m+1],k]
theorem ZX{l a:Nat}{x:Int}{k:K2}{fs hs:Ch}(d:l<↑1)(r:fs.length<=16)(u:hs.length<1000):
  ∃(b c:Ch)(z:Int),(c++b).Perm (hs++fs)/\c.length<=hs.length+1/\b.length<=16/\dW (H6 l a ↑1 k) (Wl (S++[.lst #[fs,8],.lst #[hs,8]]) l x)=#[H6 l a ↑1 k,Wl (S++[.lst #[b,8],.lst #[c,8]]) l z,0]:=by
 have n:l<(S++[MO.lst #[fs,8],MO.lst #[hs,8]]).length:=by rw[lA];lia
 have j: ∀z,(Wl (S++[.lst #[fs,8],.lst #[hs,8]]) l z)[↑1]? =some _:=λz=>w2_a d;have s: ∀z,(Wl (S++[.lst #[fs,8],.lst #[hs,8]]) l z)[↑1+1]? =#[hs.map MV.str,2]:=λz=>Vr d;unfold dW aF;by_cases h:fs=[]
 .subst h;refine⟨[],hs,x,.refl _,le_succ _,by simp,?_⟩;exists 7,TQ (j x),show(!(([]:Ch).map MV.str).isEmpty)=false from rfl,fT,iF
 .have v:0<fs.length:=List.length_pos_iff.mpr h;obtain⟨m,q⟩: ∃m,m=(fs.map MV.str).length:=⟨_,rfl⟩
  have w:m=fs.length:=by rw[q,lM]
  have o:=md (x:=x) (show(0:Int)<(m:Int) by lia);generalize hi:x % (m:Int)=i at o;have i2:i.toNat<fs.length:=by lia
  refine⟨fs.eraseIdx i.toNat,hs++[fs[i.toNat]],x / (m:Int),?_,by simp,ø (List.length_eraseIdx_le ..) r,?_⟩
  .rw[aA];refine .append_left _ ?_;have e:fs.take i.toNat++fs[i.toNat]::fs.drop (i.toNat+1)=fs:=by rw[<-Ħ i2,ē]
   have p:(fs.take i.toNat++fs[i.toNat]::fs.drop (i.toNat+1)).Perm _:=List.perm_middle;rw[e]at p;rw[List.eraseIdx_eq_take_drop_succ];exact p.symm
  .simp? [TQ (j x),show(!(fs.map MV.str).isEmpty)=true by simpa using h,xL (s x),xL (j x),xU (j x), <-q,yS n (show(0:Int)<(m:Int) by lia) #[],hi,Mj (j (x / (m:Int))) o.1 (by rw[<-q];exact o.2) #[] (by rw[ö,gE i2];rfl),Eo,B5 d];rw[wZ (Vr d) (by rw[lM];lia),gV,B6 d,ï];rfl
theorem Mn{l a:Nat}{x:Int}{as:List Rw}(w:l<↑1)(u:l≠a)(C:S[a]? =#[as.map zM,2])(k: ∀b∈as,(∀d∈b.2,bZ d)/\b.2.length<=4)(G:as.length<=4):
  ∃(hs:Ch)(z:Int),hs.length<=3/\(∀y∈hs,y∈xH [] (cG as))/\hs.Nodup/\ ∃fs:List (List Nat),nI [.loc l,.loc a,.int 3] (Wl S l x)=.ok #[↑1+1,1] (Wl (S++[.lst #[fs,8],.lst #[hs,8]]) l z):=by
 have q:=Ey (.inr ⟨a,rfl,(iO u x).trans C⟩) k #[]
 have o:(xH [] (cG as)).length<=16:=by
  have h1:=rB (cG as) []
  have v: ∀as:List Rw,(∀b∈as,b.2.length<=4)->(cG as).length<=4 * as.length:=λas=>by
   induction as with
   |nil=>simp[cG]
   |cons b as ih=>
    intro k;have:=ih λc q=>k c (mO _ q);have G:=k b mF0;have K:=Ī vn b.2;show(b.2.filterMap vn++cG as).length<=_;rw[lA,lC]
    lia
  have:=v as λb s=>(k b s).2;rw[ÿ]at h1
  lia
 have m:(xH [] (cG as)).Nodup:=DR _ nodup_nil;generalize xH [] (cG as)=fs at q o m;have r:l<(S++[MO.lst #[fs,8]]).length:=by rw[lA];lia
 have J:=md (x:=x) (n:=4);obtain⟨_,_,e,h,hs,z,k',rfl,rfl,p,A,_⟩:=lQ (gf:=yD 5) (n:=3) (λi ρ S'=> ∃(h hs:Ch)(z:Int)(k':K2),ρ=H6 l a ↑1 k'/\S'=Wl (S++[.lst #[h,8],.lst #[hs,8]]) l z/\(hs++h).Perm fs/\hs.length<=i/\h.length<=16) ((List.range (x % 4).toNat).map iM) 0 (by simp;lia) ⟨fs,[],x / 4,none,rfl,rfl,.refl _,à _,o⟩ (λd _ i hi ρ S1 ⟨h,hs,z,k',I,H,p,A,D⟩=>by subst I H;obtain⟨o,v,E,p2,l2,B,s⟩:=ZX (hs:=hs) w D #[];exact⟨_,_,_,rfl,s,o,v,E,some d,rfl,rfl,p2.trans p,by lia,B⟩);rw[lM,Ĕ]at A;refine⟨hs,z,by lia,λy F=>p.mem_iff.mp (Ă _ F),(į.mp (p.nodup_iff.mpr m)).1,h,?_⟩;show yA (lN [#[l],#[a],#[3,0],none,none,none] (Wl S l x))=_;refine cB ?_;unfold lN;apply zB
 .unfold mL;simp? [q,gO,dB w];rfl
 refine zB (ρ':=H6 l a ↑1 none) (S':=Wl (S++[.lst #[fs,8],.lst []]) l x) ?_ (zB (ρ':=H6 l a ↑1 k') (S':=Wl (S++[.lst #[h,8],.lst #[hs,8]]) l z) ?_ ?_)
 .unfold mN;simp? [gO,dB r];rw[lA,aA];rfl
 .unfold mP;simp? [show(3:Int)+1=4 from rfl,yS (n:=4) (x:=x) (show l<(S++[MO.lst #[fs,8],MO.lst []]).length by rw[lA];lia),tG (j:=x % 4) #[]];exact e
 unfold mQ;exists 7,rfl
def Mo{l a:Nat}{x:Int}{as:List Rw}(c:l<↑1)(e:l≠a)(k:S[a]? =#[as.map zM,2])(n: ∀b∈as,(∀d∈b.2,bZ d)/\b.2.length<=4)(h:as.length<=4):
  ∃(hs:Ch)(z:Int),hs.length<=3/\(∀y∈hs,y∈xH [] (cG as))/\hs.Nodup/\zH 3 nI [#[l,1],#[a,1],#[3,5]] (Wl S l x)=#[hs.map MV.str,Wl S l z,2]:=by
 obtain⟨hs,z,m,o,i,fs,j⟩:=Mn c e k n h;refine⟨hs,z,m,o,i,BV (T:=[.lst #[fs,8],.lst _]) rfl ?_ (le_succ _) (by rw[dB c];exact Vr c) (pP _ _)⟩;rw[dB c];exact j
theorem TU(ds:K1)(S:Sto):CY (.new ds) S=.ok ⟨ds,[]⟩ S:=rfl
def MY{w:Nat}{x:Int}(h:Z[w]? =#[[.int x],2]):Wl Z w x=Z:=by
 refine ext_getElem? λj=>?_;by_cases e:w=j
 .subst e;rw[get_set h,h]
 .rw[tQ e]
theorem GA{lc:Nat}{all:K1}: ∀(cs:Za)(Z:Sto),Z[lc]? =#[all,2]-> ∃T:Sto,T.length=cs.length/\(∀o∈T, ∃x,o=.lst [.int x])/\zX (yD 0) gA wG [none] [(lc,all)] (cs.map MV.int) Z=.ok ((List.range' Z.length cs.length).map MV.loc) (Z++T)
 |[],Z,_=>⟨[],rfl,by simp,by rw[aN];rfl⟩
 |c::cs,Z,h=>by
  obtain⟨t,b⟩:=gU c Z;have a:(Z++[MO.lst [.int t]])[lc]? =#[all,2]:=by rw[á (gS.mp h).1];exact h
  obtain⟨T,h1,d,j⟩:=GA cs _ a;refine⟨_,by rw[lC,lC,h1],λo i=>(mC.mp i).elim (λe=>⟨t,e⟩) (d o),?_⟩;have k:wG [#[c,0]] Z=#[[.int t],Z,2]:=by unfold wG;exists 7,b
  rw[æ];unfold zX;rw[show yD 0 _ [none] Z=.ok [some _] Z from rfl,yM,gV,show gA [some _] Z=.ok true Z from rfl,yM,gV,k,yM,gV,show kC _ Z=.ok _ _ from rfl,gV,iP (yW a),j,aA];rw[lA,lS,lC];rfl
structure RI(S:Sto)(lr:Nat)(ws:Db)(rs:List Rw)(Z:Sto):Prop where
 old: ∃T,Z=S++T
 rw:Z[lr]? =#[rs.map zM,2]
 wl: ∀w∈ws,↑1<=w/\w≠lr/\ ∃x,Z[w]? =#[[.int x],2]
def WR{w:Nat}(h:↑1<=w)(o:MO): ∃a,(S++T).set w o=S++a:=⟨_,Ġ _ _ h⟩
def RI.at{ws:Db}{rs:List Rw}(h:RI S lr ws rs Z){l:Nat}(e:S[l]? =some o):Z[l]? =some o:=by obtain⟨T,rfl⟩:=h.old;rw[á (gS.mp e).1];exact e
def RI.draw{ws:Db}{rs:List Rw}(h:RI S lr ws rs Z){w:Nat}(hw:w∈ws)(z:Int):RI S lr ws rs (Wl Z w z):=by
 obtain⟨T,rfl⟩:=h.old;obtain⟨h1,a,x,i⟩:=h.wl w hw;refine⟨WR h1 _,?_,λv b=>?_⟩
 .rw[iO a];exact h.rw
 .obtain⟨c,g2,y,d⟩:=h.wl v b;refine⟨c,g2,?_⟩;by_cases e:w=v
  .subst e;exact⟨z,get_set i⟩
  .exact⟨y,by rw[iO e];exact d⟩
def RI.put{ws:Db}{rs:List Rw}(h:RI S lr ws rs Z)(b:↑1<=lr)(a:List Rw):RI S lr ws a (Z.set lr (.lst #[a,9])):=by obtain⟨T,rfl⟩:=h.old;refine⟨WR b _,get_set h.rw,λv c=>?_⟩;obtain⟨d,g2,y,e⟩:=h.wl v c;exact⟨d,g2,y,by rw[tQ (Ne.symm g2)];exact e⟩
theorem TV{vs:K1}(b: ∀v∈vs,VS v){r:Rw}(h:Gp ts vs r):pd (zM r)=true/\uZ (zM r)<24:=by
 have h1:=bX λc a=>(rC (b c (h.2 c a))).1;have d:=vC λc a=>by rcases b c (h.2 c a)with⟨i,rfl⟩|⟨i,rfl⟩;exact le_of_eq (pM _);exact le_of_eq (lO _)
 unfold zM;rw[xQ,yB,yB,xQ,h1,gD,yO,pM,yO,gD,vB];refine⟨rfl,?_⟩
 lia
noncomputable abbrev Mp(lc:Nat)(ex:Int)(lt p m:Nat)(k:Int)(lr:Nat)(w r:K2):Rho:=[#[lc],#[ex,0],#[lt],#[p],#[24,0],#[m],#[k,0],#[lr],w,r]
section
variable{S:Sto}{lc lt p m lr:Nat}{ex k:Int}{vs:K1}{ts:Tk}{ws:Db}
theorem ZY(v:↑1<=lr)(A:S[p]? =#[vs,2])(B:S[lt]? =#[ts.map tbl,2])(o: ∀d∈vs,VS d)(h1:1<=vs.length)(K:vs.length<=4)(J:Eg ts){rs:List Rw}(H:RI S lr ws rs Z)(h: ∀r∈rs,Gp ts vs r)(e:rs.length<=24){w:Nat}(hw:w∈ws)(D:K2):
  ∃b F E,RI S lr ws b E/\(∀r∈b,Gp ts vs r)/\b.length<=24/\xG (Mp lc ex lt p m k lr #[w] D) Z=#[Mp lc ex lt p m k lr #[w] F,E,0]:=by
 obtain⟨M,g2,x,C⟩:=H.wl w hw;have L:=(gS.mp A).1;have G:=(gS.mp B).1;obtain⟨r,z,c,u⟩:=Vq (gS.mp C).1 #[] #[] (H.at A) (H.at B) o h1 K J x;rw[MY C]at u;have H1:=H.draw hw z;obtain⟨Z1,i⟩: ∃Z1,Z1=Wl Z w z:=⟨_,rfl⟩
 rw[<-i]at u H1;have s:gB (Mp lc ex lt p m k lr #[w] D) Z=#[Mp lc ex lt p m k lr #[w] (some (zM r)),Z1,0]:=by unfold gB;exists 7,u
 have a:=lP true H1.rw (TV o c).1 λy I=>by obtain⟨q,j,rfl⟩:=mM.mp I;have:=TV o (h q j);exact⟨this.1,by lia⟩
 by_cases n:zM r∈rs.map zM
 .refine⟨rs,some (zM r),Z1,H1,h,e,?_⟩;unfold xG;rw[zD s];unfold wH;simp? [a,dT0 n,Bool.not_true,fT,iF]
 .by_cases N:rs.length<24
  .refine⟨_,some (zM r),_,H1.put v _,λq j=>(é.mp j).elim (h q) λz=>by rw[mS.mp z];exact c,by simp;lia,?_⟩;unfold xG;rw[zD s];unfold wH;simp? [a,dF0 n,Bool.not_false,xU H1.rw,lM,lt_int,show decide ((rs.length:Int)<24)=true from dT0 #[],xL H1.rw,wZ H1.rw (by rw[lM];lia),ï,æ,List.map_nil]
  .refine⟨rs,some (zM r),Z1,H1,h,e,?_⟩;unfold xG;rw[zD s];unfold wH;simp? [a,dF0 n,Bool.not_false,xU H1.rw,lM,lt_int,show decide ((rs.length:Int)<24)=false from dF0 #[],fT,iF]
theorem QK(e:↑1<=lr)(w:S[p]? =#[vs,2])(z:S[lt]? =#[ts.map tbl,2])(s: ∀d∈vs,VS d)(h1:1<=vs.length)(A:vs.length<=4)(y:Eg ts): ∀(us:Db),(∀u∈us,u∈ws)-> ∀(rs:List Rw)(Z:Sto)(a b:K2),RI S lr ws rs Z->(∀r∈rs,Gp ts vs r)->rs.length<=24->
  ∃c B M L,RI S lr ws c B/\(∀r∈c,Gp ts vs r)/\c.length<=24/\wK (yD 8) xG [] (us.map MV.loc) (Mp lc ex lt p m k lr a b) Z=#[Mp lc ex lt p m k lr M L,B,0]
 |[],_,rs,Z,a,b,H,hr,h40=>⟨rs,Z,a,b,H,hr,h40,rfl⟩
 |u::us,hu,rs,Z,a,b,H,hr,h40=>by obtain⟨j,I,Z1,H1,o,i,E⟩:=ZY e w z s h1 A y H hr h40 (hu u mF0) b;obtain⟨n,G,D,K,C,q,h,J⟩:=QK e w z s h1 A y us (λv F=>hu v (mO _ F)) j Z1 _ I H1 o i;refine⟨n,G,D,K,C,q,h,?_⟩;rw[æ,yH rfl E (gP _)];exact J
end
theorem Mq{lt p:Nat}{vs:K1}(G:S[p]? =#[vs,2])(I:S[lt]? =#[ts.map tbl,2])(D: ∀d∈vs,VS d)(h1:1<=vs.length)(W:vs.length<=4)(K:Eg ts)(ex:Int){cs:Za}(hc:cs.length<=63):
  ∃rs:List Rw,(∀r∈rs,Gp ts vs r)/\rs.length<=24/\zH 5 lK [.new (cs.map MV.int),#[ex,5],#[lt,1],#[p,1],#[24,5]] S=#[rs.map zM,S,2]:=by
 obtain⟨t,v⟩:=gU ex (S++[.lst (cs.map MV.int)]);obtain⟨a,b⟩: ∃a,a=S++[MO.lst (cs.map MV.int)]:=⟨_,rfl⟩
 have E:a.length=↑1+1:=by rw[b];simp
 rw[<-b]at v;have N:dP [#[↑1],#[ex,0],#[lt],#[p],#[24,0],none,none,none,none,none] a=#[[#[↑1],#[ex,0],#[lt],#[p],#[24,0],#[a.length],none,none,none,none],Wl (a++[.lst []]) a.length t,0]:=by unfold dP;simp? [v];rw[lR]
 have A:a.length<(a++[MO.lst []]).length:=by simp
 have X:dQ [#[↑1],#[ex,0],#[lt],#[p],#[24,0],#[a.length],none,none,none,none] (Wl (a++[.lst []]) a.length t)=#[[#[↑1],#[ex,0],#[lt],#[p],#[24,0],#[a.length],#[t % 20,0],none,none,none],a++[.lst [.int (t / 20)]],0]:=by unfold dQ;simp? [yS (n:=20) A];rw[lR]
 obtain⟨i,c⟩: ∃i,i=a++[MO.lst [.int (t / 20)],MO.lst []]:=⟨_,rfl⟩
 have l2:i.length=↑1+3:=by rw[c];simp[E]
 have F:dR [#[↑1],#[ex,0],#[lt],#[p],#[24,0],#[a.length],#[t % 20,0],none,none,none] (a++[.lst [.int (t / 20)]])=#[Mp ↑1 ex lt p a.length (t % 20) (↑1+2) none none,i,0]:=by unfold dR;simp? [gV];rw[lA,E,aA,c];rfl
 have k:i[↑1]? =#[cs.map MV.int,2]:=by rw[c,b];simp
 obtain⟨T,t1,M,P⟩:=GA cs i k;have U:0<=t % 20:=eN _ (by decide);have k1:t % 20<20:=eL _ (by decide);obtain⟨ws,s⟩: ∃ws:List Nat,ws=List.range' i.length cs.length++List.replicate (t % 20).toNat a.length:=⟨_,rfl⟩
 have m: ∀Y,uI (.new [.loc a.length]) #[t % 20,5] Y=#[(List.replicate (t % 20).toNat a.length).map MV.loc,Y,2]:=λY=>by
  show(if 0<=t % 20/\t % 20<100000/\[MV.loc a.length].length * (t % 20).toNat<=sizeLine then _ else _)=_;rw[iP ⟨U,by lia,fits (by simp;lia)⟩]
  have z: ∀n:Nat,(List.replicate n [MV.loc a.length]).flatten=(List.replicate n a.length).map MV.loc:=λn=>by
   induction n with
   |zero=>rfl
   |succ n ih=>rw[Ĭ,flatten_cons,ih,Ĭ];rfl
  rw[z]
 have q: ∀Y,xA (.new ((List.range' i.length cs.length).map MV.loc)) (.new ((List.replicate (t % 20).toNat a.length).map MV.loc)) Y=#[ws.map MV.loc,Y,2]:=λY=>by rw[s,ï];exact AD rfl rfl (fits (by rw[lM,lM,List.length_range',Ċ];lia))
 have H0:RI S (↑1+2) ws [] (i++T):=by
  refine⟨⟨[.lst (cs.map MV.int),.lst [.int (t / 20)],.lst []]++T,by rw[c,b];simp⟩,?_,λw hw=>?_⟩
  .rw[á #[],c,b];simp
  .rw[s]at hw;rcases é.mp hw with hw|hw
   .obtain⟨j,hj,rfl⟩:=List.mem_range'.mp hw;refine⟨by lia,by lia,?_⟩;rw[å #[],show i.length+1 * j - i.length=j by lia,gE #[]];obtain⟨x,Q⟩:=M _ (getElem_mem (show j<T.length by lia));exact⟨x,by rw[Q]⟩
   .rw[(List.mem_replicate.mp hw).2];refine⟨by lia,by lia,t / 20,?_⟩;rw[á #[],c,å #[],sub_self];rfl
 obtain⟨rs,Z,L,J,H,C,B,e⟩:=QK #[] G I D h1 W K ws (λu h=>h) [] (i++T) none none H0 (by simp) (by simp);have O:dS (Mp ↑1 ex lt p a.length (t % 20) (↑1+2) none none) i=#[Mp ↑1 ex lt p a.length (t % 20) (↑1+2) L J,Z,0]:=by unfold dS;simp? [wM k,lM,show cs.length<1000000 by lia];rw[show rW 1 [] _=[none]from rfl,P];simp? [lst1,m,q,TU];exact e
 obtain⟨T',o⟩:=H.old;refine⟨rs,C,B,bY (S2:=a) rfl (by rw[b];rfl) ?_ (.inr ⟨↑1+2,rfl,by lia,by rw[<-o];exact H.rw⟩) (cN λd hd=>by obtain⟨r,y,rfl⟩:=mM.mp hd;exact iL (TV D (C r y)).1)⟩;show yA (lI [#[↑1],#[ex,0],#[lt],#[p],#[24,0],none,none,none,none,none] a)=_;unfold lI;rw[zD N,zD X,zD F,zD O, <-o];rfl
abbrev Ev:=List (MV×MV)
variable{E:Ev}{Gs:List Ev}
def tY(E:Ev):Prop:= ∀p∈E,(∃x,p.1=.str x)/\VS p.2
noncomputable def isv:MV->MV
 |.tup [_,v]=>v
 |_=>.non
def dC:List MV->List MV->Ev->Option Ev
 |t::ts,c::cs,E=>match vn t with
  |some x=>match look E (.str x)with
   |none=>dC ts cs (E++[(.str x,c)])
   |some d=>if d=c then dC ts cs E else none
  |none=>if isv t=c then dC ts cs E else none
 |_,_,E=>some E
def vH(x:Db)(c:MV)(ts cs:K1)(E:Ev):dC (.tup [.str GW,.str x]::ts) (c::cs) E=match look E (.str x)with |none=>dC ts cs (E++[(.str x,c)])|some d=>if d=c then dC ts cs E else none:=by
 conv=>lhs;unfold dC
 rw[mR]
theorem MZ(v c:MV)(ts cs:K1)(E:Ev):dC (.tup [.str IS,v]::ts) (c::cs) E=if v=c then dC ts cs E else none:=by
 conv=>lhs;unfold dC
 rw[BW];rfl
theorem QL(V F:Ev)(k:MV):look (V++F) k=(look V k).or (look F k):=by unfold look;rw[List.find?_append];cases V.find? (λp=>decide (p.1=k))<;>rfl
def NA(h:tY E){k d:MV}(e:look E k=some d):VS d:=by obtain⟨p,a,rfl⟩:=Option.map_eq_some_iff.mp e;exact(h p (List.mem_of_find?_eq_some a)).2
def Ez{k d:MV}(e:look E k=some d): ∃p∈E,p.1=k:=by obtain⟨p,a,rfl⟩:=Option.map_eq_some_iff.mp e;exact⟨p,List.mem_of_find?_eq_some a,by simpa using List.find?_some a⟩
def Mr{k:MV}(e:look E k=none): ∀p∈E,p.1≠k:=λp a h=>by unfold look at e;rw[Option.map_eq_none_iff,List.find?_eq_none]at e;exact e p a (dT0 h)
theorem GB{V:Ev}{k d:MV}(h:look V k=none):putK V k d=V++[(k,d)]:=by unfold putK;rw[h];rfl
theorem DS: ∀(ts cs:K1)(F G:Ev),dC ts cs F=some G->tY F->(∀c∈cs,VS c)->tY G
 |[],_,F,G,h,hF,_=>by cases h;exact hF
 |t::ts,[],F,G,h,hF,_=>by cases h;exact hF
 |t::ts,c::cs,F,G,h,hF,hc=>by
  have a:=λd hd=>hc d (mO _ hd);unfold dC at h;split at h
  .rename_i x e;split at h
   .refine DS ts cs _ G h (λp b=>?_) a;rcases é.mp b with b|b
    .exact hF p b
    .rw[mS.mp b];exact⟨⟨x,rfl⟩,hc c mF0⟩
   .split at h
    .exact DS ts cs F G h hF a
    .cases h
  .split at h
   .exact DS ts cs F G h hF a
   .cases h
theorem eX(C:Ev)(k x j:MV):look (C++[(k,x)]) j=(look C j).or (if k=j then some x else none):=by
 rw[QL];unfold look;rw[find?_cons];by_cases h:k=j
 .rw[iP h,dT0 h];rfl
 .rw[iN h,dF0 h];rfl
theorem WS: ∀(ts cs:K1)(E G:Ev),dC ts cs E=some G->ts.length<=cs.length->(∀k,look E k≠none->look G k≠none)/\ ∀t∈ts, ∀x,vn t=some x->look G (.str x)≠none
 |[],_,E,G,h,_=>by cases h;exact⟨λk h=>h,λt o=>by simp at o⟩
 |t::ts,[],E,G,h,hl=>by simp at hl
 |t::ts,c::cs,E,G,h,hl=>by
  rw[lC,lC]at hl
  have n: ∀{F:Ev},dC ts cs F=some G->(∀k,look E k≠none->look F k≠none)->(∀x,vn t=some x->look F _≠none)->_/\ ∀t'∈t::ts, ∀x,vn t'=some x->look G _≠none:=λq h1 p=>by
   obtain⟨a,b⟩:=WS ts cs _ G q #[];refine⟨λk i=>a k (h1 k i),λt' j x m=>?_⟩;rcases mC.mp j with rfl|j
   .exact a _ (p x m)
   .exact b t' j x m
  unfold dC at h;split at h
  .rename_i x m;split at h
   .rename_i r;refine n h (λk i=>?_) λy e=>?_
    .rw[QL]
     cases z:look E k with
     |none=>exact absurd z i
     |some d=>simp
    .rw[m]at e;cases e;rw[eX];simp
   .rename_i d hd;split at h
    .exact n h (λk i=>i) λy e=>by rw[m]at e;cases e;rw[hd];simp
    .cases h
  .rename_i m;split at h
   .exact n h (λk i=>i) λy e=>by rw[m]at e;cases e
   .cases h
theorem B7(h:tY E):E.all (λp=>tP p.1)=true:=by rw[ą];intro p a;obtain⟨x,e⟩:=(h p a).1;rw[e];rfl
section
variable{S:Sto}{l:Nat}{E:Ev}
def GC(h:S[l]? =#[E,7])(a:tY E):AO S #[l,1]=some (l,E):=El h (B7 a)
theorem NB(h:S[l]? =#[E,7])(a:tY E):SZ #[l,1] S=true:=by unfold SZ;rw[GC h a];rfl
theorem TX(h:S[l]? =#[E,7])(b:tY E){x:Db}{d:MV}(a:look E (.str x)=some d):LX #[l,1] (.val (.str x)) S=#[d,S,1]:=by unfold LX;rw[GC h b];dsimp only;rw[a];rfl
def Mu(h:S[l]? =#[E,7])(b:tY E)(hz:E.length<1000000){x:Db}{c d:MV}(a:look E (.str x)=some d):Dk #[l,1] [.val (.str x),.val c] S=#[d,S,1]:=by show PM _ _ _ S=_;unfold PM;rw[GC h b];dsimp only;rw[iP ⟨rfl,hz⟩,a]
def Mv(h:S[l]? =#[E,7])(b:tY E)(hz:E.length<1000000){x:Db}{c:MV}(a:look E (.str x)=none):Dk #[l,1] [.val (.str x),.val c] S=#[c,S.set l (.dic (E++[(.str x,c)])),1]:=by show PM _ _ _ S=_;unfold PM;rw[GC h b];dsimp only;rw[iP ⟨rfl,hz⟩,a];rw[GB a]
end
theorem WT{d e:MV}(hd:pd d=true)(a:pd e=true)(h:uZ d<40):EQ (.val d) (.val e) S=#[.bl (!decide (d=e)),S,1]:=Te (oE _ hd a (by unfold zF;lia))
noncomputable abbrev FT(lt cs:K1)(n:Nat)(a b c:K2):Rho:=[#[lt,3],#[cs,3],#[n],a,b,c]
def Mw{lt a:K1}{t c:MV}(s:bZ t)(q:VS c)(i:tY E)(hz:E.length<1000)(o:K2):
  (∃F e,(∀ts h,dC (t::ts) (c::h) E=dC ts h F)/\tY F/\F.length<=E.length+1/\xR (FT lt a ↑1 (some t) (some c) o) (S++[.dic E])=#[FT lt a ↑1 (some t) (some c) (some e),S++[.dic F],0])\/
  ((∀ts h,dC (t::ts) (c::h) E=none)/\xR (FT lt a ↑1 (some t) (some c) o) (S++[.dic E])=.ok (.ret (.val .non)) (S++[.dic E])):=by
 have m:(S++[.dic E])[↑1]? =#[E,7]:=zG _ _
 have r: ∀(d:MV)(n:Ev),VS d->dG (FT lt a ↑1 (some t) (some c) (some d)) (S++[.dic n])=if d=c then #[FT lt a ↑1 (some t) (some c) (some d),S++[.dic n],0]else .ok (.ret (.val .non)) (S++[.dic n]):=λd n hd=>by
  unfold dG;simp? [WT (rC hd).1 (rC q).1 (rC hd).2];by_cases b:d=c
  .rw[dT0 b,iP b];rfl
  .rw[dF0 b,iN b];rfl
 unfold xR;rcases s with⟨x,rfl⟩|⟨v,hv,rfl⟩
 .cases z:look E (.str x)with
  |none=>
   have j:yT (FT lt a ↑1 #[[.str GW,.str x],3] (some c) o) (S++[.dic E])=#[FT lt a ↑1 #[[.str GW,.str x],3] (some c) (some c),S++[.dic (E++[(.str x,c)])],0]:=by unfold yT;simp? [Ei,Ej,QG,NB m i,Mv m i (show E.length<1000000 by omega) z,cA]
   refine .inl ⟨_,c,λts h=>by rw[vH,z],λp k=>?_,by simp,?_⟩
   .rcases é.mp k with k|k
    .exact i p k
    .rw[mS.mp k];exact⟨⟨x,rfl⟩,q⟩
   .rw[zD j,r c _ q,iP rfl]
  |some d=>
   have j:yT (FT lt a ↑1 #[[.str GW,.str x],3] (some c) o) (S++[.dic E])=#[FT lt a ↑1 #[[.str GW,.str x],3] (some c) (some d),S++[.dic E],0]:=by unfold yT;exists 7,Ei,Ej,QG,NB m i,Mu m i (show E.length<1000000 by omega) z
   rw[zD j,r d _ (NA i z)];by_cases b:d=c
   .exact .inl ⟨E,d,λts h=>by rw[vH,z];exact iP b,i,by omega,by rw[iP b]⟩
   .exact .inr ⟨λts h=>by rw[vH,z];exact iN b,by rw[iN b]⟩
 .have j:yT (FT lt a ↑1 #[[.str IS,v],3] (some c) o) (S++[.dic E])=#[FT lt a ↑1 #[[.str IS,v],3] (some c) (some v),S++[.dic E],0]:=by unfold yT;exists 7,Ei,Ej,Eh,fT,iF
  rw[zD j,r v _ hv];by_cases b:v=c
  .exact .inl ⟨E,v,λts h=>by rw[MZ,iP b],i,by omega,by rw[iP b]⟩
  .exact .inr ⟨λts h=>by rw[MZ,iN b],by rw[iN b]⟩
theorem Fa{S:Sto}{lt h:K1}: ∀(ts cs:K1)(E:Ev)(a b c:K2),(∀t∈ts,bZ t)->(∀c∈cs,VS c)->tY E->E.length+ts.length<1000->
  (∃F p o n,dC ts cs E=some F/\wK (oR 2 (zC (yD 3) (zC (yD 4) yL))) xR [] (pairs ts cs) (FT lt h ↑1 a b c) (S++[.dic E])=#[FT lt h ↑1 p o n,S++[.dic F],0])\/
  (dC ts cs E=none/\ ∃j,wK (oR 2 (zC (yD 3) (zC (yD 4) yL))) xR [] (pairs ts cs) (FT lt h ↑1 a b c) (S++[.dic E])=.ok (.ret (.val .non)) (S++[.dic j]))
 |[],cs,E,a,b,c,_,_,_,_=>.inl ⟨E,a,b,c,rfl,rfl⟩
 |t::ts,[],E,a,b,c,_,_,_,_=>.inl ⟨E,a,b,c,rfl,rfl⟩
 |t::ts,d::cs,E,a,b,c,ht,hc,hE,hz=>by
  rw[lC]at hz;have m:oR 2 (zC (yD 3) (zC (yD 4) yL)) (.tup [t,d]) (FT lt h ↑1 a b c) (S++[.dic E])=.ok _ (S++[.dic E]):=rfl;have k: ∀j:Ev,stay [] (S++[.dic j]):=λj=>gP _;rcases Mw (ht t mF0) (hc d mF0) hE #[] c with⟨F,e,h1,h2,h3,h4⟩|⟨h1,h4⟩
  .show(∃F p o n,_/\wK _ _ _ (.tup [t,d]::pairs ts cs) _ _=_)\/(_/\ ∃j,wK _ _ _ (.tup [t,d]::pairs ts cs) _ _=_)
   rw[yH m h4 (k F),h1];exact Fa ts cs F (some t) (some d) (some e) (λt i=>ht t (mO _ i)) (λt i=>hc t (mO _ i)) h2 #[]
  .refine .inr ⟨h1 ts cs,E,?_⟩;show wK _ _ _ (.tup [t,d]::pairs ts cs) _ _=_;rw[Kj m h4]
def NC:tY []:=λp h=>by simp at h
theorem B8{ts cs:K1}(j: ∀t∈ts,bZ t)(k: ∀c∈cs,VS c)(hz:ts.length<900):
  zH 2 eW [#[ts,6],#[cs,6]] S=match dC ts cs []with |some F=>.ok #[S.length,1] (S++[.dic F])|none=>#[.non,S,1]:=by
 have i:lB [#[ts,3],#[cs,3],none,none,none,none] S=#[FT ts cs ↑1 none none none,S++[.dic []],0]:=by unfold lB;exists 7,ES
 have e:Of [#[ts,6],#[cs,6]] _=.ok ⟨_,[]⟩ (S++[.dic []]):=rfl;have h:lD (FT ts cs ↑1 none none none) (S++[.dic []])=wK (oR 2 (zC (yD 3) (zC (yD 4) yL))) xR [] (pairs ts cs) (FT ts cs ↑1 none none none) (S++[.dic []]):=by unfold lD;exists 7,e
 rcases Fa ts cs [] none none none j k NC (by simp only[ÿ];lia)with⟨F,a,b,c,h1,h2⟩|⟨h1,E',h2⟩
 .rw[h1];dsimp only;have d:eW [.tup ts,.tup cs] S=.ok #[↑1,1] (S++[.dic F]):=by show yA (eV [#[ts,3],#[cs,3],none,none,none,none] S)=_;unfold eV;rw[zD i,zD (h.trans h2)];rfl
  exact En rfl d
 .rw[h1];dsimp only;have d:eW [.tup ts,.tup cs] S=#[.non,S++[.dic E'],1]:=by show yA (eV [#[ts,3],#[cs,3],none,none,none,none] S)=_;unfold eV;rw[zD i,iW (h.trans h2)];rfl
  exact qO rfl d (Cp _) (λl=>by simp)
def Vs{l:Nat}(h:S[l]? =#[E,7])(a:tY E):TB [#[l,1]] S=.ok #[↑1,1] (S++[.dic E]):=by unfold TB;dsimp only;rw[GC h a]
noncomputable abbrev D4(m:MV)(n:Nat)(a t:K2):Rho:=[some m,#[n],a,t]
theorem GD{S:Sto}{m:MV}{a:K2}: ∀(b:K1),(∀d∈b,bZ d)-> ∀(ks:Ch)(t:K2),ks.length+b.length<100000->
  ∃t',wK (yD 3) bD [] b (D4 m ↑1 a t) (S++[.dic (dT ks)])=#[D4 m ↑1 a t',S++[.dic (dT (xH ks (b.filterMap vn)))],0]
 |[],_,ks,t,_=>⟨t,rfl⟩
 |d::b,hT,ks,t,hl=>by
  rw[lC]at hl;rcases hT d mF0 with⟨x,rfl⟩|⟨v,hv,rfl⟩
  .have i:=FZ ks x;obtain⟨t',c⟩:=GD b (λe h=>hT e (mO _ h)) (tS ks x) #[[.str GW,.str x],3] #[];refine⟨t',?_⟩;rw[yH rfl ?_ (gP _)]
   .rw[ī,mR];exact c
   .unfold bD bC;simp? [Ei,Ej,QG,ML,Mg (zG S (.dic (dT ks))) #[],cA]
  .obtain⟨t',c⟩:=GD b (λe h=>hT e (mO _ h)) ks #[[.str IS,v],3] #[];refine⟨t',?_⟩;rw[yH rfl ?_ (gP _)]
   .rw[ī,BW];exact c
   .unfold bD bC;exists 7,Ei,Ej,Eh,fT,iF
theorem Fc{S:Sto}{m:MV}{gs:K5}(c: ∀T,stay gs (S++T)): ∀(as:List Rw),(∀b∈as,(∀d∈b.2,bZ d)/\b.2.length<=4)-> ∀(ks:Ch)(a t:K2),ks.length+100 * as.length<50000->
  ∃e t',wK (yD 2) bE gs #[as,9] (D4 m ↑1 a t) (S++[.dic (dT ks)])=#[D4 m ↑1 e t',S++[.dic (dT (xH ks (cG as)))],0]
 |[],_,ks,a,t,_=>⟨a,t,rfl⟩
 |p::ps,h,ks,a,t,hl=>by
  rw[lC]at hl;have j:=h p mF0;have n:=j.2;obtain⟨i,h1⟩:=GD p.2 j.1 ks t #[];have o:bE (D4 m ↑1 (some (zM p)) t) (S++[.dic (dT ks)])=#[D4 m ↑1 (some (zM p)) i,S++[.dic (dT (xH ks (p.2.filterMap vn)))],0]:=by unfold bE fU;exists 7,show∀Z,gW (.val (zM p)) #[1,5] Z=.ok _ Z from λ_=>rfl,pN,h1
  have s:=rB (p.2.filterMap vn) ks;have u:(p.2.filterMap vn).length<=p.2.length:=Ī _ _;obtain⟨e,t',k⟩:=Fc c ps (λq r=>h q (mO _ r)) (xH ks (p.2.filterMap vn)) (some (zM p)) i #[];refine⟨e,t',?_⟩;rw[æ,yH rfl o (c _),k];show _=R.ok _ (S++[.dic (dT (xH ks (p.2.filterMap vn++cG ps)))]);rw[QJ]
theorem C1{as:List Rw}(n:SqM S m #[as,9])(h: ∀b∈as,(∀d∈b.2,bZ d)/\b.2.length<=4)(o:as.length<=100):xV [m] S=#[(xH [] (cG as)).map MV.str,S++[.dic (dT (xH [] (cG as)))],2]:=by
 obtain⟨gs,j,hi⟩:=n.itQ;obtain⟨a,t',c⟩:=Fc j as h [] none none (by simp only[ÿ];lia);have k:aX [some m,none,none,none] S=#[D4 m ↑1 none none,S++[.dic (dT [])],0]:=by unfold aX;exists 7,ES
 have e:aY (D4 m ↑1 none none) (S++[.dic (dT [])])=#[D4 m ↑1 a t',S++[.dic (dT (xH [] (cG as)))],0]:=by unfold aY;exists 7,hi [.dic (dT [])],c
 have i:aZ (D4 m ↑1 a t') (S++[.dic (dT (xH [] (cG as)))])=.ok (.ret (.new ((xH [] (cG as)).map MV.str))) (S++[.dic (dT (xH [] (cG as)))]):=by unfold aZ;exists 7,Em (zG S _)
 show yA (oY [some m,none,none,none] S)=_;unfold oY;rw[zD k,zD e,i];rfl
def C4{as:List Rw}(c:SqM S m #[as,9])(h: ∀b∈as,(∀d∈b.2,bZ d)/\b.2.length<=4)(a:as.length<=100):zH 1 xV [.val m] S=#[(xH [] (cG as)).map MV.str,S,2]:=
 mZ rfl (C1 c h a) (pP _ _)
theorem Vt{as:List Rw}(h: ∀b∈as,(∀d∈b.2,bZ d)/\b.2.length<=4)(a:as.length<=100):zH 1 xV [.new #[as,9]] S=#[(xH [] (cG as)).map MV.str,S,2]:=by refine bY rfl (show zE [.new _] S=([.loc ↑1],S++[.lst _])from rfl) (T:=[.lst #[as,9],.dic (dT (xH [] (cG as)))]) ?_ (.inl rfl) (pP _ _);rw[C1 (.inr ⟨_,rfl,zG _ _⟩) h a,aA];rfl
def rZ(E:Ev)(x:Db):MV:=(look E (.str x)).getD .non
theorem iQ{x:Db}{d:MV}(h:look E (.str x)=some d):rZ E x=d:=by unfold rZ;rw[h];rfl
theorem WU{l:Nat}(h:S[l]? =#[E,7])(j:tY E)(o:SqM S m #[xs,8])(n: ∀x∈xs,look E (.str x)≠none)(p:xs.length<1000):zH 2 yG [#[l,1],.val m] S=.ok #[xs.map (rZ E),6] S:=by
 obtain⟨gs,b,hi⟩:=o.itQ;have b:=b [];have hi:=hi [];rw[aN]at b hi
 have i: ∀x∈xs, ∃d,look E (.str x)=some d/\VS d:=λx a=>by
  cases z:look E _ with
  |none=>exact absurd z (n x a)
  |some d=>exact⟨d,rfl,NA j z⟩
 have k:zX (yD 0) nS jT [none,#[l]] gs _ S=.ok _ S:=
  dA (g:=rZ E) b λx a=>by obtain⟨d,hd,_⟩:=i x a;refine⟨[#[x,4],some _],rfl,rfl,?_⟩;unfold jT;simp? [TX h j hd];rw[iQ hd]
 have c:pd (.tup (xs.map (rZ E)))=true:=by refine bX λd hd=>?_;obtain⟨x,a,rfl⟩:=mM.mp hd;obtain⟨d,hd,e⟩:=i x a;rw[iQ hd];exact(rC e).1
 refine eU rfl ?_ (iL c) (λl=>by simp);show yA (lG [some _,some m] S)=_;unfold lG lX;simp? [hi,lM,show xs.length<1000000 by lia];rw[show rW 1 [0] [some _,some m]=[none,some _]from rfl,k];rfl
def JO{n:Nat}{F:List MV->Sto->R Er}{ds:K1}(b:rs.length=n)(c:F (zE rs S).1 (zE rs S).2=#[ds,S++T,2]): ∃a,zH n F rs S=#[ds,S++a,2]/\(a=T\/a=[]/\tX ↑1 ds):=by
 unfold zH;rw[iP b,c];show∃a,jI S _ _=_/\_;unfold jI;rw[iP qN];dsimp only;split
 .rename_i h;exact⟨[],by rw[aN,List.take_left'];rfl,.inr ⟨rfl,h⟩⟩
 .exact⟨T,rfl,.inl rfl⟩
def FtO(Z:Sto)(n:Nat)(mk:Int):List MV->List (Option Ev)->Prop
 |[],[]=>True
 |w::ws,some G::gs=>(∃e,w=.tup [.loc e,.int mk]/\n<=e/\Z[e]? =#[G,7])/\FtO Z n mk ws gs
 |w::ws,none::gs=>w=.tup [.non,.int mk]/\FtO Z n mk ws gs
 |_,_=>False
theorem FtO.grow{n:Nat}{mk:Int}: ∀{ws:K1}{gs:List (Option Ev)},FtO Z n mk ws gs->FtO (Z++T) n mk ws gs
 |[],[],_=>trivial
 |w::ws,some G::gs,h=>⟨let ⟨e,a,b,c⟩:=h.1;⟨e,a,b,by rw[á (gS.mp c).1];exact c⟩,FtO.grow h.2⟩
 |w::ws,none::gs,h=>⟨h.1,FtO.grow h.2⟩
 |[],_::_,h=>h.elim
 |_::_,[],h=>h.elim
def Fts(Z:Sto)(n:Nat)(mk:Int):List MV->List Ev->Prop
 |[],[]=>True
 |w::ws,G::gs=>(∃e,w=.tup [.loc e,.int mk]/\n<=e/\Z[e]? =#[G,7])/\Fts Z n mk ws gs
 |_,_=>False
theorem Fts.grow{n:Nat}{mk:Int}: ∀{ws:K1}{gs:List Ev},Fts Z n mk ws gs->Fts (Z++T) n mk ws gs
 |[],[],_=>trivial
 |w::ws,G::gs,h=>⟨let ⟨e,a,b,c⟩:=h.1;⟨e,a,b,by rw[á (gS.mp c).1];exact c⟩,Fts.grow h.2⟩
 |[],_::_,h=>h.elim
 |_::_,[],h=>h.elim
def Fts.len{n:Nat}{mk:Int}: ∀{ws:K1}{gs:List Ev},Fts Z n mk ws gs->ws.length=gs.length
 |[],[],_=>rfl
 |_::_,_::_,h=>by rw[lC,lC,h.2.len]
 |[],_::_,h=>h.elim
 |_::_,[],h=>h.elim
theorem Fts.cut{b:Sto}{n m:Nat}{mk:Int}{ws:K1}{gs:List Ev}(h:Fts Z n mk ws gs)(l:tX m ws)(a:m<=n):Fts b n mk ws gs:=by
 cases ws with
 |nil=>cases gs with
  |nil=>trivial
  |cons G gs=>exact h.elim
 |cons w ws=>cases gs with
  |nil=>exact h.elim
  |cons G gs=>
   obtain⟨⟨e,rfl,h1,_⟩,_⟩:=h;have:=l.1;have:=this.1;unfold lo at this
   lia
section
variable{lr lm n:Nat}{R0 M0:K1}{a:Rw}
theorem ND(p:(∀d∈a.2,bZ d)/\a.2.length<=4): ∀(rs:List Rw)(Z:Sto),Z[lr]? =#[R0,2]->Z[lm]? =#[M0,2]->n<=Z.length->(∀r∈rs, ∀c∈r.2,VS c)->
  ∃out T,zX (oR 2 (zC (yD 0) (zC (yD 1) yL))) jR xE [none,none,some (zM a)] [(lr,R0),(lm,M0)] (pairs #[rs,9] (rs.map λ_=>.int 1)) Z=.ok out (Z++T)/\FtO (Z++T) n 1 out ((rs.filter λr=>decide (r.1=a.1)).map λr=>dC a.2 r.2 [])/\out.length<=rs.length
 |[],Z,_,_,_,_=>⟨[],[],by rw[aN];rfl,trivial,à _⟩
 |r::rs,Z,h1,h2,h3,hv=>by
  have st: ∀{w:Sto},w[lr]? =#[R0,2]->w[lm]? =#[M0,2]->stay [(lr,R0),(lm,M0)] w:=λa b q i=>by
   simp only[mC,nM,or_false]at i;rcases i with rfl|rfl
   .exact a
   .exact b
  have u:oR 2 (zC (yD 0) (zC (yD 1) yL)) (.tup [zM r,.int 1]) [none,none,some (zM a)] Z=.ok [some (zM r),#[1,0],some (zM a)] Z:=rfl;have B: ∀(q:Rw) Y,gW (.val (zM q)) #[0,5] Y=.ok _ Y:=λ_ _=>rfl;have i1: ∀(q:Rw) Y,gW (.val (zM q)) #[1,5] Y=.ok _ Y:=λ_ _=>rfl;have k:jR [some (zM r),#[1,0],some (zM a)] Z=.ok (decide (r.1=a.1)) Z:=by unfold jR;exists 7,B
  have v:pairs ((r::rs).map zM) ((r::rs).map λ_=>MV.int 1)=.tup [zM r,.int 1]::pairs #[rs,9] _:=rfl;by_cases e:r.1=a.1
  .have m:=B8 (S:=Z) p.1 (hv r mF0) #[];rw[dT0 e]at k
   cases z:dC a.2 r.2 []with
   |none=>
    rw[z]at m;have y:xE [some (zM r),#[1,0],some (zM a)] Z=.ok #[[.non,.int 1],6] Z:=by unfold xE;exists 7,i1,m
    obtain⟨out,T,j,g2,A⟩:=ND p rs Z h1 h2 h3 λq i=>hv q (mO _ i);refine⟨.tup [.non,.int 1]::out,T,?_,?_,by rw[lC,lC];lia⟩
    .rw[v];exact vE u k y (st h1 h2) j
    .rw[List.filter_cons,iP (dT0 e),æ,z];exact⟨rfl,g2⟩
   |some G=>
    rw[z]at m;dsimp only at m;have s: ∀{l:Nat}{o:MO},Z[l]? =some o->(Z++[MO.dic G])[l]? =some o:=λh=>by rw[á (gS.mp h).1];exact h
    have y:xE [some (zM r),#[1,0],some (zM a)] Z=.ok #[[.loc Z.length,.int 1],6] (Z++[.dic G]):=by unfold xE;exists 7,i1,m
    obtain⟨out,T,j,g2,A⟩:=ND p rs _ (s h1) (s h2) (by rw[lA];lia) λq i=>hv q (mO _ i);refine⟨.tup [.loc Z.length,.int 1]::out,.dic G::T,?_,?_,by rw[lC,lC];lia⟩
    .rw[v];rw[aA]at j;exact vE u k y (st (s h1) (s h2)) j
    .rw[List.filter_cons,iP (dT0 e),æ,z];rw[aA]at g2;exact⟨⟨_,rfl,h3,by simp⟩,g2⟩
  .rw[dF0 e]at k;obtain⟨out,T,j,g2,A⟩:=ND p rs Z h1 h2 h3 λq i=>hv q (mO _ i);refine⟨out,T,?_,?_,by rw[lC];lia⟩
   .rw[v];exact WO u k (st h1 h2) j
   .rw[List.filter_cons,iN (by simpa using e)];exact g2
theorem TZ{lf:Nat}{all:K1}{Z:Sto}(a:Z[lf]? =#[all,2]): ∀(ws:K1)(gs:List (Option Ev)),FtO Z n 1 ws gs-> ∃out,zX (oR 2 (zC (yD 0) (zC (yD 1) yL))) xF jS [none,none] [(lf,all)] ws Z=.ok out Z/\Fts Z n 1 out (gs.filterMap id)
 |[],[],_=>⟨[],rfl,trivial⟩
 |w::ws,some G::gs,h=>by
  obtain⟨⟨e,rfl,h1,i⟩,c⟩:=h;obtain⟨out,b,g2⟩:=TZ a ws gs c;refine⟨.tup [.loc e,.int 1]::out,?_,⟨e,rfl,h1,i⟩,g2⟩;have d:xF [#[e],#[1,0]] Z=.ok true Z:=by unfold xF;exists 7,show∀Y,IT #[e,1] (.val .non) Y=.ok _ Y from λ_=>rfl
  have j:jS [#[e],#[1,0]] Z=.ok #[[.loc e,.int 1],6] Z:=by unfold jS;exists 7,rfl
  exact vE rfl d j (yW a) b
 |w::ws,none::gs,h=>by
  obtain⟨rfl,c⟩:=h;obtain⟨out,b,g2⟩:=TZ a ws gs c;refine⟨out,?_,g2⟩;have d:xF [some .non,#[1,0]] Z=.ok false Z:=by unfold xF;exists 7,show∀Y,IT (.val .non) (.val .non) Y=.ok _ Y from λ_=>rfl
  exact WO rfl d (yW a) b
 |[],_::_,h=>h.elim
 |_::_,[],h=>h.elim
end
def cC(rows:List Rw)(a:Rw):List Ev:=(rows.filter λr=>decide (r.1=a.1)).filterMap λr=>dC a.2 r.2 []
theorem C5{lm:Nat}{a:Rw}(j:S[lr]? =#[rows.map zM,2])(m:S[lm]? =some (.lst (rows.map λ_=>.int 1)))(u: ∀r∈rows, ∀c∈r.2,VS c)(w:rows.length<=1000)(p:(∀d∈a.2,bZ d)/\a.2.length<=4):
  ∃T ws,zH 3 oA [#[lr,1],#[lm,1],.val (zM a)] S=#[ws,S++T,2]/\Fts (S++T) ↑1 1 ws (cC rows a):=by
 obtain⟨out,T,z,g2,A⟩:=ND p rows S j m (à _) u;have e:Of [#[lr,1],#[lm,1]] S=.ok ⟨pairs #[rows,9] (rows.map λ_=>.int 1),[(lr,rows.map zM),(lm,rows.map λ_=>.int 1)]⟩ S:=by unfold Of srcOf;dsimp only;rw[j,m];rfl
 have b: ∀(rs:List Rw),(pairs #[rs,9] (rs.map λ_=>MV.int 1)).length=rs.length:=λrs=>by
  induction rs with
  |nil=>rfl
  |cons r rs ih=>show(pairs #[rs,9] _).length+1=_;rw[ih];rfl
 have q:lE [#[lr],#[lm],some (zM a),none] S=#[[#[lr],#[lm],some (zM a),#[(S++T).length]],S++T++[.lst out],0]:=by unfold lE;simp? [e,b,show rows.length<1000000 by lia];rw[show rW 2 [2] [#[lr],#[lm],some (zM a),none]=[none,none,some (zM a)]from rfl,z];simp? []
 have k:=zG (S++T) (.lst out);obtain⟨ws,v,h⟩:=TZ k out _ (FtO.grow g2);have y:lF [#[lr],#[lm],some (zM a),#[(S++T).length]] (S++T++[.lst out])=.ok (.ret (.new ws)) (S++T++[.lst out]):=by unfold lF;simp? [wM k,show out.length<1000000 by lia];rw[show rW 2 [] [#[lr],#[lm],some (zM a),some _]=[none,none]from rfl,v];simp? []
 have i:((rows.filter λr=>decide (r.1=a.1)).map λr=>dC a.2 r.2 []).filterMap id=cC rows a:=by unfold cC;rw[List.filterMap_map];rfl
 rw[i]at h;obtain⟨n,o,s⟩:=JO (F:=oA) (rs:=[#[lr,1],#[lm,1],.val (zM a)]) rfl (by show yA (rO [#[lr],#[lm],some (zM a),none] S)=_;unfold rO;rw[zD q,y,aA];rfl);refine⟨n,ws,o,?_⟩;rcases s with rfl|⟨rfl,hlo⟩
 .rw[<-aA];exact h
 .exact h.cut hlo (à _)
mutual
theorem WV: ∀{d:MV},pd d=true-> ∃a,xD d=some a/\lV a<=uZ d
 |.int i,_=>⟨_,fH i,by rw[lV];exact zero_le _⟩
 |.str x,_=>⟨_,fI x,by rw[lV];exact zero_le _⟩
 |.tup ds,h=>by obtain⟨b,h1,c⟩:=QM (by rw[<-xQ];exact h:RK ds=true);exact⟨.tup b,by rw[fM,h1];rfl,by rw[eZ,gD];omega⟩
 |.non,h=>by rw[pd]at h<;>first |cases h|(intros;simp)
 |.bl _,h=>by rw[pd]at h<;>first |cases h|(intros;simp)
 |.scr _,h=>by rw[pd]at h<;>first |cases h|(intros;simp)
 |.loc _,h=>by rw[pd]at h<;>first |cases h|(intros;simp)
 |.typ _,h=>by rw[pd]at h<;>first |cases h|(intros;simp)
 |.obj _ _ _,h=>by rw[pd]at h<;>first |cases h|(intros;simp)
theorem QM: ∀{ds:K1},RK ds=true-> ∃a,jH ds=some a/\sE a<=BC ds
 |[],_=>⟨[],rM,by rw[sE];exact zero_le _⟩
 |d::ds,h=>by rw[yB,aE]at h;obtain⟨k,h1,e⟩:=WV h.1;obtain⟨a,b,c⟩:=QM h.2;exact⟨k::a,by rw[fN,h1,b];rfl,by rw[tE,yO];omega⟩
end
theorem GE{k:K1}(h: ∀d∈k,VS d):keyOk (.tup k)=true:=by
 have h1:pd (.tup k)=true:=by rw[xQ];exact bX λd hd=>(rC (h d hd)).1
 have j:=vC λc e=>by rcases h c e with⟨i,rfl⟩|⟨i,rfl⟩;exact le_of_eq (pM _);exact le_of_eq (lO _)
 obtain⟨m,b,a⟩:=WV h1;rw[gD]at a;unfold keyOk;rw[b];show(tH _&&decide _)=true;rw[dT0 #[]];rfl
noncomputable def kd(P:K7):Ev:=P.map λk=>(.tup k,.int 1)
open Classical in
def QN(P:K7)(k:K1):List (List MV):=if k∈P then P else P++[k]
def Mx(P:K7)(k j:K1):j∈QN P k↔j∈P\/j=k:=by
 unfold QN;split
 .rename_i h;exact⟨.inl,λz=>z.elim id λe=>e▸h⟩
 .rw[é,mS]
def Vu{P:K7}(h:P.Nodup)(k:K1):(QN P k).Nodup:=by
 unfold QN;split
 .exact h
 .rename_i e;exact į.mpr ⟨h,by simp,λa d b c=>by rw[mS.mp c];rintro rfl;exact e d⟩
theorem NF(P:K7)(k:K1):(QN P k).length<=P.length+1:=by
 unfold QN;split
 .lia
 .rw[lA,lS];lia
def WW(P:K7)(k:K1):look (kd P) (.tup k)=if k∈P then #[1,0]else none:=by
 induction P with
 |nil=>rfl
 |cons j P ih=>
  show look (_::kd P) _=_;rw[yY,ih];by_cases e:j=k
  .subst e;rw[iP rfl,iP mF0]
  .rw[iN (λz=>e (MV.tup.inj z))];by_cases h:k∈P
   .rw[iP h,iP (mO _ h)]
   .rw[iN h,iN λz=>(mC.mp z).elim (λz=>e z.symm) h]
theorem Vv(P:K7)(k:K1):putK (kd P) (.tup k) (.int 1)=kd (QN P k):=by
 unfold putK QN;rw[WW];by_cases h:k∈P
 .rw[iP h,iP (show(some _).isSome=true from rfl),iP h];unfold kd;rw[ĕ];refine Ģ λj _=>?_;show(if MV.tup j=.tup k then(MV.tup j,MV.int 1)else _)=_;split<;>rfl
 .rw[iN h,iN h];unfold kd;rw[ï];rfl
theorem Fe{l:Nat}{P:K7}(h:S[l]? =#[kd P,7]):cF S #[l,1]=some (l,kd P):=by unfold cF;dsimp only;rw[h];dsimp only;rw[iP];rw[ą];intro p a;obtain⟨r,b,rfl⟩:=mM.mp a;rfl
def kW(xs:Ch)(G:Ev):List MV:=xs.map (rZ G)
def WX(xs:Ch)(Gs:List Ev)(P:K7):List (List MV):=Gs.foldl (λP G=>QN P (kW xs G)) P
def Has(xs:Ch)(G:Ev):Prop:=tY G/\ ∀x∈xs,look G (.str x)≠none
def Has.vs{G:Ev}(h:Has xs G): ∀d∈kW xs G,VS d:=λd hd=>by
 obtain⟨x,a,rfl⟩:=mM.mp hd
 cases z:look G _ with
 |none=>exact absurd z (h.2 x a)
 |some c=>rw[iQ z];exact NA h.1 z
noncomputable abbrev CU(lf:Nat)(m:MV)(n:Nat)(a b c:K2):Rho:=[#[lf],some m,#[n],a,b,c]
section
variable{B:Sto}{lf n0:Nat}{m:MV}{all:K1}{xs:Ch}
theorem WY(q:B[lf]? =#[all,2])(A:SqM B m #[xs,8])(C:xs.length<1000): ∀(ws:K1)(Gs:List Ev)(P:K7)(a b c:K2),Fts B n0 1 ws Gs->(∀G∈Gs,Has xs G)->P.length+Gs.length<100000->
  ∃v u r,wK (oR 2 (zC (yD 3) (zC (yD 4) yL))) DH [(lf,all)] ws (CU lf m B.length a b c) (B++[.dic (kd P)])=#[CU lf m B.length v u r,B++[.dic (kd (WX xs Gs P))],0]
 |[],[],P,a,b,c,_,_,_=>⟨a,b,c,rfl⟩
 |w::ws,G::Gs,P,a,b,c,y,hG,hl=>by
  rw[lC]at hl;obtain⟨⟨e,rfl,_,D⟩,y⟩:=y;have j:=hG G mF0;obtain⟨Z,i⟩: ∃Z,Z=B++[MO.dic (kd P)]:=⟨_,rfl⟩
  have I: ∀{l:Nat}{o:MO},B[l]? =some o->Z[l]? =some o:=λh=>by rw[i,á (gS.mp h).1];exact h
  have hd:Z[B.length]? =#[kd P,7]:=by rw[i];exact zG _ _
  have p:=WU (I D) j.1 (by rw[i];exact A.app) j.2 C;have d:=Fe hd
  have z:uV #[B.length,1] [#[kW xs G,6],#[0,5]] Z=.ok #[if kW xs G∈P then 1 else 0,5] Z:=by
   unfold uV;dsimp only;rw[d];dsimp only;rw[iP (GE j.vs),WW];by_cases h:kW xs G∈P
   .rw[iP h,iP h]
   .rw[iN h,iN h]
  have s: ∀Y,Vc #[if kW xs G∈P then 1 else 0,5] #[1,5] Y=.ok #[1,5] Y:=λY=>by split<;>rfl
  have k: ∀ρ,IY #[B.length,1] #[kW xs G,6] (.int 1) ρ Z=.ok ρ _:=λρ=>by unfold IY;dsimp only;rw[d];dsimp only;rw[iP ⟨GE j.vs,by unfold kd;rw[lM];lia⟩,Vv,i,cA]
  have n:qS #[B.length,1] Z=true:=by unfold qS;rw[d];rfl
  have H:rP (CU lf m B.length #[e] #[1,0] c) Z=#[CU lf m B.length #[e] #[1,0] #[kW xs G,3],Z,0]:=by unfold rP;exists 7,p
  have L:rQ (CU lf m B.length #[e] #[1,0] #[kW xs G,3]) Z=#[CU lf m B.length #[e] #[1,0] #[kW xs G,3],B++[.dic (kd (QN P (kW xs G)))],0]:=by unfold rQ;exists 7,n,z,s,ML,k
  have E:=NF P (kW xs G);obtain⟨v,u,r,F⟩:=WY q A C ws Gs (QN P (kW xs G)) #[e] #[1,0] #[kW xs G,3] y (λK J=>hG K (mO _ J)) #[];refine⟨v,u,r,?_⟩;rw[<-i,yH (show oR 2 _ (.tup [.loc e,.int 1]) (CU lf m B.length a b c) Z=.ok (CU lf m B.length #[e] #[1,0] c) Z from rfl) (by unfold DH;rw[zD H,L]) (yW (by rw[á (gS.mp q).1];exact q))];exact F
 |[],_::_,_,_,_,_,h,_,_=>h.elim
 |_::_,[],_,_,_,_,h,_,_=>h.elim
end
noncomputable def dD(xs:Ch)(k:K1):Ev:=(xs.map MV.str).zip k
theorem QO: ∀(ps a:Ev),((a++ps).map (·.1)).Nodup->ps.foldl (λa p=>putK a p.1 p.2) a=a++ps
 |[],a,_=>by rw[aN];rfl
 |p::ps,a,h=>by
  have c:look a p.1=none:=by
   cases z:look a p.1 with
   |none=>rfl
   |some d=>
    obtain⟨q,b,e⟩:=Ez z;rw[ï,į]at h;exact absurd e (h.2.2 q.1 (ģ b) p.1 (by rw[æ];exact mF0))
  rw[Ŀ,GB c,QO ps _ (by rw[aA];exact h),aA];rfl
def Vx(h:xs.Nodup): ∀k:List MV,((dD xs k).map (·.1)).Nodup:=λk=>by
 have c:(xs.map MV.str).Nodup:=by unfold List.Nodup at h ⊢;rw[pairwise_map];exact h.imp λne e=>ne (MV.str.inj e)
 have: ∀(as bs:K1),as.Nodup->((as.zip bs).map (·.1)).Nodup:=λas=>by
  induction as with
  |nil=>intro bs _;simp
  |cons a as ih=>
   intro bs c
   cases bs with
   |nil=>simp
   |cons b bs=>
    rw[nodup_cons]at c;rw[Ĳ,æ,nodup_cons];refine⟨λz=>c.1 ?_,ih bs c.2⟩;obtain⟨p,d,e⟩:=mM.mp z;have:=(of_mem_zip d).1;rw[e]at this;exact this
 exact this _ k c
def C6{k:K1}(h:SqM Z m #[xs,8])(c:xs.Nodup):Lx [.val m,#[k,6]] Z=.ok #[Z.length,1] (Z++[.dic (dD xs k)]):=by
 have b:(xs.map MV.str).all tP=true:=by rw[ą];intro d hd;obtain⟨x,_,rfl⟩:=mM.mp hd;rfl
 have a:Og ((xs.map MV.str).zip k)=dD xs k:=by have:=QO _ [] (by rw[İ];exact Vx c k);exact this
 unfold Lx;rcases h with rfl|⟨l,rfl,hl⟩
 .show(if(xs.map MV.str).all tP=true then R.ok _ _ else .no)=_;rw[iP b,a]
 .have e:srcOf Z #[l,1]=some ⟨true,xs.map MV.str,[(l,xs.map MV.str)]⟩:=by unfold srcOf;dsimp only;rw[hl]
  dsimp only;rw[e];show(if(xs.map MV.str).all tP=true then R.ok _ _ else .no)=_;rw[iP b,a]
theorem QP{m:MV}{xs:Ch}{n:Nat}(b:xs.Nodup): ∀(P:K7)(Z:Sto),SqM Z m #[xs,8]->n<=Z.length-> ∃out T,zX (oR 2 (zC (yD 0) (zC (yD 1) yL))) AW oB [none,none,some m] [] ((kd P).map λa=>.tup [a.1,a.2]) Z=.ok out (Z++T)/\Fts (Z++T) n 1 out (P.map (dD xs))
 |[],Z,_,_=>⟨[],[],by rw[aN];rfl,trivial⟩
 |k::P,Z,hm,hl=>by
  have d:oB [#[k,3],#[1,0],some m] Z=.ok #[[.loc Z.length,.int 1],6] (Z++[.dic (dD xs k)]):=by unfold oB;exists 7,C6 hm b
  obtain⟨out,T,c,g2⟩:=QP (n:=n) b P (Z++[.dic _]) hm.app (by rw[lA];lia);refine⟨.tup [.loc Z.length,.int 1]::out,.dic (dD xs k)::T,?_,⟨_,rfl,hl,by simp⟩,by rw[aA]at g2;exact g2⟩;rw[aA]at c;exact vE rfl rfl d (gP _) c
def qD(xs:Ch)(Gs:List Ev):List Ev:=(WX xs Gs []).map (dD xs)
theorem C7{lf n0:Nat}{ws:K1}(e:B[lf]? =#[ws,2])(p:SqM B m #[xs,8])(y:xs.length<1000)(v:xs.Nodup)(w:Fts B n0 1 ws Gs)(r: ∀G∈Gs,Has xs G)(A:Gs.length<10000):
  ∃out T,JL [.loc lf,m] B=#[out,B++T,2]/\Fts (B++T) B.length 1 out (qD xs Gs):=by
 have u:DI [#[lf],some m,none,none,none,none] B=#[CU lf m B.length none none none,B++[.dic (kd [])],0]:=by unfold DI;exists 7,ES
 obtain⟨a,b,c,h⟩:=WY e p y ws Gs [] none none none w r (by simp only[ÿ];lia);have i:(B++[MO.dic (kd [])])[lf]? =#[ws,2]:=by rw[á (gS.mp e).1];exact e
 have k:DL (CU lf m B.length none none none) (B++[.dic (kd [])])=#[CU lf m B.length a b c,B++[.dic (kd (WX xs Gs []))],0]:=by unfold DL;exists 7,wM i,h
 obtain⟨P,j⟩: ∃P,P=WX xs Gs []:=⟨_,rfl⟩
 rw[<-j]at k
 have q:P.length<=Gs.length:=by
  rw[j]
  have: ∀(Gs:List Ev)(P:K7),(WX xs Gs P).length<=P.length+Gs.length:=λGs=>by
   induction Gs with
   |nil=>intro P;exact à _
   |cons G Gs ih=>
    intro P;have h1:=ih (QN P (kW xs G));have C:=NF P (kW xs G);show(WX xs Gs (QN P (kW xs G))).length<=_;rw[lC]
    lia
  have:=this Gs [];rw[ÿ]at this
  lia
 have d:ZL #[B.length,1] (B++[.dic (kd P)])=.ok ⟨(kd P).map λo=>.tup [o.1,o.2],[]⟩ (B++[.fdc (kd P)]):=by unfold ZL;rw[Fe (zG B (.dic (kd P)))];dsimp only;rw[cA]
 obtain⟨out,T,z,g2⟩:=QP (n:=B.length) v P (B++[.fdc (kd P)]) p.app (by simp);refine⟨out,_,?_,by rw[qD, <-j];rw[aA]at g2;exact g2⟩;have s:DM (CU lf m B.length a b c) (B++[.dic (kd P)])=.ok (.ret (.new out)) (B++.fdc (kd P)::T):=by unfold DM;simp? [d,lM,show(kd P).length<1000000 by unfold kd;rw[lM];lia];rw[show rW 2 [1] _=[none,none,some m]from rfl,z];simp? [];rw[aA];rfl
 show yA (WH [#[lf],some m,none,none,none,none] B)=_;unfold WH;rw[zD u,zD k,s];rfl
def Vy{l m:Nat}{F:Ev}(h:S[l]? =#[E,7])(b:tY E)(h':S[m]? =#[F,7])(c:tY F)(a:l≠m)(hz:E.length+F.length<1000000):FE #[l,1] [#[m,1]] S=#[.non,S.set l (.dic (kE E F)),1]:=by unfold FE;dsimp only;rw[GC h b,GC h' c];dsimp only;rw[iP ⟨a,hz⟩]
abbrev OD:=MV×Ev
open Classical in
def WZ(xs:Ch)(Ds:List OD)(k:K1):List OD:=Ds.filter λD=>decide (kW xs D.2=k)
def oI(xs:Ch)(Ds:List OD)(D:OD)(k:K1):WZ xs (Ds++[D]) k=if kW xs D.2=k then WZ xs Ds k++[D]else WZ xs Ds k:=by
 unfold WZ;rw[List.filter_append,List.filter_cons];by_cases e:kW xs D.2=k
 .rw[iP (dT0 e),iP e];rfl
 .rw[iN (by simpa using e),iN e,List.filter_nil,aN]
structure JI(B:Sto)(xs:Ch)(Ds:List OD)(bd:Ev)(Z:Sto):Prop where
 ex: ∃T,Z=B++.dic bd::T
 at': ∀k d,look bd (.tup k)=some d-> ∃l,d=.loc l/\B.length<l/\Z[l]? =#[(WZ xs Ds k).map (·.1),2]
 no: ∀k,look bd (.tup k)=none->WZ xs Ds k=[]
 inj: ∀k k' l,look bd (.tup k)=#[l]->look bd (.tup k')=#[l]->k=k'
 tk:bd.all (λp=>tH p.1)=true
 ln:bd.length<=Ds.length
section
variable{B Z:Sto}{xs:Ch}{Ds:List OD}{bd:Ev}
def JI.dic(J:JI B xs Ds bd Z):cF Z #[B.length,1]=some (B.length,bd):=by obtain⟨T,rfl⟩:=J.ex;unfold cF;dsimp only;rw[mT];dsimp only;rw[iP J.tk]
def JI.old(J:JI B xs Ds bd Z){l:Nat}(h:B[l]? =some o):Z[l]? =some o:=by obtain⟨T,rfl⟩:=J.ex;rw[á (gS.mp h).1];exact h
theorem JI.put(J:JI B xs Ds bd Z)(D:OD)(Q: ∀d∈kW xs D.2,VS d)(Y:Ds.length<10000):
  ∃L U l Z1 ds,Wt #[B.length,1] [#[kW xs D.2,6],.new []] Z=.ok #[l,1] Z1/\Z1[l]? =#[ds,2]/\ds.length<=Ds.length/\Z1.set l (.lst (ds++[D.1]))=U/\JI B xs (Ds++[D]) L U:=by
 obtain⟨k,b⟩: ∃k,k=kW xs D.2:=⟨_,rfl⟩
 have E:keyOk (.tup k)=true:=by rw[b];exact GE Q
 have W:=J;obtain⟨T,u⟩:=J.ex;have O:kC (.new []) Z=.ok (.loc Z.length) (Z++[.lst []]):=rfl;have M:cF (Z++[.lst []]) #[B.length,1]=some (B.length,bd):=by unfold cF;dsimp only;rw[u,aA,Ğ,mT];dsimp only;rw[iP J.tk]
 have X:=J.ln;have c:Wt #[B.length,1] [#[k,6],.new []] Z=match look bd (.tup k)with |some d=>#[d,Z++[.lst []],1]|none=>.ok #[Z.length,1] ((Z++[MO.lst []]).set B.length (.dic (putK bd (.tup k) (.loc Z.length)))):=by unfold Wt;dsimp only;rw[O,gV];unfold Zm;rw[M];dsimp only;refine(iP ⟨E,by lia⟩).trans ?_;cases look bd (.tup k)<;>rfl
 have m: ∀{j:Nat}{o:MO},Z[j]? =some o->j<Z.length:=λh=>(gS.mp h).1;have y: ∀j,(WZ xs Ds j).length<=Ds.length:=λj=>ċ _ _;rw[<-b]
 cases z:look bd (.tup k)with
 |some d=>
  rw[z]at c;obtain⟨l,rfl,h1,H⟩:=J.at' k d z;have F:=m H;refine⟨bd,_,l,_,_,c,by rw[á F];exact H,by rw[lM];exact y k,rfl,?_,λj d a=>?_,λj a=>?_,J.inj,J.tk,by rw[lA];lia⟩
  .refine⟨(T++[MO.lst []]).set (l - B.length - 1) (.lst ((WZ xs Ds k).map (·.1)++[D.1])),?_⟩;rw[u,aA,Ġ _ _ #[],Ğ,show l - B.length=(l - B.length - 1)+1 by lia,set_cons_succ];rfl
  .obtain⟨v,rfl,C,g2⟩:=J.at' j d a;refine⟨v,rfl,C,?_⟩;by_cases e:j=k
   .subst e;rw[z]at a;cases a;rw[get_set (by rw[á F];exact H),oI,iP b.symm,ï];rfl
   .have P:l≠v:=λq=>e (J.inj j k v a (q▸z));rw[tQ P,á (m g2),g2,oI,iN (λq=>e (q.symm.trans b.symm))]
  .rw[oI,iN (λq=>by rw[<-b]at q;rw[<-q,z]at a;cases a)];exact J.no j a
 |none=>
  rw[z]at c;dsimp only at c;have G:putK bd (.tup k) (.loc Z.length)=bd++[(.tup k,.loc Z.length)]:=GB z;have K:B.length<Z.length:=by rw[u];simp
  have w: ∀q,(Z++[MO.lst []]).set B.length q=B++q::(T++[MO.lst []]):=λq=>by rw[u,aA,Ğ,Ġ _ _ (à _),sub_self];rfl
  rw[G,w]at c;have s:Z.length=B.length+(T.length+1):=by rw[u,lA,lC]
  have I:(B++MO.dic (bd++[(.tup k,.loc Z.length)])::(T++[.lst []]))[Z.length]? =#[[],2]:=by rw[s,å #[],show B.length+(T.length+1) - B.length=T.length+1 by lia,Ė,zG]
  have p:(B++MO.dic (bd++[(.tup k,.loc Z.length)])::(T++[.lst []])).set Z.length (.lst ([]++[D.1]))=B++.dic (bd++[(.tup k,.loc Z.length)])::(T++[.lst [D.1]]):=by rw[s,Ġ _ _ #[],show B.length+(T.length+1) - B.length=T.length+1 by lia,set_cons_succ,cA];rfl
  have n: ∀j,look (bd++[(MV.tup k,MV.loc Z.length)]) (.tup j)=(look bd (.tup j)).or (if k=j then #[Z.length]else none):=λj=>by
   rw[eX];congr 1;by_cases e:k=j
   .rw[iP e,iP (by rw[e])]
   .rw[iN e,iN λq=>e (MV.tup.inj q)]
  have r: ∀{j:Nat}{o:MO},Z[j]? =some o->B.length<j->(B++MO.dic (bd++[(.tup k,.loc Z.length)])::(T++[.lst [D.1]]))[j]? =some o:=λ{j o} h a=>by have:=m h;rw[u,å #[],show j - B.length=(j - B.length - 1)+1 by lia,Ė]at h;rw[å #[],show j - B.length=(j - B.length - 1)+1 by lia,Ė,á (gS.mp h).1];exact h
  refine⟨_,_,Z.length,_,[],c,I,zero_le _,p,⟨_,rfl⟩,λj d a=>?_,λj a=>?_,λj S l h1 H=>?_,by rw[List.all_append,J.tk];rfl,by rw[lA,lA];simp;lia⟩
  .rw[n]at a
   cases A:look bd (.tup j)with
   |some d'=>
    rw[A]at a;cases a;obtain⟨v,rfl,C,g2⟩:=J.at' j _ A;have N: ¬k=j:=λq=>by rw[q,A]at z;cases z
    refine⟨v,rfl,C,?_⟩;rw[r g2 C,oI,iN (by rw[<-b];exact N)]
   |none=>
    rw[A,Option.none_or]at a;by_cases e:k=j
    .rw[iP e]at a;cases a;refine⟨_,rfl,K,?_⟩;rw[oI,iP (by rw[<-b];exact e),J.no j A,s,å #[],show B.length+(T.length+1) - B.length=T.length+1 by lia,Ė,zG];rfl
    .rw[iN e]at a;cases a
  .rw[n]at a;rw[oI, <-b,iN (λe=>by grind)];exact J.no j (by grind)
  .rw[n]at h1 H;have lt: ∀{i:K1},look bd (.tup i)=#[l]->l<Z.length:=λh=>by obtain⟨v,e,C,g2⟩:=J.at' _ _ h;cases e;exact m g2
   have:=J.inj j S l;have:=@lt j;have:=@lt S;clear lt m J W Q E I p r c w n y
   grind
end
theorem Fts.move{d:Sto}{n:Nat}{mk:Int}(k: ∀(e:Nat)(G:Ev),Z[e]? =some (MO.dic G)->d[e]? =some (MO.dic G)): ∀{ws:K1}{gs:List Ev},Fts Z n mk ws gs->Fts d n mk ws gs
 |[],[],_=>trivial
 |w::ws,G::gs,h=>⟨let ⟨e,a,b,c⟩:=h.1;⟨e,a,b,k e G c⟩,Fts.move k h.2⟩
 |[],_::_,h=>h.elim
 |_::_,[],h=>h.elim
theorem Fts.snoc{n:Nat}{mk:Int}{e:Nat}{G:Ev}(h1:n<=e)(a:Z[e]? =#[G,7]): ∀{ws:K1}{gs:List Ev},Fts Z n mk ws gs->Fts Z n mk (ws++[.tup [.loc e,.int mk]]) (gs++[G])
 |[],[],_=>⟨⟨e,rfl,h1,a⟩,trivial⟩
 |w::ws,G::gs,h=>⟨h.1,Fts.snoc h1 a h.2⟩
 |[],_::_,h=>h.elim
 |_::_,[],h=>h.elim
noncomputable abbrev JP(lf lo':Nat)(m:MV)(n:Nat)(a b:K2)(t v k c:K2):Rho:=[#[lf],#[lo'],some m,#[n],a,b,t,v,k,c]
section
variable{B:Sto}{lf lo' n0:Nat}{m:MV}{all:K1}{xs:Ch}
theorem Ff(y:B[lo']? =#[all,2])(v:SqM B m #[xs,8])(z:xs.length<1000): ∀(ws:K1)(d:List Ev)(Ds:List OD)(bd:Ev)(Z:Sto)(a b:K2),Fts B n0 1 ws d->(∀M∈d,Has xs M)->JI B xs Ds bd Z->Ds.length+d.length<10000->
  ∃c j F E,JI B xs (Ds++ws.zip d) c j/\wK (oR 2 (zC (yD 4) (zC (yD 5) yL))) fV [(lo',all)] ws (JP lf lo' m B.length a b none none none none) Z=#[JP lf lo' m B.length F E none none none none,j,0]
 |[],[],Ds,bd,Z,a,b,_,_,J,_=>⟨bd,Z,a,b,by rw[zip_nil_left,aN];exact J,rfl⟩
 |w::ws,M::d,Ds,bd,Z,a,b,q,hM,J,hl=>by
  rw[lC]at hl;obtain⟨⟨e,rfl,_,G⟩,q⟩:=q;have r:=hM M mF0
  have p:SqM Z m #[xs,8]:=by
   rcases v with h|⟨l,h,h'⟩
   .exact .inl h
   .exact .inr ⟨l,h,J.old h'⟩
  have n:=WU (J.old G) r.1 p r.2 z;obtain⟨c,j,l,Z1,ds,p1,p2,O,C,u⟩:=J.put (.tup [.loc e,.int 1],M) r.vs #[];have k:qS #[B.length,1] Z=true:=by unfold qS;rw[J.dic];rfl
  have i:zH 2 yG [.val _,.val m] Z=.ok #[kW xs M,6] Z:=n;have A:fV (JP lf lo' m B.length #[e] #[1,0] none none none none) Z=#[JP lf lo' m B.length #[e] #[1,0] none none none none,j,0]:=by unfold fV oZ;simp? [k,i,p1,xL p2,tup2,wZ p2 #[]];rw[C]
  obtain⟨o,I,H,D,s,N⟩:=Ff y v z ws d _ c j _ _ q (λK L=>hM K (mO _ L)) u (by rw[lA,lS];lia);refine⟨o,I,H,D,by rw[aA]at s;exact s,?_⟩;rw[yH rfl A (yW (u.old y))];exact N
 |[],_::_,_,_,_,_,_,h,_,_,_=>h.elim
 |_::_,[],_,_,_,_,_,h,_,_,_=>h.elim
end
section
variable{Z1:Sto}{lf lo' nb eG:Nat}{m:MV}{mg:Int}{G:Ev}
theorem Om(hG:Z1[eG]? =#[G,7])(n:tY G)(M:G.length<=1000)(d: ∀Y,BP #[mg,5] #[1,5] Y=.ok #[1,5] Y){gs:K5}(w: ∀q∈gs,Z1[q.1]? =#[q.2,2]): ∀(s:List OD)(ws:K1)(u:List Ev)(T:Sto)(a b c:K2),(∀D∈s, ∃e,D.1=.tup [.loc e,.int 1]/\Z1[e]? =#[D.2,7]/\tY D.2/\D.2.length<=1000)->Fts (Z1++.lst ws::T) Z1.length 1 ws u->ws.length+s.length<100000->
  ∃k B P O L,Fts (Z1++.lst k::B) Z1.length 1 k (u++s.map λD=>kE G D.2)/\k.length=ws.length+s.length/\wK (oR 2 (zC (yD 4) (zC (yD 5) yL))) fW gs (s.map (·.1)) (JP lf lo' m nb a b #[Z1.length] #[eG] #[mg,0] c) (Z1++.lst ws::T)=#[JP lf lo' m nb P O #[Z1.length] #[eG] #[mg,0] L,(Z1++.lst k::B),0]
 |[],ws,u,T,a,b,c,_,hF,_=>⟨ws,T,a,b,c,by rw[List.map_nil,aN];exact hF,rfl,rfl⟩
 |D::s,ws,u,T,a,b,c,hD,hF,hl=>by
  rw[lC]at hl;obtain⟨e,he,hM,S,ae⟩:=hD D mF0;obtain⟨Z,A⟩: ∃Z,Z=Z1++MO.lst ws::T:=⟨_,rfl⟩
  have X: ∀{U:Sto}{l:Nat}{o:MO},Z1[l]? =some o->(Z1++U)[l]? =some o:=λh=>by rw[á (gS.mp h).1];exact h
  obtain⟨N,hN⟩: ∃N,N=Z.length:=⟨_,rfl⟩
  have v:N=Z1.length+(T.length+1):=by rw[hN,A,lA,lC]
  have J:N≠e:=by have:=(gS.mp hM).1;lia
  have Q:Z++[MO.dic G]=Z1++.lst ws::(T++[.dic G]):=by rw[A,aA];rfl
  have r: ∀(vs:K1)(E:Ev),(Z1++MO.lst vs::(T++[.dic E]))[N]? =#[E,7]:=λvs E=>by rw[v,å #[],show Z1.length+(T.length+1) - Z1.length=T.length+1 by lia,Ė,zG]
  have ab: ∀(vs:K1)(E I:Ev),(Z1++MO.lst vs::(T++[.dic E])).set N (.dic I)=Z1++MO.lst vs::(T++[.dic I]):=λvs E I=>by rw[v,Ġ _ _ #[],show Z1.length+(T.length+1) - Z1.length=T.length+1 by lia,set_cons_succ,cA]
  have y:TB [#[eG,1]] Z=.ok #[N,1] (Z1++.lst ws::(T++[.dic G])):=by rw[Vs (by rw[A];exact X hG) n,Q,hN]
  have C:FE #[N,1] [#[e,1]] (Z1++.lst ws::(T++[.dic G]))=#[.non,(Z1++.lst ws::(T++[.dic (kE G D.2)])),1]:=by rw[Vy (r ws G) n (X hM) S J #[],ab]
  have W:SZ #[N,1] (Z1++.lst ws::(T++[.dic G]))=true:=NB (r ws G) n;have z: ∀(vs:K1)(U:Sto),(Z1++MO.lst vs::U)[Z1.length]? =#[vs,2]:=λvs U=>mT _ _ _;have H:mY #[Z1.length,1] [#[[.loc N,.int 1],6]] (Z1++.lst ws::(T++[.dic (kE G D.2)]))=#[.non,(Z1++.lst (ws++[.tup [.loc N,.int 1]])::(T++[.dic (kE G D.2)])),1]:=by rw[wZ (z _ _) (show ws.length<1000000 by lia),WM]
  have hb:fW (JP lf lo' m nb #[e] #[1,0] #[Z1.length] #[eG] #[mg,0] c) Z=#[JP lf lo' m nb #[e] #[1,0] #[Z1.length] #[eG] #[mg,0] #[N],(Z1++.lst (ws++[.tup [.loc N,.int 1]])::(T++[.dic (kE G D.2)])),0]:=by unfold fW pC;unfold iJ;rw[show bJ (dJ BP (vJ 8) (vJ 5)) EL (JP lf lo' m nb #[e] #[1,0] #[Z1.length] #[eG] #[mg,0] c) Z=.ok true Z by simp? [d];rfl,gV,iP rfl];rw[zD (F:=CJ _ 9) (S':=Z1++.lst ws::(T++[.dic G])) (by exists 7,y)];rw[zD (F:=BJ _) (S':=Z1++.lst ws::(T++[.dic (kE G D.2)])) (by exists 7,W,C)];exists 7,xL (z ws (T++[.dic (kE G D.2)])),d,H
  have aa:Fts (Z1++.lst (ws++[.tup [.loc N,.int 1]])::(T++[.dic (kE G D.2)])) Z1.length 1 (ws++[.tup [.loc N,.int 1]]) (u++[kE G D.2]):=by
   refine Fts.snoc #[] (r _ _) (hF.move λj E p=>?_);by_cases e1:j<Z1.length
   .rw[á e1]at p ⊢; exact p
   .rw[å #[]]at p ⊢
    cases q:j - Z1.length with
    |zero=>rw[q]at p;cases p
    |succ i=>
     rw[q,Ė]at p;rw[Ė,á (gS.mp p).1];exact p
  obtain⟨k,B,P,O,L,g1,g2,g3⟩:=Om hG n M d w s (ws++[.tup [.loc N,.int 1]]) (u++[kE G D.2]) (T++[.dic (kE G D.2)]) #[e] #[1,0] #[N] (λq K=>hD q (mO _ K)) aa (by rw[lA,lS];lia);refine⟨k,B,P,O,L,by rw[aA]at g1;exact g1,by rw[g2,lA,lS,lC];lia,?_⟩;rw[æ,he, <-A,yH rfl hb (λq K=>X (w q K))];exact g3
end
def joinM(xs:Ch)(Gs:List Ev)(Ds:List OD):List Ev:=Gs.flatMap λG=>(WZ xs Ds (kW xs G)).map λD=>kE G D.2
section
variable{B Z1:Sto}{lf lo' n0:Nat}{m:MV}{mg:Int}{all:K1}{xs:Ch}{Ds:List OD}{bd:Ev}
theorem Fg(J:JI B xs Ds bd Z1)(p: ∀D∈Ds, ∃e,D.1=.tup [.loc e,.int 1]/\B[e]? =#[D.2,7]/\tY D.2/\D.2.length<=1000)(I:Ds.length<=1000)(N:B[lf]? =#[all,2])(X:SqM B m #[xs,8])(hx:xs.length<1000)(i: ∀Y,BP #[mg,5] #[1,5] Y=.ok #[1,5] Y):
  ∀(ws:K1)(Gs:List Ev),Fts B n0 mg ws Gs->(∀G∈Gs,Has xs G/\G.length<=1000)-> ∀(ts:K1)(n:List Ev)(T:Sto)(a b v k c:K2),Fts (Z1++.lst ts::T) Z1.length 1 ts n->ts.length+Ds.length * Gs.length<50000->
  ∃j T' a' b' v' k' c',Fts (Z1++.lst j::T') Z1.length 1 j (n++joinM xs Gs Ds)/\wK (oR 2 (zC (yD 7) (zC (yD 8) yL))) fX [(lf,all)] ws (JP lf lo' m B.length a b #[Z1.length] v k c) (Z1++.lst ts::T)=#[JP lf lo' m B.length a' b' #[Z1.length] v' k' c',(Z1++.lst j::T'),0]
 |[],[],_,_,ts,n,T,a,b,v,k,c,hF,_=>⟨ts,T,a,b,v,k,c,by show Fts _ _ _ _ (n++[]);rw[aN];exact hF,rfl⟩
 |w::ws,G::Gs,L,hG,ts,n,T,a,b,v,k,c,hF,hl=>by
  rw[lC,Nat.mul_succ]at hl;obtain⟨⟨e,rfl,_,he⟩,L⟩:=L;obtain⟨C,O⟩:=hG G mF0;obtain⟨Z,E⟩: ∃Z,Z=Z1++MO.lst ts::T:=⟨_,rfl⟩
  have A: ∀{l:Nat}{o:MO},Z1[l]? =some o->Z[l]? =some o:=λh=>by rw[E,á (gS.mp h).1];exact h
  have P:SqM Z m #[xs,8]:=by
   rcases X with h|⟨l,h,h'⟩
   .exact .inl h
   .exact .inr ⟨l,h,A (J.old h')⟩
  have H:zH 2 yG [#[e,1],.val m] Z=.ok #[kW xs G,6] Z:=WU (A (J.old he)) C.1 P C.2 hx;have u:Z[B.length]? =#[bd,7]:=by refine A ?_;obtain⟨T0,h0⟩:=J.ex;rw[h0];exact mT _ _ _
  have s:cF Z #[B.length,1]=some (B.length,bd):=by unfold cF;dsimp only;rw[u];dsimp only;rw[iP J.tk]
  have F:qS #[B.length,1] Z=true:=by unfold qS;rw[s];rfl
  have M: ∃r gs,uV #[B.length,1] [#[kW xs G,6],.new []] Z=.ok r Z/\CY r Z=.ok ⟨(WZ xs Ds (kW xs G)).map (·.1),gs⟩ Z/\ ∀q∈gs,Z1[q.1]? =#[q.2,2]:=by
   unfold uV;dsimp only;rw[s];dsimp only;rw[iP (GE C.vs)]
   cases z:look bd _ with
   |none=>
    refine⟨_,[],rfl,?_,by simp⟩;rw[J.no _ z];rfl
   |some d=>
    obtain⟨l,rfl,h1,h2⟩:=J.at' _ _ z;exact⟨_,_,rfl,wM (A h2),λq hq=>by rw[mS.mp hq];exact h2⟩
  obtain⟨r,gs,d1,d2,d3⟩:=M;have aa:(WZ xs Ds (kW xs G)).length<=Ds.length:=ċ _ _;obtain⟨y,U,a1,S,c1,g1,g2,g3⟩:=Om (J.old he) C.1 O i d3 (WZ xs Ds (kW xs G)) ts n T a b c (λD hD=>by obtain⟨e',x1,x2,x3⟩:=p D (Đ.mp hD).1;exact⟨e',x1,J.old x2,x3⟩) hF #[];have hb:fX (JP lf lo' m B.length a b #[Z1.length] #[e] #[mg,0] c) Z=#[JP lf lo' m B.length a1 S #[Z1.length] #[e] #[mg,0] c1,(Z1++.lst y::U),0]:=by unfold fX pD;simp? [F,H,d1,d2];rw[E];exact g3
  obtain⟨Q,T2,a2,b2,v2,k2,c2,W,f2⟩:=Fg J p I N X hx i ws Gs L (λK hK=>hG K (mO _ hK)) y _ U a1 S #[e] #[mg,0] c1 g1 #[];refine⟨Q,T2,a2,b2,v2,k2,c2,by rw[aA]at W;exact W,?_⟩;rw[<-E,yH rfl hb (yW (by rw[á (gS.mp (J.old N)).1];exact J.old N))];exact f2
 |[],_::_,h,_,_,_,_,_,_,_,_,_,_,_=>h.elim
 |_::_,[],h,_,_,_,_,_,_,_,_,_,_,_=>h.elim
end
theorem NG{B:Sto}{n:Nat}{mk:Int}: ∀{ws:K1}{b:List Ev},Fts B n mk ws b-> ∀D∈ws.zip b,D.2∈b/\ ∃e,D.1=.tup [.loc e,.int mk]/\B[e]? =#[D.2,7]
 |[],[],_=>λD h=>by simp at h
 |w::ws,M::b,h=>λD d=>by
  rcases mC.mp d with rfl|d
  .obtain⟨e,a,_,c⟩:=h.1;exact⟨mF0,e,a,c⟩
  .obtain⟨x,y⟩:=NG h.2 D d;exact⟨mO _ x,y⟩
 |[],_::_,h=>h.elim
 |_::_,[],h=>h.elim
theorem jn_f{lf lo' n0 H:Nat}{mg:Int}{fs i:K1}{c:List Ev}(n:B[lf]? =#[fs,2])(w:B[lo']? =#[i,2])(s:SqM B m #[xs,8])(E:xs.length<1000)(Z:Fts B n0 mg fs Gs)(C:Fts B H 1 i c)(S: ∀G∈Gs,Has xs G/\G.length<=1000)(o: ∀M∈c,Has xs M/\M.length<=1000)(I:c.length<=1000)(p:c.length * Gs.length<50000)
  (hband: ∀Y,BP #[mg,5] #[1,5] Y=.ok #[1,5] Y):
  ∃l T ts,qW [.loc lf,.loc lo',m] B=.ok #[l,1] (B++T)/\B.length<l/\(B++T)[l]? =#[ts,2]/\Fts (B++T) l 1 ts (joinM xs Gs (i.zip c)):=by
 have U:pE [#[lf],#[lo'],some m,none,none,none,none,none,none,none] B=#[JP lf lo' m B.length none none none none none none,B++[.dic []],0]:=by unfold pE;exists 7,ES
 have u:JI B xs [] [] (B++[.dic []]):=⟨⟨[],rfl⟩,(λk d h=>by cases h),(λk _=>rfl),(λk v l h=>by cases h),rfl,à _⟩
 obtain⟨bd,Z1,a,b,J,e⟩:=Ff w s E i c [] [] (B++[.dic []]) none none C (λM h=>(o M h).1) u (by simp only[ÿ];lia);rw[İ]at J;have e2:pF (JP lf lo' m B.length none none none none none none) (B++[.dic []])=#[JP lf lo' m B.length a b none none none none,Z1,0]:=by unfold pF;exists 7,wM (u.old w),e
 have F:pG (JP lf lo' m B.length a b none none none none) Z1=#[JP lf lo' m B.length a b #[Z1.length] none none none,(Z1++.lst []::[]),0]:=by unfold pG;exists 7,rfl
 have r:(i.zip c).length<=c.length:=by rw[ĸ];lia
 obtain⟨ts,T,P,O,W,v,L,N,g2⟩:=Fg J (λD K=>by obtain⟨x,e,y,z⟩:=NG C D K;exact⟨e,y,z,(o _ x).1.1,(o _ x).2⟩) #[] n s E hband fs Gs Z S [] [] [] a b none none none trivial (by rw[ÿ,ă];exact lt_of_le_of_lt (Nat.mul_le_mul_right _ r) p);have q:(Z1++[MO.lst []])[lf]? =#[fs,2]:=by rw[á (gS.mp (J.old n)).1];exact J.old n
 have X:pH (JP lf lo' m B.length a b #[Z1.length] none none none) (Z1++.lst []::[])=#[JP lf lo' m B.length P O #[Z1.length] W v L,(Z1++.lst ts::T),0]:=by unfold pH;exists 7,wM q,g2
 obtain⟨Q,A⟩:=J.ex;have j:Z1++MO.lst ts::T=B++(.dic bd::Q++.lst ts::T):=by rw[A,aA]
 refine⟨Z1.length,_,ts,?_,by rw[A];simp,by rw[<-j];exact mT _ _ _,by rw[<-j];exact N⟩;show yA (uX [#[lf],#[lo'],some m,none,none,none,none,none,none,none] B)=_;unfold uX;rw[zD U,zD e2,zD F,zD X, <-j];rfl
def UA(σ:List Nat->MV)(t:MV):MV:=match vn t with |some x=>σ x|none=>isv t
def NH(σ:List Nat->MV)(x:Db):UA σ (.tup [.str GW,.str x])=σ x:=by unfold UA;rw[mR]
theorem NI(σ:List Nat->MV)(v:MV):UA σ (.tup [.str IS,v])=v:=by unfold UA;rw[BW];rfl
theorem rV: ∀(ts cs:K1)(F G:Ev),dC ts cs F=some G->ts.length=cs.length->(∀t∈ts,bZ t)->(∀x d,look F (.str x)=some d->look G (.str x)=some d)/\cs=ts.map (UA (rZ G))
 |[],[],F,G,h,_,_=>by cases h;exact⟨λ_ _ z=>z,rfl⟩
 |[],_::_,_,_,_,hl,_=>by simp at hl
 |_::_,[],_,_,_,hl,_=>by simp at hl
 |t::ts,c::cs,F,G,h,hl,hT=>by
  have b:=by simpa using hl
  have a:=λu j=>hT u (mO _ j);rcases hT t mF0 with⟨x,rfl⟩|⟨v,hv,rfl⟩
  .rw[vH]at h
   cases z:look F _ with
   |none=>
    rw[z]at h;obtain⟨h1,i⟩:=rV ts cs _ G h b a;have k:look G _=some c:=h1 x c (by rw[eX,z,Option.none_or,iP rfl]);refine⟨λy d m=>h1 y d (by rw[eX,m];rfl),?_⟩;rw[æ,NH,iQ k, <-i]
   |some d=>
    rw[z]at h;dsimp only at h;split at h
    .rename_i e;subst e;obtain⟨h1,i⟩:=rV ts cs F G h b a;exact⟨h1,by rw[æ,NH,iQ (h1 x d z), <-i]⟩
    .cases h
  .rw[MZ]at h;split at h
   .rename_i e;obtain⟨h1,i⟩:=rV ts cs F G h b a;exact⟨h1,by rw[æ,NI,e, <-i]⟩
   .cases h
theorem vI(σ:List Nat->MV): ∀(ts:K1)(F:Ev),(∀x d,look F (.str x)=some d->d=σ x)->(∀t∈ts,bZ t)-> ∃G,dC ts (ts.map (UA σ)) F=some G/\ ∀x d,look G (.str x)=some d->d=σ x
 |[],F,hF,_=>⟨F,rfl,hF⟩
 |t::ts,F,hF,hT=>by
  have a:=λu h=>hT u (mO _ h);rcases hT t mF0 with⟨x,rfl⟩|⟨v,hv,rfl⟩
  .rw[æ,NH,vH]
   cases z:look F _ with
   |none=>
    refine vI σ ts _ (λy d b=>?_) a;rw[eX]at b
    cases c:look F _ with
    |some d'=>rw[c]at b;cases b;exact hF y _ c
    |none=>
     rw[c]at b;split at b
     .rename_i e;cases b;cases e;rfl
     .cases b
   |some d=>
    dsimp only;rw[iP (hF x d z)];exact vI σ ts F hF a
  .rw[æ,NI,MZ,iP rfl];exact vI σ ts F hF a
def Mt(rows:List Rw)(a:Rw)(σ:List Nat->MV):Prop:=(a.1,a.2.map (UA σ))∈rows
theorem Fi{a:Rw}(j: ∀t∈a.2,bZ t)(hw: ∀r∈rows,r.1=a.1->a.2.length=r.2.length){G:Ev}(h:G∈cC rows a):Mt rows a (rZ G)/\(∀t∈a.2, ∀x,vn t=some x->look G (.str x)≠none):=by obtain⟨r,b,d⟩:=mem_filterMap.mp h;obtain⟨b,c⟩:=Đ.mp b;have c:=Ě c;have e:=hw r b c;obtain⟨_,i⟩:=rV _ _ _ _ d e j;refine⟨?_,(WS _ _ _ _ d #[]).2⟩;unfold Mt;rw[<-i, <-c];exact b
def Fj{a:Rw}(c: ∀t∈a.2,bZ t)(h:Mt rows a σ): ∃G∈cC rows a, ∀x d,look G (.str x)=some d->d=σ x:=by obtain⟨G,h1,b⟩:=vI σ a.2 [] (λx d z=>by cases z) c;exact⟨G,mem_filterMap.mpr ⟨_,Đ.mpr ⟨h,dT0 rfl⟩,h1⟩,b⟩
theorem ZZ(x:Db)(xs:Ch)(d:MV)(k:K1):dD (x::xs) (d::k)=(.str x,d)::dD xs k:=rfl
theorem vK(f:List Nat->MV): ∀(xs:Ch)(x:Db),look (dD xs (xs.map f)) (.str x)=if x∈xs then some (f x)else none
 |[],x=>rfl
 |y::xs,x=>by
  rw[æ,ZZ,yY,vK f xs x];by_cases e:y=x
  .subst e;rw[iP rfl,iP mF0]
  .rw[iN (λz=>e (MV.str.inj z))];by_cases h:x∈xs
   .rw[iP h,iP (mO _ h)]
   .rw[iN h,iN λz=>(mC.mp z).elim (λz=>e z.symm) h]
def DT{G:Ev}{x:Db}(h:x∈xs):rZ (dD xs (kW xs G)) x=rZ G x:=iQ (by unfold kW;rw[vK,iP h])
def NL{G:Ev}(h:Has xs G):tY (dD xs (kW xs G))/\ ∀x,look (dD xs (kW xs G)) (.str x)≠none↔x∈xs:=by
 refine⟨λp c=>?_,λx=>?_⟩
 .have a:_∈(xs.map MV.str).zip _:=c;obtain⟨h1,b⟩:=of_mem_zip a;obtain⟨x,_,e⟩:=mM.mp h1;exact⟨⟨x,e.symm⟩,h.vs _ b⟩
 .unfold kW;rw[vK];by_cases e:x∈xs
  .rw[iP e];exact⟨λ_=>e,λ_ z=>by cases z⟩
  .rw[iN e];exact⟨λz=>absurd rfl z,λz=>absurd z e⟩
theorem vL(xs:Ch): ∀(Gs:List Ev)(P:K7)(k:K1),k∈WX xs Gs P↔k∈P\/ ∃G∈Gs,k=kW xs G
 |[],P,k=>⟨.inl,λh=>h.elim id λ⟨G,h,_⟩=>by simp at h⟩
 |G::Gs,P,k=>by
  show k∈WX xs Gs _↔_;rw[vL xs Gs,Mx];constructor
  .rintro((h|h)|⟨K,a,h⟩)
   .exact .inl h
   .exact .inr ⟨G,mF0,h⟩
   .exact .inr ⟨K,mO _ a,h⟩
  .rintro(h|⟨K,a,h⟩)
   .exact .inl (.inl h)
   .rcases mC.mp a with rfl|a
    .exact .inl (.inr h)
    .exact .inr ⟨K,a,h⟩
def lU:E∈qD xs Gs↔ ∃G∈Gs,E=dD xs (kW xs G):=by
 unfold qD;rw[mM];constructor
 .rintro⟨k,b,rfl⟩;rcases (vL xs Gs [] k).mp b with h|⟨G,a,rfl⟩
  .simp at h
  .exact⟨G,a,rfl⟩
 .rintro⟨G,a,rfl⟩;exact⟨_,(vL xs Gs [] _).mpr (.inr ⟨G,a,rfl⟩),rfl⟩
theorem rE(E:Ev)(k d j:MV):look (putK E k d) j=if k=j then some d else look E j:=by
 unfold putK;split
 .rename_i hs
  have q: ∀E:Ev, ¬k=j->look (E.map λp=>if p.1=k then(p.1,d)else p) j=look E j:=λE q=>by
   induction E with
   |nil=>rfl
   |cons p E ih=>rw[æ,yY,yY];grind
  induction E with
  |nil=>cases hs
  |cons p E ih=>
   rw[æ,yY,yY];rw[yY]at hs
   grind
 .rw[eX];cases z:look E j<;>grind
theorem JQ: ∀(M G:Ev)(x:Db),(∀p∈M, ∀d,look G p.1=some d->p.2=d)->(∀p∈M, ∀q∈M,p.1=q.1->p.2=q.2)->look (kE G M) (.str x)=(look G (.str x)).or (look M (.str x))
 |[],G,x,_,_=>by show look G _=_;cases look G _<;>rfl
 |p::M,G,x,h1,h2=>by
  show look (kE _ M) _=_;rw[JQ M _ x (λq a d hd=>?_) (λq a r b=>h2 q (mO _ a) r (mO _ b)),rE,yY]
  .by_cases e:p.1=.str x
   .rw[iP e,iP e]
    cases z:look G _ with
    |none=>rfl
    |some d=>rw[h1 p mF0 d (by rw[e];exact z)];rfl
   .rw[iN e,iN e]
  .rw[rE]at hd;split at hd
   .rename_i e;cases hd;exact(h2 p mF0 q (mO _ a) e).symm
   .exact h1 q (mO _ a) d hd
def QQ{Ds:List OD}:E∈joinM xs Gs Ds↔ ∃G∈Gs, ∃D∈Ds,kW xs D.2=kW xs G/\E=kE G D.2:=by
 unfold joinM;rw[List.mem_flatMap];constructor
 .rintro⟨G,b,h⟩;obtain⟨D,a,rfl⟩:=mM.mp h;obtain⟨h1,c⟩:=Đ.mp a;exact⟨G,b,D,h1,Ě c,rfl⟩
 .rintro⟨G,b,D,a,h,rfl⟩;exact⟨G,b,mM.mpr ⟨D,Đ.mpr ⟨a,dT0 h⟩,rfl⟩⟩
def Mz{τ:List Nat->MV}{t:MV}(h: ∀x,vn t=some x->σ x=τ x):UA σ t=UA τ t:=by
 unfold UA
 cases z:vn t with
 |none=>rfl
 |some x=>exact h x z
def UB{a:Rw}{τ:List Nat->MV}(h: ∀t∈a.2, ∀x,vn t=some x->σ x=τ x)(m:Mt rows a σ):Mt rows a τ:=by unfold Mt at *;rw[<-Ģ λt b=>Mz (h t b)];exact m
def UC{f:List Nat->MV}{p:MV×MV}(h:p∈dD xs (xs.map f)): ∃x∈xs,p=(.str x,f x):=by
 induction xs with
 |nil=>exact absurd h (by simp[dD])
 |cons y xs ih=>
  rcases mC.mp h with rfl|h
  .exact⟨y,mF0,rfl⟩
  .obtain⟨x,a,e⟩:=ih h;exact⟨x,mO _ a,e⟩
def DU(h:tY E){p:MV×MV}(b:(∃x,p.1=.str x)/\VS p.2):tY (putK E p.1 p.2):=by
 unfold putK;split
 .intro q a;obtain⟨r,c,rfl⟩:=mM.mp a;split
  .exact⟨(h r c).1,b.2⟩
  .exact h r c
 .intro q a;rcases é.mp a with a|a
  .exact h q a
  .rw[mS.mp a];exact b
theorem QR: ∀(M G:Ev),tY G->tY M->tY (kE G M)
 |[],G,h,_=>h
 |p::M,G,h,hM=>QR M _ (DU h (hM p mF0)) λq a=>hM q (mO _ a)
structure FI(rows done:List Rw)(kn:Ch)(Gs:List Ev):Prop where
 dom: ∀G∈Gs,tY G/\ ∀x,look G (.str x)≠none↔x∈kn
 snd: ∀G∈Gs, ∃σ,(∀b∈done,Mt rows b σ)/\ ∀x∈kn,rZ G x=σ x
 cmp: ∀σ,(∀b∈done,Mt rows b σ)-> ∃G∈Gs, ∀x∈kn,rZ G x=σ x
section
variable{rows done:List Rw}{a:Rw}{kn own sh ow kn':Ch}{ask:List Nat->Prop}
def Fk{G F:Ev}(k:tY G/\ ∀x,look G (.str x)≠none↔x∈kn)(s:Has own F)(c: ∀x,x∈sh↔x∈own/\x∈kn)(b: ∀x,x∈ow↔x∈own/\(x∈sh\/ask x))(B: ∀x,x∈kn'↔(x∈kn\/x∈own)/\ask x)(w:kW sh (dD ow (kW ow F))=kW sh G):
  (∀x∈sh,rZ F x=rZ G x)/\(∀x∈kn,rZ (kE G (dD ow (kW ow F))) x=rZ G x)/\(∀x∈ow,rZ (kE G (dD ow (kW ow F))) x=rZ F x)/\Has kn' (kE G (dD ow (kW ow F))):=by
 have m:Has ow F:=⟨s.1,λx a=>s.2 x ((b x).mp a).1⟩
 have hs: ∀x∈sh,rZ F x=rZ G x:=λx a=>by
  have h1:rZ (dD ow (kW ow F)) x=rZ G x:=by unfold kW at w;exact List.map_inj_left.mp w x a
  rw[DT ((b x).mpr ⟨((c x).mp a).1,.inl a⟩)]at h1;exact h1
 have i: ∀{E:Ev}{x:Db},look E _≠none->look E _=some (rZ E x):=λ{E x} h=>by
  cases z:look E _ with
  |none=>exact absurd z h
  |some d=>rw[iQ z]
 have j: ∀x,look (kE G (dD ow (kW ow F))) _=(look G _).or _:=λx=>by
  refine JQ _ _ x (λp n d hd=>?_) λp n q D e=>?_
  .obtain⟨y,v,rfl⟩:=UC n;have o:y∈kn:=(k.2 y).mp (by rw[hd];simp);have r:y∈sh:=(c y).mpr ⟨((b y).mp v).1,o⟩;show rZ F y=d;rw[hs y r];exact iQ hd
  .obtain⟨y,v,rfl⟩:=UC n;obtain⟨z,I,rfl⟩:=UC D;cases e;rfl
 have h1: ∀x∈kn,look _ _=some _:=λx a=>by rw[j,i ((k.2 x).mpr a)];rfl
 have u: ∀x∈ow,look _ _=some (rZ F x):=λx a=>by
  by_cases e:x∈kn
  .rw[h1 x e,hs x ((c x).mpr ⟨((b x).mp a).1,e⟩)]
  .have C:look G (.str x)=none:=by
    cases z:look G _ with
    |none=>rfl
    |some d=>exact absurd ((k.2 x).mp (by rw[z];simp)) e
   rw[j,C,Option.none_or];unfold kW;rw[vK,iP a]
 refine⟨hs,λx a=>iQ (h1 x a),λx a=>iQ (u x a),QR _ _ k.1 (NL m).1,λx a=>?_⟩;obtain⟨H,A⟩:=(B x).mp a;by_cases e:x∈kn
 .rw[h1 x e];simp
 .rw[u x ((b x).mpr ⟨H.resolve_left e,.inr A⟩)];simp
def QS(i: ∀t∈a.2,bZ t)(hw: ∀r∈rows,r.1=a.1->a.2.length=r.2.length)(j: ∀r∈rows, ∀c∈r.2,VS c)(b: ∀x,x∈own↔ ∃t∈a.2,vn t=some x){F:Ev}(d:F∈cC rows a):Mt rows a (rZ F)/\Has own F:=by obtain⟨h1,o⟩:=Fi i hw d;obtain⟨r,k,q⟩:=mem_filterMap.mp d;exact⟨h1,DS _ _ _ _ q (λp h=>by simp at h) (j r (Đ.mp k).1),λx n=>by obtain⟨t,m,e⟩:=(b x).mp n;exact o t m x e⟩
def Na{Ds:List OD}(I:FI rows done kn Gs)(Q: ∀t∈a.2,bZ t)(hw: ∀r∈rows,r.1=a.1->a.2.length=r.2.length)(W: ∀r∈rows, ∀c∈r.2,VS c)(p: ∀x,x∈own↔ ∃t∈a.2,vn t=some x)(k: ∀x,x∈sh↔x∈own/\x∈kn)(n: ∀x,x∈ow↔x∈own/\(x∈sh\/ask x))(H: ∀x,x∈kn'↔(x∈kn\/x∈own)/\ask x)
  (hdn: ∀b∈done, ∀t∈b.2, ∀x,vn t=some x->x∈own->x∈kn) (hDs: ∀M,M∈qD ow (cC rows a)↔ ∃D∈Ds,D.2=M):(∀K∈joinM sh Gs Ds,Has kn' K)/\FI rows (done++[a]) kn' (qD kn' (joinM sh Gs Ds)):=by
 have h: ∀F∈cC rows a,Mt rows a (rZ F)/\Has own F:=λF j=>QS Q hw W p j;have un: ∀K∈joinM sh Gs Ds, ∃G∈Gs, ∃F∈cC rows a,kW sh (dD ow (kW ow F))=kW sh G/\K=kE G (dD ow (kW ow F)):=λK u=>by obtain⟨G,m,D,J,e,rfl⟩:=QQ.mp u;obtain⟨F,j,y⟩:=lU.mp ((hDs D.2).mpr ⟨D,J,rfl⟩);exact⟨G,m,F,j,by rw[<-y];exact e,by rw[y]⟩
 have s: ∀{G F:Ev},G∈Gs->F∈cC rows a->kW sh _=kW sh G-> ∀{σ:List Nat->MV},(∀x∈kn,rZ G x=σ x)->(∀x∈own,rZ F x=σ x)-> ∀x∈kn',rZ _ x=σ x:=λ{G F} m j e {σ} C g2 x i=>by
  obtain⟨N,Z,o3,_⟩:=Fk (I.dom G m) (h F j).2 k n H e;rw[DT i];obtain⟨Y,h4⟩:=(H x).mp i;by_cases q:x∈kn
  .rw[Z x q,C x q]
  .have A:=Y.resolve_left q;rw[o3 x ((n x).mpr ⟨A,.inr h4⟩),g2 x A]
 have B: ∀K∈joinM sh Gs Ds,Has kn' K:=λK u=>by obtain⟨G,m,F,j,e,rfl⟩:=un K u;exact(Fk (I.dom G m) (h F j).2 k n H e).2.2.2
 refine⟨B,λE P=>?_,λE P=>?_,λσ w=>?_⟩
 .obtain⟨K,u,rfl⟩:=lU.mp P;exact NL (B K u)
 .obtain⟨K,u,rfl⟩:=lU.mp P;obtain⟨G,m,F,j,e,rfl⟩:=un K u;obtain⟨N,_,_,_⟩:=Fk (I.dom G m) (h F j).2 k n H e;obtain⟨O,s1,T⟩:=I.snd G m
  classical
  refine⟨λx=>if x∈own then rZ F x else O x,λb o=>?_,s m j e (λx i=>?_) λx i=>by rw[iP i]⟩
  .rcases é.mp o with o|o
   .refine UB (λt L x i=>?_) (s1 b o);by_cases q:x∈own
    .have v:=hdn b o t L x i q;rw[iP q,N x ((k x).mpr ⟨q,v⟩),T x v]
    .rw[iN q]
   .rw[mS.mp o];exact UB (λt L x i=>by rw[iP ((p x).mpr ⟨t,L,i⟩)]) (h F j).1
  .by_cases q:x∈own
   .rw[iP q,N x ((k x).mpr ⟨q,i⟩)]
   .rw[iN q];exact T x i
 .obtain⟨G,m,C⟩:=I.cmp σ λb o=>w b (Ă _ o);obtain⟨F,j,X⟩:=Fj Q (w a (ó _ mF0))
  have S: ∀x∈own,rZ F x=σ x:=λx i=>by
   cases z:look F (.str x)with
   |none=>exact absurd z ((h F j).2.2 x i)
   |some d=>rw[iQ z];exact X x d z
  have e:kW sh (dD ow (kW ow F))=kW sh G:=by show sh.map _=sh.map (rZ G);refine Ģ λx i=>?_;obtain⟨U,q2⟩:=(k x).mp i;rw[DT ((n x).mpr ⟨U,.inl i⟩),S x U,C x q2]
  obtain⟨D,J,y⟩:=(hDs _).mp (lU.mpr ⟨F,j,rfl⟩);exact⟨_,lU.mpr ⟨_,QQ.mpr ⟨G,m,D,J,by rw[y];exact e,rfl⟩,rfl⟩,by rw[y];exact s m j e C S⟩
end
noncomputable def rk:MV->MV
 |.str x=>.tup [.int 1,.int 0,.str x]
 |d=>.tup [.int 0,d,.str []]
noncomputable def cd:MV->List Int
 |.int i=>[0,i]
 |.str x=>1::x.map Int.ofNat
 |_=>[]
abbrev RL(t:K1):List (List Int):=t.map cd
theorem Fm: ∀(x y:Db),x.map Int.ofNat<y.map Int.ofNat↔x<y
 |_,[]=>by simp
 |[],_::_=>by simp
 |a::x,b::y=>by rw[æ,æ,cons_lt_cons_iff,cons_lt_cons_iff,Fm x y];simp;grind
def Fn{d e:MV}(hd:VS d)(a:VS e)(h:cd d=cd e):d=e:=by
 rcases hd with⟨i,rfl⟩|⟨x,rfl⟩<;>rcases a with⟨j,rfl⟩|⟨y,rfl⟩<;>simp[cd]at h
 .rw[h]
 .rw[(List.map_inj_right (λ_ _ e=>Int.ofNat.inj e)).mp h]
theorem XA: ∀{a b:K1},(∀d∈a,VS d)->(∀d∈b,VS d)->RL a=RL b->a=b
 |[],[],_,_,_=>rfl
 |[],_::_,_,_,h=>by cases h
 |_::_,[],_,_,h=>by cases h
 |d::a,e::b,ha,hb,h=>by
  injection h with h1 h2
  rw[Fn (ha d mF0) (hb e mF0) h1,XA (λx c=>ha x (mO _ c)) (λx c=>hb x (mO _ c)) h2]
def JR{d:MV}(h:VS d):pd (rk d)=true/\uZ (rk d)<=1/\bA (rk d)=true:=by rcases h with⟨i,rfl⟩|⟨x,rfl⟩<;>simp[rk,pd,RK,uZ,BC,bA,uT]
def Vz{d e:MV}(hd:VS d)(a:VS e):rk d=rk e↔d=e:=by rcases hd with⟨i,rfl⟩|⟨x,rfl⟩<;>rcases a with⟨j,rfl⟩|⟨y,rfl⟩<;>simp[rk]
def C8{d e:MV}(hd:VS d)(a:VS e)(n:Nat):CZ S (n+2) (rk d) (rk e)=some (decide (cd d<cd e)):=by
 rcases hd with⟨i,rfl⟩|⟨x,rfl⟩<;>rcases a with⟨j,rfl⟩|⟨y,rfl⟩<;>simp[rk,cd,CZ,AA,KY,uO,cons_lt_cons_iff,Fm]
 .by_cases h:i=j<;>simp[h]
 .by_cases h:x=y<;>simp[h]
theorem Fo{S:Sto}(n:Nat): ∀{a b:K1},(∀d∈a,VS d)->(∀d∈b,VS d)->AA (eqv S (n+2)) (CZ S (n+2)) (a.map rk) (b.map rk)=some (decide (RL a<RL b))
 |[],[],_,_=>by simp[AA]
 |[],_::_,_,_=>by simp[AA]
 |_::_,[],_,_=>by simp[AA]
 |d::a,e::b,ha,hb=>by
  have h1:=ha d mF0;have c:=hb e mF0;have i:=Fo (S:=S) n (λx h=>ha x (mO _ h)) (λx h=>hb x (mO _ h));rw[æ,æ];unfold AA;rw[oE _ (JR h1).1 (JR c).1 (by have:=(JR h1).2.1;lia)];show _=_;rw[i,C8 h1 c];show _=some _;by_cases q:d=e
  .subst q;simp[cons_lt_cons_iff]
  .have: ¬cd d=cd e:=λz=>q (Fn h1 c z);simp[Vz h1 c,q,cons_lt_cons_iff,this]
def klt{a b:K1}(e: ∀d∈a,VS d)(c: ∀d∈b,VS d):CZ S zF (.tup (a.map rk)) (.tup (b.map rk))=some (decide (RL a<RL b)):=Fo 37 e c
def kX(T:K7):List (List MV):=T.mergeSort λa b=>decide (RL a<=RL b)
def yP(T:K7):(kX T).Perm T:=List.mergeSort_perm _ _
def NN(T:K7):(kX T).Pairwise λa b=>RL a<=RL b:=by have:=List.pairwise_mergeSort (le:=λa b:List MV=>decide (RL a<=RL b)) (λa b c h1 d=>dT0 (List.le_trans (Ě h1) (Ě d))) (λa b=>by rw[Bool.or_eq_true,decide_eq_true_iff,decide_eq_true_iff];exact List.le_total _ _) T;exact this.imp λh=>Ě h
def JS{T R:K7}(c: ∀t∈T, ∀d∈t,VS d)(p:R.Perm T)(q:R.Pairwise λa b=>RL a<=RL b):R=kX T:=
 List.Perm.eq_of_pairwise (λa b h i h1 e=>XA (c a (p.mem_iff.mp h)) (c b ((yP T).mem_iff.mp i)) (List.le_antisymm h1 e)) q (NN T) (p.trans (yP T).symm)
def tU{β:Type}(T:List β):(List.range T.length).filterMap (T[·]?)=T:=by
 induction T with
 |nil=>rfl
 |cons t T ih=>rw[lC,List.range_succ_eq_map,ī];simp[Function.comp_def,ih]
theorem XB{l:Bool}{Fd:List MV->Sto->R Er}{w:Nat}{T:K7}(n: ∀t∈T, ∀d∈t,VS d)(hw: ∀t∈T,t.length=w)(O:T.length<128){p:Er}(N:jB S p=some (T.map .tup))(call: ∀t∈T,zH 1 Fd [#[t,6]] S=.ok (ZQ l (.tup (t.map rk))) S):
  BQ l Fd [p] S=#[(kX T).map .tup,S,2]:=by
 have mem: ∀k∈T.map (λt=>MV.tup (t.map rk)), ∃t∈T,k=.tup (t.map rk):=λk G=>by obtain⟨t,h1,r⟩:=mM.mp G;exact⟨t,h1,r.symm⟩
 have at': ∀{f:List MV->MV}{m:Nat}{k:MV},(T.map f)[m]? =some k-> ∃t,T[m]? =some t/\t∈T/\k=f t:=λh=>by rw[ö]at h;obtain⟨t,h1,r⟩:=Option.map_eq_some_iff.mp h;exact⟨t,h1,è h1,r.symm⟩
 have ok:SrtOkX l Fd S (T.map .tup) (T.map λt=>.tup (t.map rk)) (decide (0<w)):=by
  refine⟨by rw[lM];exact O,by rw[lM,lM],λm d kd h1 r=>?_,λd hd=>?_,λd hd=>?_,⟨λa C b B=>?_,λa C b B c E h1 r=>?_,λa C b B h1=>?_⟩⟩
  .obtain⟨t,z,o,rfl⟩:=at' h1;obtain⟨u,H,_,rfl⟩:=at' r;rw[z]at H;cases H;exact call t o
  .obtain⟨t,o,rfl⟩:=mem d hd;unfold bA;have: ∀ds:List MV,(∀d∈ds,bA d=true)->uT ds=true:=λds=>by induction ds<;>simp_all [uT]
   exact this _ λx Q=>by obtain⟨y,P,rfl⟩:=mM.mp Q;exact(JR (n t o y P)).2.2
  .obtain⟨t,o,rfl⟩:=mem d hd;unfold Gn;split
   .exact⟨_,rfl⟩
   .have h1:=hw t o
    cases t with
    |nil=>rw[<-h1];exact .e
    |cons x t=>
     rw[dT0 (by rw[<-h1,lC];lia),æ];rcases n _ o x mF0 with⟨i,rfl⟩|⟨y,rfl⟩
     .exact .t _ _
     .exact .t _ _
  .obtain⟨t,o,rfl⟩:=mem a C;obtain⟨u,A,rfl⟩:=mem b B;exact⟨_,klt (n t o) (n u A)⟩
  .obtain⟨t,o,rfl⟩:=mem a C;obtain⟨u,A,rfl⟩:=mem b B;obtain⟨v,F,rfl⟩:=mem c E;rw[klt (n _ A) (n _ o)]at h1;rw[klt (n _ F) (n _ A)]at r;rw[klt (n _ F) (n _ o)];have h1:=of_decide_eq_false (ä h1);have r:=of_decide_eq_false (ä r);rw[dF0 (List.not_lt.mpr (List.le_trans (List.not_lt.mp h1) (List.not_lt.mp r)))]
  .obtain⟨t,o,rfl⟩:=mem a C;obtain⟨u,A,rfl⟩:=mem b B;rw[klt (n _ o) (n _ A)]at h1;rw[klt (n _ A) (n _ o),dF0 (List.not_lt.mpr (List.le_of_lt (Ě (ä h1))))]
 refine Ma N ok (λX h=>?_) ?_ (λL Y D=>?_)
 .obtain⟨idx,p,q,rfl⟩:=h;rw[lM]at p;rw[<-JS (R:=idx.filterMap (T[·]?)) n (by have:=p.filterMap (T[·]?);rwa [tU]at this) (by rw[List.pairwise_filterMap];refine q.imp λ{i j} h b B c E=>?_;have h':=h (.tup (b.map rk)) (.tup (c.map rk)) (by rw[ö,B];rfl) (by rw[ö,E];rfl);rw[klt (n c (è E)) (n b (è B))]at h';exact List.not_lt.mp (of_decide_eq_false (ä h'))),List.map_filterMap];congr 1;funext i;rw[ö]
 .obtain⟨idx,J,M⟩:=JA (yP T).symm (g:=λi=>(T[i]?).getD []) _ (by rw[FA λi hi=>mem_range.mp hi,tU]);have U: ∀i,i∈idx->i<T.length:=λi hi=>mem_range.mp (J.mem_iff.mp hi);refine⟨idx,by rw[lM];exact J,?_,?_⟩
  .have I:=NN T;rw[<-M,pairwise_map]at I;refine List.Pairwise.imp_of_mem (λ{i j} hi W h a c C E=>?_) I;obtain⟨t,z,o,rfl⟩:=at' C;obtain⟨u,H,A,rfl⟩:=at' E;rw[z,H]at h;rw[klt (n u A) (n t o),dF0 (List.not_lt.mpr (show RL t<=RL u from h))]
  .rw[<-M,FA U,List.map_filterMap];congr 1;funext i;rw[ö]
 .refine List.ext_getElem (by rw[D.kl,lM,lM]) λm h1 r=>?_;rw[lM]at r;have s:=D.call m (.tup T[m]) _ (by rw[ö,gE r];rfl) (gE h1);rw[call _ (getElem_mem r)]at s;injection s with s _
  have G:=D.kind _ (getElem_mem h1);rw[List.getElem_map];unfold Gn at G;unfold ZQ at s;split at G
  .rename_i e;obtain⟨es,K⟩:=G;rw[iP e,iP e,K]at s;rw[K];injection s with s
   rw[s]
  .rename_i e;rw[iN e,iN e]at s;injection s with s
   exact s.symm
theorem Wa{d:MV}(h:VS d)(S:Sto):zH 1 aR [.val d] S=#[rk d,S,1]:=by
 have h1:=(JR h).1;rcases h with⟨i,rfl⟩|⟨x,rfl⟩
 .refine eU rfl ?_ (iL h1) (λl=>by simp[rk]);show yA _=_;unfold aQ;rw[zD (by unfold bB;simp? [gV];rfl)];unfold fQ;rfl
 .refine eU rfl ?_ (iL h1) (λl=>by simp[rk]);show yA _=_;unfold aQ;rw[iW (by unfold bB;simp? [gV];rfl)];rfl
def Fp{t:K1}(h: ∀d∈t,VS d):RK (t.map rk)=true:=bX λe a=>by obtain⟨d,hd,rfl⟩:=mM.mp a;exact(JR (h d hd)).1
theorem Nb{t:K1}(h: ∀d∈t,VS d)(b:t.length<1000)(S:Sto):zH 1 aT [#[t,6]] S=.ok #[t.map rk,6] S:=by
 refine eU rfl ?_ (SO (MP (Fp h))) (λl=>by simp);have a:zX (yD 0) cO jC [none] [] t S=.ok (t.map rk) S:=OZ (gP S) λd hd=>by refine⟨_,rfl,rfl,?_⟩;unfold jC;simp? [Wa (h d hd)]
 show yA (aS [some _] S)=_;unfold aS fR;simp? [pN,show t.length<1000000 by lia];rw[show rW 1 [] [some _]=[none]from rfl,a];rfl
theorem Fq{t:K1}(h: ∀d∈t,VS d)(b:t.length<1000)(S:Sto):zH 1 eO [#[t,6]] S=#[t.map rk,S,2]:=by
 have j: ∀(u:K1)(ks:K1)(x:K2),(∀d∈u,VS d)->ks.length+u.length<2000-> ∃y,wK (yD 2) bQ [] u [#[t,3],some _,x] (S++[.lst ks])=#[[#[t,3],#[↑1],y],S++[.lst (ks++u.map rk)],0]:=λu=>by
  induction u with
  |nil=>exact λks x _ _=>⟨x,by rw[List.map_nil,aN];rfl⟩
  |cons d u ih=>
   intro ks x c b;rw[lC]at b;obtain⟨y,a⟩:=ih (ks++[rk d]) (some d) (λe k=>c e (mO _ k)) (by simp;lia);refine⟨y,?_⟩;have hs:=zG S (.lst ks);rw[yH rfl ?_ (gP _),a,aA]
   .rfl
   .unfold bQ cV;rcases c d mF0 with⟨i,rfl⟩|⟨z,rfl⟩
    .simp? [xL hs,wZ hs #[],cA];rfl
    .simp? [xL hs,wZ hs #[],cA];rfl
 obtain⟨y,a⟩:=j t [] none h (by simp;lia);refine ER (T:=[.lst (t.map rk)]) rfl ?_ (à _) (by simp) (MP (Fp h));show yA (eM [#[t,3],none,none] S)=_;unfold eM;rw[zD (show bR [#[t,3],none,none] S=#[[#[t,3],#[↑1],none],S++[.lst []],0] by unfold bR;exists 7,rfl),zD (by unfold iH;simp? [pN];exact a)];unfold iI;exists 7,rfl
theorem Nc{ds:K1}{d:MV}:sC (ds++[d]) (-1)=some d:=by
 unfold sC
 have:IF (ds++[d]).length (-1)=some ds.length:=by
  unfold IF;simp
  lia
 rw[this];simp
theorem iR{t:K1}(h: ∀d∈t,VS d):pd (.tup t)=true/\uZ (.tup t)<3:=by
 refine⟨by rw[xQ];exact bX λd hd=>(rC (h d hd)).1,?_⟩;rw[gD];have:BC t<=0:=vC λd hd=>by rcases h d hd with⟨i,rfl⟩|⟨x,rfl⟩<;>simp[uZ]
 lia
theorem QT{m:Nat}{a:K2}: ∀(L O:K7)(S:Sto)(x:K2),S[m]? =#[O.map .tup,2]->(O++L).Nodup->(∀t∈O++L, ∀d∈t,VS d)->O.length+L.length<1000->
  ∃y,wK (yD 2) aU [] (L.map .tup) [a,#[m],x] S=#[[a,#[m],y],S.set m (.lst ((O++L).map .tup)),0]
 |[],O,S,x,hS,_,_,_=>⟨x,by obtain⟨h1,n⟩:=gS.mp hS;rw[aN, <-n,List.set_getElem_self h1];rfl⟩
 |t::L,O,S,x,hS,hn,hv,hl=>by
  rw[lC]at hl;have e:O++t::L=O++[t]++L:=by simp
  rw[e]at hn hv ⊢;have i: ∀d∈t,VS d:=hv t (by simp);have app:mY #[m,1] [#[t,6]] S=#[.non,S.set m (.lst ((O++[t]).map .tup)),1]:=by rw[wZ hS (by rw[lM];lia),ï];rfl
  obtain⟨y,h⟩:=QT L _ _ #[t,3] (get_set hS) hn hv (by simp;lia);refine⟨y,?_⟩;rw[æ,yH rfl ?_ (gP _),h,List.set_set];unfold aU fS;by_cases c:O=[]
  .subst c;exists 7,WN hS,show(!!(List.map MV.tup ([]:K7)).isEmpty)=true from rfl,xL hS,app
  .obtain⟨P,z,rfl⟩: ∃P z,O=P++[z]:=⟨_,_,(List.dropLast_concat_getLast c).symm⟩
   have k:z≠t:=λe=>by subst e;simp[į]at hn
   have j:gW _ _ S=.ok _ S:=fF hS (by rw[ï];exact Nc);have b:EQ #[z,6] #[t,6] S=#[.bl true,S,1]:=by have q:=iR (hv z (by simp));rw[WT q.1 (iR i).1 #[],dF0 (λe=>k (MV.tup.inj e))];rfl
   simp? [WN hS,show(!((P++[z]).map MV.tup).isEmpty)=true by simp,Bool.not_true,fT,iF,j,b,xL hS,app]
theorem Nd{w:Nat}{T:K7}(e: ∀t∈T, ∀d∈t,VS d)(hw: ∀t∈T,t.length=w)(h:w<1000)(j:T.Nodup)(n:T.length<128)(S:Sto):zH 1 oX [.new (T.map .tup)] S=#[(kX T).map .tup,S,2]:=by
 have p:=yP T;have c: ∀t∈[]++kX T, ∀d∈t,VS d:=λt b=>e t (p.mem_iff.mp b);have k:(S++[MO.lst (T.map .tup)]++[.lst []])[↑1]? =#[T.map .tup,2]:=by simp
 obtain⟨y,q⟩:=QT (m:=↑1+1) (a:=#[↑1]) (kX T) [] (S++[.lst (T.map .tup)]++[.lst []]) none (by rw[aA];exact rD _ _ _) (p.nodup_iff.mpr j) c (by have:=p.length_eq;simp;lia);refine bY rfl rfl (T:=[.lst (T.map .tup),.lst ((kX T).map .tup)]) ?_ (.inr ⟨↑1+1,rfl,by lia,rD _ _ _⟩) (cN λd hd=>by obtain⟨t,b,rfl⟩:=mM.mp hd;exact iL (iR (c t b)).1);show yA (oW [#[↑1],none,none] (S++[.lst (T.map .tup)]))=_;unfold oW;have i:aV [#[↑1],none,none] (S++[.lst (T.map .tup)])=#[[#[↑1],#[↑1+1],none],S++[.lst (T.map .tup)]++[.lst []],0]:=by unfold aV;simp? [gV];simp
 have o:aW [#[↑1],#[↑1+1],none] (S++[.lst (T.map .tup)]++[.lst []])=#[[#[↑1],#[↑1+1],y],S++[.lst (T.map .tup),.lst ((kX T).map .tup)],0]:=by unfold aW;simp? [XB (l:=false) e hw n (p:=#[↑1,1]) (by unfold jB;dsimp only;rw[k]) (λt b=>Nb (e t b) (by rw[hw t b];exact h) _),TU];rw[q,aA];simp
 rw[zD i,zD o];unfold oV;exists 7,rfl
theorem Aa{n:Nat}{F:List MV->Sto->R Er}{S2:Sto}{l:Nat}{kvs:Ev}(a:rs.length=n)(b:F (zE rs S).1 (zE rs S).2=.ok #[l,1] S2)(c:↑1<=l)(h:S2[l]? =#[kvs,7]):zH n F rs S=.ok #[l,1] S2:=by
 unfold zH;rw[iP a,b];show jI S _ S2=_;unfold jI;dsimp only;split
 .rw[iN #[],h]
 .rfl
theorem Ab{n:Nat}{F:List MV->Sto->R Er}{l:Nat}{ds:K1}(c:rs.length=n)(b:F (zE rs S).1 (zE rs S).2=.ok #[l,1] (S++T))(d:↑1<=l)(h:(S++T)[l]? =#[ds,2]):
  ∃r a,zH n F rs S=.ok r (S++a)/\(r=#[l,1]/\a=T\/r=.new ds/\a=[]/\tX ↑1 ds):=by
 unfold zH;rw[iP c,b];show∃r a,jI S _ _=_/\_;unfold jI;rw[iP qN];dsimp only;rw[iN #[],h];dsimp only;split
 .rename_i h;exact⟨_,[],by rw[aN,List.take_left'];rfl,.inr ⟨rfl,rfl,h⟩⟩
 .exact⟨_,T,rfl,.inl ⟨rfl,rfl⟩⟩
def Ls(Z:Sto)(n:Nat)(r:Er)(Gs:List Ev):Prop:=(∃l ws,r=#[l,1]/\Z[l]? =#[ws,2]/\Fts Z n 1 ws Gs)\/ ∃ws,r=.new ws/\Fts Z n 1 ws Gs
theorem QU{n:Nat}{r q:Er}(h:Ls Z n r Gs)(u:q=.new #[xs,8]\/ ∃l,q=#[l,1]/\Z[l]? =#[xs.map MV.str,2])(p:xs.length<1000)(i:xs.Nodup)(e: ∀G∈Gs,Has xs G)(s:Gs.length<10000):
  ∃out T j,zH 2 JL [r,q] Z=#[out,Z++T,2]/\Fts (Z++T) j 1 out (qD xs Gs):=by
 obtain⟨lf,m,ws,a,y,v,A,o⟩: ∃lf m ws a,zE [r,q] Z=([.loc lf,m],Z++a)/\(Z++a)[lf]? =#[ws,2]/\SqM (Z++a) m _/\Fts (Z++a) n 1 ws Gs:=by
  rcases h with⟨l,ws,rfl,h1,h2⟩|⟨ws,rfl,h2⟩<;>rcases u with rfl|⟨k,rfl,h3⟩
  .exact⟨l,_,ws,_,rfl,zK h1,.inr ⟨_,rfl,zG _ _⟩,h2.grow⟩
  .exact⟨l,_,ws,[],by rw[aN];rfl,zK h1,.inr ⟨k,rfl,zK h3⟩,h2.grow⟩
  .exact⟨_,_,ws,_,by simp[zE],mT _ _ _,.inr ⟨_,rfl,rD _ _ _⟩,h2.grow⟩
  .exact⟨_,_,ws,_,rfl,zG _ _,.inr ⟨k,rfl,zK h3⟩,h2.grow⟩
 obtain⟨out,T,c,b⟩:=C7 v A p i o e s;rw[aA]at c b;obtain⟨d,w,z⟩:=JO rfl (by rw[y];exact c);refine⟨out,d,(Z++a).length,w,?_⟩;rcases z with rfl|⟨rfl,hlo⟩
 .exact b
 .exact b.cut hlo (by rw[lA];lia)
noncomputable def Wv(vs:K1):Nat->List (List MV)
 |0=>[[]]
 |n+1=>vs.flatMap λv=>(Wv vs n).map (v::·)
theorem XC(vs:K1): ∀n,(Wv vs n).length=vs.length ^ n
 |0=>rfl
 |n+1=>by
  have: ∀us:List MV,(us.flatMap λv=>(Wv vs n).map (v::·)).length=us.length * (Wv vs n).length:=λus=>by
   induction us with
   |nil=>simp
   |cons u us ih=>rw[List.flatMap_cons,lA,ih,lM,lC,Nat.add_mul,Nat.one_mul,Nat.add_comm]
  rw[Wv,this,XC vs n,Nat.pow_succ,Nat.mul_comm]
theorem XD{vs:K1}: ∀{k:K1},(∀d∈k,d∈vs)->k∈Wv vs k.length
 |[],_=>mS.mpr rfl
 |d::k,h=>List.mem_flatMap.mpr ⟨d,h d mF0,mM.mpr ⟨k,XD λx a=>h x (mO _ a),rfl⟩⟩
def UD{vs:K1}{P:K7}{n:Nat}(c:P.Nodup)(h: ∀k∈P,k.length=n/\ ∀d∈k,d∈vs):P.length<=vs.length ^ n:=by rw[<-XC];exact c.length_le_of_subset λk a=>by obtain⟨rfl,b⟩:=h k a;exact XD b
def yQ{as:List Rw}{x:Db}:x∈cG as↔ ∃b∈as, ∃t∈b.2,vn t=some x:=by simp[cG]
def On{as:List Rw}{vs:K1}(a: ∀r∈rows, ∀c∈r.2,c∈vs)(m: ∀b∈as,Mt rows b σ){x:Db}(i:x∈cG as):σ x∈vs:=by obtain⟨b,d,t,h,e⟩:=yQ.mp i;refine a _ (m b d) (σ x) (mM.mpr ⟨t,h,?_⟩);unfold UA;rw[e]
def pR{l:Nat}{x:Db}{fs:Ch}(a:Bool)(h:S[l]? =#[fs.map MV.str,2]):GU a (.val (.str x)) #[l,1] S=#[.bl (if a=true then !decide (x∈fs)else decide (x∈fs)),S,1]:=by rw[lP a h (tR x) DP,dec_is DQ]
def XE{cf:AZ}{ef:AX}{ρb:Rho}{gs:K5}{p:List Nat->Bool}(hs:stay gs Z)(a: ∀x,cf (#[x,4]::ρb) Z=.ok (p x) Z)(b: ∀x,ef (#[x,4]::ρb) Z=#[.str x,Z,1]):zX (yD 0) cf ef (none::ρb) gs #[xs,8] Z=.ok ((xs.filter p).map MV.str) Z:=
 pO hs λx _=>⟨_,rfl,a x,b x⟩
theorem QV(xs:Ch)(Ds:List OD): ∀Gs:List Ev,(joinM xs Gs Ds).length<=Gs.length * Ds.length
 |[]=>by simp[joinM]
 |G::Gs=>by
  have h1:=QV xs Ds Gs;have a:(WZ xs Ds (kW xs G)).length<=Ds.length:=ċ _ _;show((WZ xs Ds _).map _++joinM xs Gs Ds).length<=_;rw[lA,lM,lC,Nat.succ_mul]
  lia
def Nf{b:K1}{a:List Ev}(h:b.length=a.length)(N:Ev):N∈a↔ ∃D∈b.zip a,D.2=N:=by rw[<-mM,List.map_snd_zip (le_of_eq h.symm)]
theorem Ng(xs:Ch)(Gs:List Ev):(qD xs Gs).length<=Gs.length:=by
 have: ∀(Gs:List Ev)(P:List _),(WX xs Gs P).length<=P.length+Gs.length:=λGs=>by
  induction Gs with
  |nil=>exact λP=>à _
  |cons G Gs ih=>
   intro P;have h1:=ih (QN P (kW xs G));have a:=NF P (kW xs G);show(WX xs Gs (QN P _)).length<=_;rw[lC]
   lia
 rw[qD];simpa using this Gs []
structure QC(rows as:List Rw)(hd:Ch)(vs:K1)(ys:Ch):Prop where
 hv: ∀r∈rows, ∀c∈r.2,c∈vs
 vv: ∀v∈vs,VS v
 v1:1<=vs.length
 rl:rows.length<=90
 ha: ∀b∈as,(∀d∈b.2,bZ d)/\b.2.length<=4
 hw: ∀b∈as, ∀r∈rows,r.1=b.1->b.2.length=r.2.length
 al:as.length<=10
 hh: ∀x∈hd,x∈cG as
 hl:hd.length<=10
 hy: ∀x∈cG as,x∈ys
 yl:ys.length<=10
 pw:vs.length ^ ys.length<=100
 ph:vs.length ^ hd.length<128
structure MC(S:Sto)(lr lm:Nat)(rows as:List Rw)(hd:Ch)(vs:K1)(ys:Ch):Prop extends QC rows as hd vs ys where
 hr:S[lr]? =#[rows.map zM,2]
 hm:S[lm]? =some (.lst (rows.map λ_=>.int 1))
noncomputable abbrev MR(lr lm:Nat)(H A:K1)(a lf:Nat)(p b c d e f g:K2):Rho:=[#[lr],#[lm],#[[.tup H,.tup A],3],#[H,3],#[A,3],#[a],#[lf],p,b,c,d,e,f,g]
structure MI(S:Sto)(rows:List Rw)(hd:Ch)(done rest:List Rw)(kn:Ch)(ws:K1)(Gs:List Ev)(n0:Nat)(mk:Int)(lk lf:Nat)(Z:Sto):Prop where
 ex: ∃T,Z=S++T
 k:Z[lk]? =#[kn.map MV.str,2]
 f:Z[lf]? =#[ws,2]
 F:Fts Z n0 mk ws Gs
 b: ∀Y,BP #[mk,5] #[1,5] Y=.ok #[1,5] Y
 I:FI rows done kn Gs
 nd:kn.Nodup
 kk: ∀x,x∈kn↔x∈cG done/\(x∈hd\/x∈cG rest)
 gl:Gs.length<=100
 gL: ∀G∈Gs,G.length<=1000
theorem UE(xs:Ch): ∀(Gs:List Ev){P:K7},P.Nodup->(WX xs Gs P).Nodup
 |[],_,h=>h
 |G::Gs,_,h=>UE xs Gs (Vu h _)
section
variable{S:Sto}{lr lm:Nat}{rows as:List Rw}{hd:Ch}{vs:K1}{ys:Ch}
theorem Nh(C:MC S lr lm rows as hd vs ys){a:Rw}{done rest:List Rw}(ea:as=done++a::rest){kn:Ch}{ws:K1}{n0:Nat}{mk:Int}{lk lf:Nat}(M:MI S rows hd done (a::rest) kn ws Gs n0 mk lk lf Z)(c d e f g:K2):
  ∃kn' E a3 a7 ax ar c' d' e' f' g' Z',yX (MR lr lm #[hd,8] #[as,9] lk lf #[(done.length:Nat),0] (some (zM a)) c d e f g) Z=#[MR lr lm #[hd,8] #[as,9] ax ar #[(done.length:Nat),0] (some (zM a)) c' d' e' f' g',Z',0]/\MI S rows hd (done++[a]) rest kn' E a3 a7 1 ax ar Z':=by
 obtain⟨T0,aw⟩:=M.ex;have s:a∈as:=by rw[ea];simp
 have ay: ∀b∈rest,b∈as:=λb u=>by rw[ea];simp[u]
 have aq:=C.al;have bj:rest.length<=10:=by rw[ea]at aq;simp at aq;lia
 have vv: ∀r∈rows, ∀c∈r.2,VS c:=λr hr c hc=>C.vv c (C.hv r hr c hc);obtain⟨own,ho⟩: ∃own,own=xH [] (cG [a]):=⟨_,rfl⟩
 have j: ∀x,x∈own↔ ∃t∈a.2,vn t=some x:=λx=>by rw[ho,oF,yQ];simp
 have bp:own.length<=4:=by
  have h1:=rB (cG [a]) [];have h2:(cG [a]).length<=a.2.length:=by simp only[cG,List.flatMap_cons,List.flatMap_nil,aN];exact Ī _ _
  have h3:=(C.ha a s).2;rw[ho];simp at h1
  lia
 have ak:own.Nodup:=by rw[ho];exact DR _ nodup_nil
 obtain⟨sh,ag⟩: ∃sh,sh=own.filter λx=>decide (x∈kn):=⟨_,rfl⟩
 obtain⟨ask,Q⟩: ∃ask,ask=hd++xH [] (cG rest):=⟨_,rfl⟩
 obtain⟨ow,B⟩: ∃ow,ow=own.filter λx=>if decide (x∈sh)=true then true else decide (x∈ask):=⟨_,rfl⟩
 obtain⟨H,D⟩: ∃H,H=own.filter λx=>!decide (x∈sh):=⟨_,rfl⟩
 obtain⟨kn',ae⟩: ∃kn',kn'=(kn++H).filter λx=>decide (x∈ask):=⟨_,rfl⟩
 have z: ∀x,x∈sh↔x∈own/\x∈kn:=λx=>by rw[ag];simp
 have ai: ∀x,x∈ask↔x∈hd\/x∈cG rest:=λx=>by rw[Q,é,oF];simp
 have T: ∀x,x∈ow↔x∈own/\(x∈sh\/x∈ask):=λx=>by rw[B];simp
 have ah: ∀x,x∈kn'↔(x∈kn\/x∈own)/\x∈ask:=λx=>by
  rw[ae,D];simp only[Đ,é,z]
  grind
 have ab:kn'.Nodup:=by rw[ae];refine List.Pairwise.filter _ (į.mpr ⟨M.nd,D▸List.Pairwise.filter _ ak,λx i y hy e=>?_⟩);rw[D]at hy;simp[z]at hy;exact hy.2.elim (· hy.1) (· (e▸i))
 have af: ∀x,x∈kn'↔x∈cG (done++[a])/\(x∈hd\/x∈cG rest):=λx=>by
  have e1:x∈cG (done++[a])↔x∈cG done\/x∈own:=by rw[j];simp[yQ,or_and_right,exists_or]
  have e2:x∈cG (a::rest)↔x∈own\/x∈cG rest:=by rw[j];simp[yQ]
  rw[ah,ai,M.kk,e1,e2]
  grind
 have a6:kn'.length<=ys.length:=ab.length_le_of_subset λx i=>C.hy x (by obtain⟨b,u,h⟩:=yQ.mp ((af x).mp i).1;exact yQ.mpr ⟨b,by rw[ea];simp at u ⊢; exact u.imp id .inl,h⟩);have bl:=C.yl;have a0: ∀G∈Gs,Has sh G/\G.length<=1000:=λG J=>⟨⟨(M.I.dom G J).1,λx i=>((M.I.dom G J).2 x).mpr ((z x).mp i).2⟩,M.gL G J⟩
 have au: ∀G∈cC rows a,Has ow G:=λG J=>by have:=(QS (C.ha a s).1 (C.hw a s) vv j J).2;exact⟨this.1,λx i=>this.2 x ((T x).mp i).1⟩
 have bo:=C.rl;have fl:(cC rows a).length<=rows.length:=ø (Ī _ _) (ċ _ _);have zl: ∀(xs:Ch)(k:K1),(dD xs k).length<=xs.length:=λxs k=>by unfold dD;rw[ĸ,lM];lia
 have A: ∀{Y:Sto}{l:Nat}{o x:MO},Y[l]? =some o->(Y++[x])[l]? =some o:=λh=>zK h;obtain⟨Z1,q1⟩: ∃Y,Y=Z++[MO.lst #[own,8]]:=⟨_,rfl⟩
 obtain⟨v,q2⟩: ∃Y,Y=Z1++[MO.lst #[sh,8]]:=⟨_,rfl⟩
 obtain⟨w,q3⟩: ∃Y,Y=v++[MO.lst #[ask,8]]:=⟨_,rfl⟩
 have u3: ∀{l:Nat}{o:MO},Z[l]? =some o->w[l]? =some o:=λh=>by rw[q3,q2,q1];exact A (A (A h))
 have a9:Z1[Z.length]? =#[own.map MV.str,2]:=by rw[q1];exact zG _ _
 have bb:v[Z1.length]? =#[sh.map MV.str,2]:=by rw[q2];exact zG _ _
 have av:w[v.length]? =#[ask.map MV.str,2]:=by rw[q3];exact zG _ _
 have b9:w[Z.length]? =#[own.map MV.str,2]:=by rw[q3,q2];exact A (A a9)
 have W:w[Z1.length]? =#[sh.map MV.str,2]:=by rw[q3];exact A bb
 have uS: ∀{l:Nat}{o:MO},S[l]? =some o->w[l]? =some o:=λh=>u3 (by rw[aw];exact zK h);obtain⟨T4,w4,f1,f2⟩:=C5 (uS C.hr) (uS C.hm) vv #[] (C.ha a s);obtain⟨out,T5,n5,c1,c2⟩:=QU (q:=.new #[ow,8]) (.inr ⟨w4,rfl,f2⟩) (.inl rfl) (by have:=ċ (λx=>if decide (x∈sh)=true then true else decide (x∈ask)) own;rw[<-B]at this;lia) (B▸List.Pairwise.filter _ ak) au #[];obtain⟨U,q4⟩: ∃Y,Y=w++T4++T5++[MO.lst out]:=⟨_,rfl⟩
 obtain⟨L,q5⟩: ∃Y,Y=U++[MO.lst #[H,8]]:=⟨_,rfl⟩
 obtain⟨Z6,q6⟩: ∃Y,Y=L++[MO.lst #[kn',8]]:=⟨_,rfl⟩
 have O: ∀{l:Nat}{o:MO},w[l]? =some o->U[l]? =some o:=λh=>by rw[q4];exact zK (zK (zK h))
 have u6: ∀{l:Nat}{o:MO},U[l]? =some o->Z6[l]? =some o:=λh=>by rw[q6,q5];exact A (A h)
 have a':U[(w++T4++T5).length]? =#[out,2]:=by rw[q4];exact zG _ _
 have bc:L[U.length]? =#[H.map MV.str,2]:=by rw[q5];exact zG _ _
 have a5:Z6[L.length]? =#[kn'.map MV.str,2]:=by rw[q6];exact zG _ _
 have a4: ∀N∈qD ow (cC rows a),Has sh N/\N.length<=1000:=λN hN=>by obtain⟨G,J,rfl⟩:=lU.mp hN;have:=NL (au G J);refine⟨⟨this.1,λx i=>(this.2 x).mpr ((T x).mpr ⟨((z x).mp i).1,.inl i⟩)⟩,ø (zl _ _) (by have:=ċ (λx=>if decide (x∈sh)=true then true else decide (x∈ask)) own;rw[<-B]at this;lia)⟩
 have bq:=Ng ow (cC rows a);have F6:Fts Z6 n5 1 out (qD ow (cC rows a)):=by rw[q6,q5,q4];exact c2.grow.grow.grow
 have bg:(qD ow (cC rows a)).length * Gs.length<=90 * 100:=mul_le_mul #[] M.gl;obtain⟨l7,T7,ts,j1,j2,j3,j4⟩:=jn_f (m:=.loc Z1.length) (u6 (O (u3 M.f))) (u6 a') (.inr ⟨_,rfl,u6 (O W)⟩) (by have:=ċ (λx=>decide (x∈kn)) own;rw[<-ag]at this;lia) (Fts.move (λ_ _ h=>u6 (O (u3 h))) M.F) F6 a0 a4 #[] #[] M.b;obtain⟨P,aa⟩: ∃P,P=joinM sh Gs (out.zip (qD ow (cC rows a))):=⟨_,rfl⟩
 rw[<-aa]at j4;have ba:(out.zip (qD ow (cC rows a))).length<=90:=by rw[ĸ];lia
 have br:P.length<=9000:=by
  have:=QV sh (out.zip (qD ow (cC rows a))) Gs;have h2:=mul_le_mul M.gl ba;rw[<-aa]at this
  lia
 obtain⟨aj,X⟩:=Na (ask:=λx=>x∈ask) M.I (C.ha a s).1 (C.hw a s) vv j z T ah (λb u t ht x i ho=>(M.kk x).mpr ⟨yQ.mpr ⟨b,u,t,ht,i⟩,.inr (yQ.mpr (by obtain⟨t',h1,h2⟩:=(j x).mp ho;exact⟨a,mF0,t',h1,h2⟩))⟩) (Nf F6.len);rw[<-aa]at aj X;obtain⟨r,T8,k1,k2⟩:=Ab (n:=3) (F:=qW) (rs:=[#[lf,1],#[(w++T4++T5).length,1],#[Z1.length,1]]) rfl j1 #[] j3
 have az:Ls (Z6++T8) l7 r P:=by
  rcases k2 with⟨rfl,rfl⟩|⟨rfl,rfl,hlo⟩
  .exact .inl ⟨l7,ts,rfl,j3,j4⟩
  .exact .inr ⟨ts,rfl,j4.cut hlo #[]⟩
 obtain⟨E,T9,n9,m1,m2⟩:=QU (q:=#[L.length,1]) az (.inr ⟨_,rfl,zK a5⟩) #[] ab aj #[]
 have bf:(qD kn' P).length<=100:=by
  refine ø ?_ (ø (Nat.pow_le_pow_right C.v1 a6) C.pw);rw[qD,lM];refine UD (UE kn' P nodup_nil) λk hk=>?_;rcases (vL kn' P [] k).mp hk with h|⟨K,hK,rfl⟩
  .cases h
  .refine⟨lM _,λd hd=>?_⟩;obtain⟨x,i,rfl⟩:=mM.mp hd;obtain⟨σ,s1,s2⟩:=X.snd _ (lU.mpr ⟨K,hK,rfl⟩);rw[<-DT (G:=K) i,s2 x i];exact On C.hv s1 ((af x).mp i).1
 have p1:zH 1 xV [.new [zM a]] Z=#[own.map MV.str,Z,2]:=ho▸Vt (as:=[a]) (λb u=>by rw[mS.mp u];exact C.ha a s) (by simp);have p3:zH 1 xV [#[rest.map zM,6]] v=#[(xH [] (cG rest)).map MV.str,v,2]:=C4 (.inl rfl) (λb u=>C.ha b (ay b u)) #[]
 have a8:xA (.new #[hd,8]) (.new ((xH [] (cG rest)).map MV.str)) v=#[ask.map MV.str,v,2]:=by
  rw[Q,ï]
  exact AD rfl rfl (fits (by
   have h1:=C.hl;have h2:=DR (cG rest) (ks:=[]) nodup_nil;have h3:=h2.length_le_of_subset (l₂:=ys) λx i=>C.hy x (by rw[oF]at i;rw[yQ]at i ⊢; obtain h|⟨b,u,h⟩:=i;cases h;exact⟨b,ay b u,h⟩);simp only[lM]
   lia))
 have ao:cE #[as,9] (some ((done.length:Int)+1)) none=rest.map zM:=by rw[show(done.length:Int)+1=((done.length+1:Nat):Int) by simp,oG,ea,show done++a::rest=(done++[a])++rest by simp,ï,List.drop_left' (by simp)]
 have bh:kn.length+H.length<=14:=by
  have h1:=M.nd.length_le_of_subset (l₂:=ys) λx i=>C.hy x (by have:=((M.kk x).mp i).1;rw[yQ]at this ⊢; obtain⟨b,u,h⟩:=this;exact⟨b,by rw[ea];simp[u],h⟩);have h2:H.length<=own.length:=D▸ċ _ _
  lia
 have p6:xA #[lk,1] #[U.length,1] L=#[(kn++H).map MV.str,L,2]:=by rw[ï];exact AD (DB (by rw[q5];exact A (O (u3 M.k)))) (DB bc) (fits (by simp only[lM];lia))
 refine⟨kn',E,qD kn' P,n9,L.length,(Z6++T8++T9).length,#[Z.length],#[Z1.length],#[v.length],#[(w++T4++T5).length],#[U.length],Z6++T8++T9++[.lst E],?_,⟨?_,zK (zK (zK a5)),zG _ _,m2.grow,λ_=>rfl,X,ab,af,bf,λG J=>?_⟩⟩
 .unfold yX;apply zB
  .unfold kM;simp? [p1];rw[<-q1]
  apply zB
  .unfold kN;simp? [wM a9,lM,show own.length<1000000 by lia];rw[show rW 1 [5] _=[none,#[lk]]from rfl,XE (p:=λx=>decide (x∈kn)) (yW a9) (λx=>by unfold kG;exists 7,pR false (show Z1[lk]? =_ by rw[q1];exact A M.k),fT,iF) (λ_=>rfl), <-ag];simp? [<-q2];rfl
  apply zB
  .unfold kO;simp? [show OV [#[hd.map MV.str,6]] v=#[hd.map MV.str,v,2] from rfl,MQ,ao,p3,a8];rw[<-q3]
  apply zB
  .unfold kP;simp? [f1,wM (show(w++T4)[Z.length]? =_ from zK b9),lM,show own.length<1000000 by lia];rw[show rW 1 [10,11] _=[none,#[Z1.length],#[v.length]]from rfl,XE (p:=λx=>if decide (x∈sh)=true then true else decide (x∈ask)) (yW (zK b9)) (λx=>by unfold kH;simp? [pR false (show(w++T4)[Z1.length]? =_ from zK W),pR false (show(w++T4)[v.length]? =_ from zK av),fT,iF];split<;>rfl) (λ_=>rfl), <-B];simp? [c1];rw[<-q4]
  apply zB
  .unfold kQ;simp? [wM (O b9),lM,show own.length<1000000 by lia];rw[show rW 1 [10] _=[none,#[Z1.length]]from rfl,XE (p:=λx=>!decide (x∈sh)) (yW (O b9)) (λx=>by unfold kI;exists 7,pR true (O W)) (λ_=>rfl), <-D];simp? [<-q5];rfl
  apply zB
  .unfold kR;simp? [p6,TU,lM,show(kn++H).length<1000000 by rw[lA];lia];rw[show rW 1 [11] _=[none,#[v.length]]from rfl,XE (p:=λx=>decide (x∈ask)) (gP _) (λx=>by unfold kL;exists 7,pR false (show L[v.length]? =_ by rw[q5];exact A (O av)),fT,iF) (λ_=>rfl), <-ae];simp? [<-q6];rfl
  unfold kS;exists 7,k1,m1
 .exact⟨_,by rw[q6,q5,q4,q3,q2,q1,aw];simp only[aA];rfl⟩
 .obtain⟨K,hK,rfl⟩:=lU.mp J;exact ø (zl _ _) #[]
end
theorem Fs(E:Ev)(k d:MV):(putK E k d).map (·.1)=if k∈E.map (·.1)then E.map (·.1)else E.map (·.1)++[k]:=by
 unfold putK;by_cases h:k∈E.map (·.1)
 .have hs:(look E k).isSome=true:=by
   cases z:look E k with
   |none=>obtain⟨p,a,e⟩:=mM.mp h;exact absurd e (Mr z p a)
   |some d=>rfl
  rw[iP hs,iP h,ĕ];exact Ģ λp _=>by simp only[Function.comp];split<;>rfl
 .rw[iN (λz=>h (QH z)),iN h,ï];rfl
theorem JT(xs:Ch)(m:MV): ∀(Gs:List Ev)(E:Ev)(P:K7),E.map (·.1)=P.map MV.tup->((Gs.map λG=>(MV.tup (kW xs G),m)).foldl (λa p=>putK a p.1 p.2) E).map (·.1)=(WX xs Gs P).map MV.tup
 |[],_,_,h=>h
 |G::Gs,E,P,h=>JT xs m Gs _ (QN P _) (by
  have:MV.tup _∈P.map MV.tup↔kW xs G∈P:=⟨λz=>by obtain⟨k,b,e⟩:=mM.mp z;exact MV.tup.inj e▸b,λz=>ģ z⟩
  show(putK E _ m).map (·.1)=_;rw[Fs,h];unfold QN;by_cases z:kW xs G∈P
  .rw[iP z,iP (this.mpr z)]
  .rw[iN z,iN λy=>z (this.mp y),ï];rfl)
theorem JU{xs:Ch}{m:MV}: ∀(Gs:List Ev),(∀G∈Gs,Has xs G)->fP (Gs.map λG=>.tup [.tup (kW xs G),m])=some (Gs.map λG=>(.tup (kW xs G),m))
 |[],_=>rfl
 |G::Gs,h=>by show(if keyOk _=true then(fP _).map _ else none)=_;rw[iP (GE (h G mF0).vs),JU Gs λK a=>h K (mO _ a)];rfl
def JV(rows as:List Rw)(hd:Ch)(k:K1):Prop:= ∃σ:List Nat->MV,(∀b∈as,Mt rows b σ)/\k=hd.map σ
section
variable{S:Sto}{lr lm:Nat}{rows as:List Rw}{hd:Ch}{vs:K1}{ys:Ch}
theorem Ft(C:MC S lr lm rows as hd vs ys): ∀(rest done:List Rw),as=done++rest-> ∀{kn:Ch}{ws:K1}{Gs:List Ev}{n0:Nat}{mk:Int}{n lf:Nat}{Z:Sto},MI S rows hd done rest kn ws Gs n0 mk n lf Z-> ∀p b c d e f g:Option MV,
  ∃kn' j m k mk' h i v u s q r y w o,wK (oR 2 (zC (yD 7) (zC (yD 8) yL))) yX [] (((rest.map zM).zipIdx done.length).map λp=>.tup [.int (p.2:Nat),p.1]) (MR lr lm #[hd,8] #[as,9] n lf p b c d e f g) Z=#[MR lr lm #[hd,8] #[as,9] h i v u s q r y w,o,0]/\MI S rows hd as [] kn' j m k mk' h i o
 |[],done,e0,kn,ws,Gs,n0,mk,n,lf,Z,M,p,b,c,d,e,f,g=>⟨kn,ws,Gs,n0,mk,n,lf,p,b,c,d,e,f,g,Z,rfl,by rw[aN]at e0;rw[e0];exact M⟩
 |a::rest,done,ea,kn,ws,Gs,n0,mk,n,lf,Z,M,p,b,c,d,e,f,g=>by obtain⟨_,_,_,_,J,F,E,I,G,B,D,Z1,h1,H⟩:=Nh C ea M c d e f g;obtain⟨kn',j,m,k,mk',h,i,v,u,s,q,r,y,w,o,z,A⟩:=Ft C rest _ (by rw[ea];simp) H _ _ E I G B D;refine⟨kn',j,m,k,mk',h,i,v,u,s,q,r,y,w,o,?_,A⟩;rw[lA]at z;rw[æ,zipIdx_cons,æ,yH rfl h1 (gP _)];exact z
theorem ma_f(C:MC S lr lm rows as hd vs ys): ∃(l:Nat)(T:Sto)(u:K7)(kvs:Ev),xP [.loc lr,.loc lm,.tup [.tup #[hd,8],.tup #[as,9]]] S=.ok #[l,1] (S++T)/\↑1<=l/\cF (S++T) #[l,1]=some (l,kvs)/\(S++T)[l]? =#[kvs,7]/\kvs.map (·.1)=u.map MV.tup/\u.Nodup/\ ∀k,k∈u↔JV rows as hd k:=by
 obtain⟨A,o⟩: ∃Y,Y=S++[MO.lst [],.dic [],.lst [.tup [.loc (↑1+1),.int (-1)]]]:=⟨_,rfl⟩
 obtain⟨kn,ws,Gs,n0,mk,U,lf,p,b,c,d,e,f,g,Z,L,M⟩:=Ft C as [] rfl (kn:=[]) (ws:=[.tup [.loc (↑1+1),.int (-1)]]) (Gs:=[[]]) (n0:=0) (mk:= -1) (Z:=A) ⟨⟨_,o⟩,by rw[o];exact mT _ _ _,by rw[o];exact Ep (i:=2) rfl,⟨⟨_,rfl,zero_le _,by rw[o];exact Ep (i:=1) rfl⟩,trivial⟩,λ_=>rfl,⟨λG a=>by rw[mS.mp a];exact⟨NC,λx=>⟨λz=>absurd rfl z,λz=>by cases z⟩⟩,λG _=>⟨λ_=>.non,(λb E=>by cases E),λx j=>by cases j⟩,λσ _=>⟨[],mS.mpr rfl,λx j=>by cases j⟩⟩,nodup_nil,λx=>by simp[cG],by simp,λG a=>by rw[mS.mp a];simp⟩ none none none none none none none;obtain⟨T,s⟩:=M.ex;have v: ∀x,x∈kn↔x∈hd:=λx=>by rw[M.kk x];exact⟨λh=>h.2.elim id λz=>by simp[cG]at z,λh=>⟨C.hh x h,.inl h⟩⟩
 have y: ∀G∈Gs,Has hd G:=λG a=>⟨(M.I.dom G a).1,λx j=>((M.I.dom G a).2 x).mpr ((v x).mpr j)⟩
 have m:=M.F.len;have Q:=M.gl
 have N:zX (oR 2 (zC (yD 0) (zC (yD 1) yL))) xB yN [none,none,#[hd.map MV.str,3]] [(lf,ws)] ws Z=.ok (Gs.map λG=>.tup [.tup (kW hd G),.int mk]) Z:=by
  have:=dA (f:=Prod.fst) (gf:=oR 2 (zC (yD 0) (zC (yD 1) yL))) (cf:=xB) (ef:=yN) (ρb:=[none,none,#[hd.map MV.str,3]]) (yW M.f) λD B=>by obtain⟨h1,e,w,J⟩:=NG M.F D B;refine⟨_,by rw[w];rfl,rfl,?_⟩;have K:zH 2 yG [#[e,1],#[hd.map MV.str,6]] Z=.ok #[kW hd D.2,6] Z:=WU J (y _ h1).1 (.inl rfl) (y _ h1).2 (by have:=C.hl;lia);unfold yN;exists 7,K
  rw[List.map_fst_zip (le_of_eq m)]at this;rw[this,show(ws.zip Gs).map (λD=>MV.tup [.tup (kW hd D.2),.int mk])=((ws.zip Gs).map Prod.snd).map λG=>MV.tup [.tup (kW hd G),.int mk] by rw[ĕ];rfl,List.map_snd_zip (le_of_eq m.symm)]
 obtain⟨kvs,n⟩: ∃kvs,kvs=WD (Gs.map λG=>(MV.tup (kW hd G),MV.int mk)):=⟨_,rfl⟩
 have r:kvs.map (·.1)=(WX hd Gs []).map MV.tup:=by rw[n];exact JT hd _ Gs [] [] rfl
 refine⟨Z.length,_,WX hd Gs [],kvs,?_,by rw[s,lA];lia,?_,by rw[<-aA, <-s];exact zG _ _,r,UE hd Gs nodup_nil,λk=>?_⟩
 .show yA _=_;unfold cP;rw[zD rfl,zD (show gF _ S=#[[#[lr],#[lm],#[[.tup #[hd,8],.tup #[as,9]],3],#[hd.map MV.str,3],#[as.map zM,3],none,none,none,none,none,none,none,none,none],S,0] from rfl)];rw[zD (show xW [#[lr],#[lm],#[[.tup #[hd,8],.tup #[as,9]],3],#[hd.map MV.str,3],#[as.map zM,3],none,none,none,none,none,none,none,none,none] S=#[[#[lr],#[lm],#[[.tup #[hd,8],.tup #[as,9]],3],#[hd.map MV.str,3],#[as.map zM,3],#[↑1],none,none,none,none,none,none,none,none],S++[.lst []],0] by unfold xW;exists 7,rfl)];rw[zD (show xX [#[lr],#[lm],#[[.tup #[hd,8],.tup #[as,9]],3],#[hd.map MV.str,3],#[as.map zM,3],#[↑1],none,none,none,none,none,none,none,none] (S++[.lst []])=#[MR lr lm #[hd,8] #[as,9] ↑1 (↑1+2) none none none none none none none,A,0] by unfold xX;simp? [ES];rw[o];simp)];rw[zD (by unfold gG;simp? [Mi];exact L)];unfold gH;simp? [wM M.f,show ws.length<1000000 by lia];rw[show rW 2 [3] _=[none,none,#[hd.map MV.str,3]]from rfl,N];simp? [show JK [.new _] Z=.ok #[Z.length,1] (Z++[.dic kvs]) by unfold JK;dsimp only;rw[show(jB Z _).bind fP=fP _ from rfl,JU Gs y,n]];rw[s,aA];rfl
 .rw[<-aA, <-s];unfold cF;dsimp only;rw[zG];dsimp only;rw[iP];rw[ą];intro q H;have:q.1∈kvs.map (·.1):=ģ H;rw[r]at this;obtain⟨k,_,e⟩:=mM.mp this;rw[<-e];rfl
 .rw[vL];constructor
  .rintro(h|⟨G,a,rfl⟩)
   .cases h
   .obtain⟨σ,P,O⟩:=M.I.snd G a;exact⟨σ,P,Ģ λx j=>O x ((v x).mpr j)⟩
  .rintro⟨σ,h1,rfl⟩;obtain⟨G,a,w⟩:=M.I.cmp σ h1;exact .inr ⟨G,a,Ģ λx j=>(w x ((v x).mpr j)).symm⟩
def tV(Q:QC rows as hd vs ys){k:K1}(h:JV rows as hd k):k.length=hd.length/\ ∀d∈k,d∈vs:=by obtain⟨σ,h1,rfl⟩:=h;refine⟨lM _,λd hd=>?_⟩;obtain⟨x,a,rfl⟩:=mM.mp hd;exact On Q.hv h1 (Q.hh x a)
theorem XF(Q:QC rows as hd vs ys)(b:S[lr]? =#[rows.map zM,2]): ∃(a:K7)(T:Sto),a.Nodup/\(∀k,k∈a↔JV rows as hd k)/\zY [.loc lr,.tup [.tup #[hd,8],.tup #[as,9]]] S=#[(kX a).map MV.tup,S++T,2]:=by
 obtain⟨l,T,a,kvs,h1,u,w,j,p,h,i⟩:=ma_f ⟨Q,zK b,zG _ _⟩;have s:=Q.rl;have e: ∀k∈a,k.length=hd.length/\ ∀d∈k,d∈vs:=λk m=>tV Q ((i k).mp m);have o:zX (yD 0) lY lZ [none] [_] #[rows,9] S=.ok _ S:=dA (yW b) λr _=>⟨_,rfl,rfl,rfl⟩
 have v:zH 3 xP [#[lr,1],.new _,.val _] S=.ok _ _:=Aa rfl h1 (by rw[lA]at u;lia) j;have n:AV [#[l,1]] (S++[.lst (rows.map λ_=>.int 1)]++T)=#[a.map MV.tup,S++[.lst (rows.map λ_=>.int 1)]++T,2]:=by unfold AV;dsimp only;rw[w];dsimp only;rw[p]
 have q:=Nd (λt c d hd=>Q.vv d ((e t c).2 d hd)) (λt c=>(e t c).1) (by have:=Q.hl;lia) h (lt_of_le_of_lt (UD h e) Q.ph) (S++[.lst (rows.map λ_=>.int 1)]++T);refine⟨a,[.lst (rows.map λ_=>.int 1)]++T,h,i,?_⟩;show yA (rR [#[lr],some _] S)=_;unfold rR qX;simp? [wM b,lM,show rows.length<1000000 by lia];rw[show rW 1 [] [some (MV.loc lr),some _]=[none]from rfl,o];simp? [v,n,q];rw[aA];rfl
end
def QC.of{rows' as:List Rw}{hd:Ch}{vs:K1}(Q:QC rows as hd vs ys)(h: ∀r,r∈rows'↔r∈rows)(c:rows'.length<=90):QC rows' as hd vs ys:=
 ⟨λr a=>Q.hv r ((h r).mp a),Q.vv,Q.v1,c,Q.ha,λb d r a=>Q.hw b d r ((h r).mp a),Q.al,Q.hh,Q.hl,Q.hy,Q.yl,Q.pw,Q.ph⟩
section
variable{rows rows' as:List Rw}{hd:Ch}{vs:K1}{ys:Ch}{F:K7}
def Wb(Q:QC rows as hd vs ys)(m:F.Nodup)(a: ∀k,k∈F↔JV rows as hd k)(h: ∀r,r∈rows'↔r∈rows)(e:rows'.length<=90)(j:S[lr]? =#[rows'.map zM,2]): ∃T,zY [.loc lr,.tup [.tup #[hd,8],.tup #[as,9]]] S=#[(kX F).map MV.tup,S++T,2]:=by obtain⟨b,T,h1,i,n⟩:=XF (Q.of h e) j;refine⟨T,?_⟩;rw[n, <-JS (λt c d hd=>Q.vv d ((tV Q ((a t).mp c)).2 d hd)) ((yP b).trans ((List.perm_ext_iff_of_nodup h1 m).mpr λk=>by rw[i,a];unfold JV Mt;simp only[h])) (NN b)]
def GF(Q:QC rows as hd vs ys)(c: ∀k,k∈F↔JV rows as hd k):(∀t∈kX F, ∀d∈t,VS d)/\ ∀n,tX n ((kX F).map MV.tup):=by have b:=λt a d hd=>Q.vv d ((tV Q ((c t).mp ((yP F).mem_iff.mp a))).2 d hd);exact⟨b,λn=>cN λd hd=>by obtain⟨t,a,rfl⟩:=mM.mp hd;exact iL (iR (b t a)).1⟩
def Ni(Q:QC rows as hd vs ys)(c:F.Nodup)(a: ∀k,k∈F↔JV rows as hd k)(b:S[lr]? =#[rows.map zM,2]):zH 2 zY [#[lr,1],#[[.tup #[hd,8],.tup #[as,9]],6]] S=#[(kX F).map MV.tup,S,2]:=
 let ⟨_,h⟩:=Wb Q c a (λ_=>Iff.rfl) Q.rl b;mZ rfl h ((GF Q a).2 _)
def Wc(Q:QC rows as hd vs ys)(c:F.Nodup)(a: ∀k,k∈F↔JV rows as hd k)(h: ∀r,r∈rows'↔r∈rows)(b:rows'.length<=90)(S:Sto):zH 2 zY [.new #[rows',9],#[[.tup #[hd,8],.tup #[as,9]],6]] S=#[(kX F).map MV.tup,S,2]:=by obtain⟨T,h1⟩:=Wb Q c a h b (zG S _);exact bY rfl (show zE [.new _,.val _] S=([.loc ↑1,.tup [.tup _,.tup _]],S++[.lst _])from rfl) (by rw[h1,aA]) (.inl rfl) ((GF Q a).2 _)
end
def We: ∀n,n<=40->sliceRange (sliceBounds none none (some (-1)) n).1 (sliceBounds none none (some (-1)) n).2.1 (sliceBounds none none (some (-1)) n).2.2=(List.range n).reverse:=by decide+kernel
theorem QW{l:Nat}{ds:K1}(b:S[l]? =#[ds,2])(a:ds.length<=40):uK (-1) #[l,1] none none S=#[ds.reverse,S,2]:=by
 have e:mX ds none none (some (-1))=ds.reverse:=by unfold mX;rw[We _ a,List.filterMap_reverse,tU]
 unfold uK;rw[fG b];dsimp only;rw[e,iP (fits (by rw[List.length_reverse];lia))]
section
variable{rows rows' as as':List Rw}{hd:Ch}{vs:K1}{ys:Ch}
def DV(h: ∀r,r∈rows->r∈rows')(h': ∀b,b∈as'->b∈as){k:K1}(a:JV rows as hd k):JV rows' as' hd k:=
 let ⟨σ,h1,c⟩:=a;⟨σ,λb d=>h _ (h1 b (h' b d)),c⟩
def Fv(Q:QC rows as hd vs ys)(h: ∀b,b∈as'->b∈as)(c:as'.length<=10)(d: ∀x∈hd,x∈cG as'):QC rows as' hd vs ys:=
 ⟨Q.hv,Q.vv,Q.v1,Q.rl,λb a=>Q.ha b (h b a),λb a=>Q.hw b (h b a),c,d,Q.hl,λx e=>by obtain⟨b,a,t⟩:=yQ.mp e;exact Q.hy x (yQ.mpr ⟨b,h b a,t⟩),Q.yl,Q.pw,Q.ph⟩
def XG(Q:QC rows as hd vs ys)(h: ∀b,b∈as'↔b∈as)(a:as'.length<=10):QC rows as' hd vs ys:=Fv Q (λb=>(h b).mp) a λx d=>by obtain⟨b,c,t⟩:=yQ.mp (Q.hh x d);exact yQ.mpr ⟨b,(h b).mpr c,t⟩
def QX(h: ∀b,b∈as'↔b∈as){k:K1}:JV rows as' hd k↔JV rows as hd k:=⟨DV (λ_=>id) λb=>(h b).mpr,DV (λ_=>id) λb=>(h b).mp⟩
theorem XH{ds:K1}(a: ∀d∈ds,pd d=true/\uZ d<zF){l:Nat}(h:S[l]? =#[ds,2]):EQ (.new ds) #[l,1] S=#[.bl false,S,1]:=by
 obtain⟨bs,h1,b⟩:=vD λd hd f c=>oE zF (a d hd).1 (a f c).1 (a d hd).2;rw[dT0 rfl,aE]at b;have e:IR S #[l,1]=some (.ls ds):=by show(jB S _).map Vw.ls=_;rw[fG h];rfl
 have:uF S zF (.new ds) #[l,1]=some true:=by unfold uF;rw[e];show(if ds.length=ds.length then(BN _ ds ds).map λbs=>bs.all id else some false)=_;rw[iP rfl,h1];show some (bs.all id)=_;rw[b.1]
 unfold EQ;rw[this];rfl
theorem Nj{ds:K1}(a: ∀d∈ds,pd d=true/\uZ d<zF)(S:Sto):EQ (.new ds) (.new ds) S=#[.bl false,S,1]:=by
 obtain⟨bs,h1,b⟩:=vD λd hd f c=>oE zF (a d hd).1 (a f c).1 (a d hd).2;rw[dT0 rfl,aE]at b;have:uF S zF (.new ds) (.new ds)=some true:=by show(if ds.length=ds.length then(BN _ ds ds).map λbs=>bs.all id else some false)=_;rw[iP rfl,h1];show some (bs.all id)=_;rw[b.1]
 unfold EQ;rw[this];rfl
end
section
variable{y0 y1 y2 s:Db}
noncomputable def HN(y0 y1 y2 s x:Db):List Nat:=if x=y2 then y1 else if x=y1 then y0 else s
noncomputable def muN(y0 y1 y2 s x:Db):List Nat:=if x=s then y0 else if x=y0 then y1 else y2
theorem C9(h1:y0≠y1)(a:y0≠y2)(hs:s∉[y0,y1,y2]){x:Db}(b:x∈[y0,y1,y2]):muN y0 y1 y2 s (HN y0 y1 y2 s x)=x:=by
 unfold muN HN
 grind
def Oo(f:List Nat->List Nat)(t:MV):MV:=match vn t with
 |some x=>.tup [.str GW,.str (f x)]
 |none=>t
def NZ(f:List Nat->List Nat)(a:Rw):Rw:=(a.1,a.2.map (Oo f))
def GH(f:List Nat->List Nat)(x:Db):Oo f (.tup [.str GW,.str x])=.tup [.str GW,.str (f x)]:=by unfold Oo;rw[mR]
def QY(f:List Nat->List Nat)(v:MV):Oo f (.tup [.str IS,v])=.tup [.str IS,v]:=by unfold Oo;rw[BW]
def Oq{f:List Nat->List Nat}{a:Rw}(h: ∀t∈a.2,bZ t):Mt rows (NZ f a) σ↔Mt rows a (σ∘f):=by
 unfold Mt NZ
 rw[ĕ,Ģ λt b=>show(UA σ∘Oo f) t=UA (σ∘f) t by
  rcases h t b with⟨x,rfl⟩|⟨v,_,rfl⟩
  .show UA σ _=_;rfl
  .show UA σ _=_;rw[QY,NI,NI]]
variable{rows as:List Rw}{hd:Ch}{vs:K1}{ys:Ch}{f g:List Nat->List Nat}
def Wf(Q:QC rows as hd vs ys)(i: ∀x∈ys,g (f x)=x){k:K1}:JV rows (as.map (NZ f)) (hd.map f) k↔JV rows as hd k:=by
 constructor
 .rintro⟨σ,h1,d⟩;exact⟨_,λb c=>(Oq (Q.ha b c).1).mp (h1 _ (ģ c)),by rw[d,ĕ]⟩
 .rintro⟨σ,h1,d⟩;refine⟨σ∘g,λb c=>?_,?_⟩
  .obtain⟨a,e,rfl⟩:=mM.mp c;refine(Oq (Q.ha a e).1).mpr (UB (λt j x h=>?_) (h1 a e));show σ x=σ _;rw[i x (Q.hy x (yQ.mpr ⟨a,e,t,j,h⟩))]
  .rw[d,ĕ];refine Ģ λx h=>?_;show σ x=σ _;rw[i x (Q.hy x (Q.hh x h))]
def E1(Q:QC rows as hd vs ys):QC rows (as.map (NZ f)) (hd.map f) vs (ys.map f):=by
 have n: ∀x,x∈cG (as.map (NZ f))↔ ∃y∈cG as,x=f y:=λx=>by
  rw[yQ];constructor
  .rintro⟨b,i,t,h,e⟩;obtain⟨a,c,rfl⟩:=mM.mp i;obtain⟨u,m,rfl⟩:=mM.mp h;rcases (Q.ha a c).1 u m with⟨y,rfl⟩|⟨v,_,rfl⟩
   .rw[GH]at e;exact⟨y,yQ.mpr ⟨a,c,_,m,mR y⟩,(ä e).symm⟩
   .rw[QY,BW]at e;cases e
  .rintro⟨y,j,rfl⟩;obtain⟨a,c,t,h,e⟩:=yQ.mp j;refine⟨_,ģ c,_,ģ h,?_⟩;rcases (Q.ha a c).1 t h with⟨z,rfl⟩|⟨v,_,rfl⟩
   .rw[mR]at e;cases e;rw[GH,mR]
   .rw[BW]at e;cases e
 refine⟨Q.hv,Q.vv,Q.v1,Q.rl,λb i=>?_,λb i r o e=>?_,by rw[lM];exact Q.al,λx k=>?_,by rw[lM];exact Q.hl,λx k=>?_,by rw[lM];exact Q.yl,by rw[lM];exact Q.pw,by rw[lM];exact Q.ph⟩
 .obtain⟨a,c,rfl⟩:=mM.mp i;obtain⟨h1,p⟩:=Q.ha a c;refine⟨λd hd=>?_,by show(a.2.map _).length<=4;rw[lM];exact p⟩;obtain⟨t,h,rfl⟩:=mM.mp hd;rcases h1 t h with⟨x,rfl⟩|⟨v,hv,rfl⟩
  .rw[GH];exact .inl ⟨_,rfl⟩
  .rw[QY];exact .inr ⟨v,hv,rfl⟩
 .obtain⟨a,c,rfl⟩:=mM.mp i;show(a.2.map _).length=_;rw[lM];exact Q.hw a c r o e
 .obtain⟨y,j,rfl⟩:=mM.mp k;exact(n _).mpr ⟨y,Q.hh y j,rfl⟩
 .obtain⟨y,j,rfl⟩:=(n x).mp k;exact ģ (Q.hy y j)
end
theorem Ac{y0 y1 y2:Db}(q:y0.length<=6){l:Nat}(i:S[l]? =#[[y0,y1,y2].map MV.str,2]): ∃s,s∉[y0,y1,y2]/\zH 1 dY [#[l,1]] S=#[[.str s,.str y0,.str y1],S,2]:=by
 have m:gW #[l,1] #[0,5] S=#[.str y0,S,1]:=fF i rfl;have i1: ∀o,gW #[l,1] #[1,5] (S++[o])=#[.str y1,S++[o],1]:=λo=>fF (zK i) rfl;have j: ∀o,gW #[l,1] #[0,5] (S++[o])=#[.str y0,S++[o],1]:=λo=>fF (zK i) rfl;have p: ∀c:Nat,xA (.val (.str [c])) (.val (.str y0)) S=#[.str ([c]++y0),S,1]:=λc=>adds (by simp;lia) S
 have d:zX (yD 0) wV wW [none,#[l]] [] _ S=.ok ((([99,100,101,102]:Db).filter λc=>!decide ([c]++y0∈[y0,y1,y2])).map λc=>MV.str ([c]++y0)) S:=pO (gP _) λc _=>by
  refine⟨[#[[c],4],#[l]],rfl,?_,?_⟩
  .unfold wV;exists 7,m,p,pR true i
  .unfold wW;exists 7,m,p
 have ne: ∃c r,(([99,100,101,102]:Db).filter λc=>!decide ([c]++y0∈[y0,y1,y2]))=c::r:=by
  cases z:(([99,100,101,102]:Db).filter λc=>!decide ([c]++y0∈[y0,y1,y2]))with
  |cons c r=>exact⟨c,r,rfl⟩
  |nil=>
   have h: ∀c∈_,[c]++y0=y1\/[c]++y0=y2:=λc d=>by
    have:=List.filter_eq_nil_iff.mp z c d;rw[Bool.not_eq_true,Bool.not_eq_false',decide_eq_true_eq]at this;simp only[mC,nM,or_false]at this;rcases this with e|e|e
    .have:=congrArg List.length e;simp at this
    .exact .inl e
    .exact .inr e
   have a:=h 99 (by simp);have b:=h 100 (by simp);have c:=h 101 (by simp);exfalso
   grind
 obtain⟨c,r,n⟩:=ne;rw[n]at d;have k:=(Đ.mp (n▸(mF0:c∈c::r))).2;refine⟨_,by simpa using k,mZ (T:=[.lst ((c::r).map λc=>MV.str ([c]++y0))]) rfl ?_ (pP [[c]++y0,y0,y1] _)⟩;show yA (dX [#[l],none] S)=_;unfold dX;refine cB (zB (ρ':=[#[l],#[↑1]]) (S':=S++[.lst ((c::r).map λc=>MV.str ([c]++y0))]) ?_ ?_)
 .unfold aG;exists 7,show Ym (.val (.str [99,100,101,102])) S=.ok ⟨_,[]⟩ S from rfl,show(([99,100,101,102]:Db).map λc=>MV.str [c]).length<1000000 by decide,d
 .unfold aH;simp? [show gW #[↑1,1] #[0,5] (S++[.lst ((c::r).map λc=>MV.str ([c]++y0))])=#[.str ([c]++y0),_,1] from fF (zG _ _) (at0 _ _),j,i1,Th]
def Wg(S:Sto):CP (.val (.str GW)) (.val (.str [118,97,114])) S=#[.bl true,S,1]:=KZ (uO _ _ _)
def Nk(S:Sto):CP (.val (.str IS)) (.val (.str [118,97,114])) S=#[.bl false,S,1]:=KZ (uO _ _ _)
section
variable{y0 y1 y2 s:Db}
def Fw(y0 y1 y2 s:Db):Ev:=putK (putK (putK [] (.str y0) (.str s)) (.str y1) (.str y0)) (.str y2) (.str y1)
def Fx:tY (Fw y0 y1 y2 s):=DU (p:=(.str y2,.str y1)) (DU (p:=(.str y1,.str y0)) (DU (p:=(.str y0,.str s)) NC ⟨⟨_,rfl⟩,.inr ⟨_,rfl⟩⟩) ⟨⟨_,rfl⟩,.inr ⟨_,rfl⟩⟩) ⟨⟨_,rfl⟩,.inr ⟨_,rfl⟩⟩
def QZ{x:Db}(c:x∈[y0,y1,y2]):look (Fw y0 y1 y2 s) (.str x)=#[HN y0 y1 y2 s x,4]:=by
 unfold Fw;rw[rE,rE,rE];simp only[mC,nM,or_false]at c;unfold HN;by_cases a:x=y2
 .rw[iP (by rw[a]),iP a]
 .rw[iN (λz=>a (MV.str.inj z).symm),iN a];by_cases b:x=y1
  .rw[iP (by rw[b]),iP b]
  .rw[iN (λz=>b (MV.str.inj z).symm),iN b,iP (by rcases c with rfl|e|e;rfl;exact absurd e b;exact absurd e a)]
noncomputable abbrev Rn(q:MV)(ln lo:Nat)(a la:Nat)(t u p:K2):Rho:=[some q,#[ln],#[lo],#[a],#[la],t,u,p]
def Nl{a:Nat}(b:Z[a]? =#[Fw y0 y1 y2 s,7]){ts:K1}(e: ∀d∈ts,bZ d)(c: ∀t∈ts, ∀x,vn t=some x->x∈[y0,y1,y2]):zX (oR 2 (zC (yD 0) (zC (yD 1) yL))) xZ yK [none,none,#[a]] [] ts Z=.ok (ts.map (Oo (HN y0 y1 y2 s))) Z:=by
 have:=dA (f:=id) (g:=Oo _) (gf:=oR 2 (zC (yD 0) (zC (yD 1) yL))) (cf:=xZ) (ef:=yK) (ρb:=[none,none,some _]) (gP Z) λd hd=>by
  rcases e d hd with⟨x,rfl⟩|⟨v,_,rfl⟩
  .refine⟨[some _,some _,#[a]],rfl,rfl,?_⟩;unfold yK;simp? [Wg,TX b Fx (QZ (c _ hd x (mR x))),tup2];rw[GH]
  .refine⟨_,rfl,rfl,?_⟩;unfold yK;simp? [Nk,fT,iF,tup2];rw[QY]
 rw[List.map_id]at this;exact this
theorem Fy{q:MV}{ln lo k:Nat}{B:Sto}(w:B[k]? =#[Fw y0 y1 y2 s,7]): ∀(as i:List Rw)(T:Sto)(t u p:K2),(∀b∈as,(∀d∈b.2,bZ d)/\b.2.length<=4)->(∀b∈as, ∀t∈b.2, ∀x,vn t=some x->x∈[y0,y1,y2])->i.length+as.length<1000->
  ∃n t' o v,wK (oR 2 (zC (yD 5) (zC (yD 6) yL))) jG [] #[as,9] (Rn q ln lo k B.length t u p) (B++.lst #[i,9]::T)=#[Rn q ln lo k B.length t' o v,(B++.lst ((i++as.map (NZ (HN y0 y1 y2 s))).map zM)::n),0]
 |[],i,T,t,u,p,_,_,_=>⟨T,t,u,p,by rw[List.map_nil,List.map_nil,aN];rfl⟩
 |b::as,i,T,t,u,p,h,hy,hl=>by
  rw[lC]at hl;obtain⟨z,C⟩:=h b (.head _);generalize j:B++.lst #[i,9]::T=B2;have m:B2[k]? =#[Fw y0 y1 y2 s,7]:=by rw[<-j];exact zK w
  have e:=Nl m z (hy b (.head _));generalize D:b.2.map _=U at e;have gf:(B2++[MO.lst U])[B.length]? =#[i.map zM,2]:=by rw[<-j];exact zK (mT _ _ _)
  have y:mY #[B.length,1] [.val (zM (NZ (HN y0 y1 y2 s) b))] (B2++[MO.lst U])=#[.non,(B++.lst ((i++[NZ (HN y0 y1 y2 s) b]).map zM)::(T++[MO.lst U])),1]:=by rw[wZ gf (by rw[lM];omega), <-j,aA,Ğ,WM,ï];rfl
  obtain⟨n,t',o,v,A⟩:=Fy w as (i++[NZ (HN y0 y1 y2 s) b]) (T++[MO.lst U]) #[b.1,0] #[b.2,3] #[B2.length] (λc r=>h c (.tail _ r)) (λc r=>hy c (.tail _ r)) (by rw[lA];simp;omega);refine⟨n,t',o,v,?_⟩;rw[æ,yH (b:=jG) rfl (zB (ρ':=Rn q ln lo k B.length #[b.1,0] #[b.2,3] #[B2.length]) (S':=B2++[.lst U]) ?_ ?_) (gP _),A,aA]
  .rfl
  .unfold gI;exists 7,pN,show b.2.length<1000000 by omega,show∀a b c d e f g h:Option MV,rW 2 [3] [a,b,c,d,e,f,g,h]=[none,none,d]from λ_ _ _ _ _ _ _ _=>rfl,e
  .unfold gM;simp? [xL gf,gT (zG B2 (.lst U)),tup2,show MV.tup [.int b.1,.tup U]=zM (NZ (HN y0 y1 y2 s) b) by rw[<-D];rfl,y]
theorem UF{as:List Rw}{hd:Ch}{ln:Nat}(G:S[ln]? =#[[y0,y1,y2].map MV.str,2])(r: ∀b∈as,(∀d∈b.2,bZ d)/\b.2.length<=4)(D: ∀b∈as, ∀t∈b.2, ∀x,vn t=some x->x∈[y0,y1,y2])(w: ∀x∈hd,x∈[y0,y1,y2])(E:as.length<=10)(A:hd.length<=10):
  zH 3 bT [#[[.tup #[hd,8],.tup #[as,9]],6],#[ln,1],.new [.str s,.str y0,.str y1]] S=.ok #[[.tup ((hd.map (HN y0 y1 y2 s)).map MV.str),.tup ((as.map (NZ (HN y0 y1 y2 s))).map zM)],6] S:=by
 generalize m:S++[.lst [.str s,.str y0,.str y1],.dic (Fw y0 y1 y2 s)]=B;have M:B.length=↑1+2:=by rw[<-m];simp
 have k:B[↑1+1]? =#[Fw y0 y1 y2 s,7]:=by rw[<-m];exact rD S _ _
 obtain⟨T,t,u,p,e⟩:=Fy (ln:=ln) (lo:=↑1) k as [] [] none none none r D (by simp;lia);rw[İ]at e;generalize n:B++.lst ((as.map (NZ (HN y0 y1 y2 s))).map zM)::T=Z at e;have q:Z[↑1+1]? =#[Fw y0 y1 y2 s,7]:=by rw[<-n];exact zK k
 have L:Z[B.length]? =#[(as.map (NZ (HN y0 y1 y2 s))).map zM,2]:=by rw[<-n];exact mT _ _ _
 have I:zX (yD 0) gN wA [none,#[↑1+1]] [] #[hd,8] Z=.ok ((hd.map (HN y0 y1 y2 s)).map MV.str) Z:=by
  rw[ĕ];refine dA (gP _) λx J=>⟨_,rfl,rfl,?_⟩
  unfold wA;exists 7,TX q Fx (QZ (w x J))
 have C: ∀b∈as.map (NZ (HN y0 y1 y2 s)),pd (zM b)=true:=λb o=>by
  obtain⟨a,h1,rfl⟩:=mM.mp o;unfold zM NZ;rw[xQ,yB,yB,MM,xQ,vA,Bool.and_true,Bool.true_and]
  exact bX λd j=>by
   obtain⟨t,z,rfl⟩:=mM.mp j;rcases (r a h1).1 t z with⟨x,rfl⟩|⟨v,k,rfl⟩
   .rw[GH];rfl
   .rw[QY];rcases k with⟨i,rfl⟩|⟨y,rfl⟩<;>rfl
 have H:Lx [#[ln,1],#[↑1,1]] (S++[.lst [.str s,.str y0,.str y1]])=.ok #[↑1+1,1] B:=by
  have F:srcOf (S++[MO.lst [.str s,.str y0,.str y1]]) #[ln,1]=some ⟨true,[y0,y1,y2].map MV.str,[(ln,[y0,y1,y2].map MV.str)]⟩:=by unfold srcOf;dsimp only;rw[zK G]
  have K:srcOf (S++[MO.lst [.str s,.str y0,.str y1]]) #[↑1,1]=some ⟨true,[.str s,.str y0,.str y1],[(↑1,[.str s,.str y0,.str y1])]⟩:=by unfold srcOf;dsimp only;rw[zG]
  unfold Lx;dsimp only;rw[F];dsimp only;rw[K];dsimp only;rw[iP (show([y0,y1,y2].map MV.str).all tP=true from rfl), <-m,lA,aA];rfl
 refine qO (T:=.lst [.str s,.str y0,.str y1]::.dic (Fw y0 y1 y2 s)::.lst ((as.map (NZ (HN y0 y1 y2 s))).map zM)::T) rfl ?_ (iL (by rw[xQ,yB,yB,xQ,xQ,vA,Bool.and_true,aE];exact⟨bX λd j=>by obtain⟨x,_,rfl⟩:=mM.mp j;exact tR x,bX λd j=>by obtain⟨b,o,rfl⟩:=mM.mp j;exact C b o⟩)) (λl=>by simp);show yA (bS [#[[.tup #[hd,8],.tup #[as,9]],3],#[ln],#[↑1],none,none,none,none,none] (S++[.lst [.str s,.str y0,.str y1]]))=_;rw[show S++(MO.lst [.str s,.str y0,.str y1]::.dic (Fw y0 y1 y2 s)::.lst ((as.map (NZ (HN y0 y1 y2 s))).map zM)::T)=Z by rw[<-n, <-m,aA];rfl];unfold bS;refine cB (zB (ρ':=[#[[.tup #[hd,8],.tup #[as,9]],3],#[ln],#[↑1],#[↑1+1],none,none,none,none]) (S':=B) ?_ (zB (ρ':=Rn (.tup [.tup #[hd,8],.tup #[as,9]]) ln ↑1 (↑1+1) B.length none none none) (S':=B++[.lst []]) ?_ (zB (ρ':=Rn (.tup [.tup #[hd,8],.tup #[as,9]]) ln ↑1 (↑1+1) B.length t u p) (S':=Z) ?_ ?_)))
 .unfold cW;exists 7,H
 .unfold cX;exists 7,rfl
 .unfold cY;exists 7,show∀T,gW #[[.tup #[hd,8],.tup #[as,9]],6] #[1,5] T=.ok #[as.map zM,6] T from λ_=>rfl,pN,e
 .unfold cZ;simp? [show∀T,gW #[[.tup #[hd,8],.tup #[as,9]],6] #[0,5] T=.ok #[hd.map MV.str,6] T from λ_=>rfl,pN,lM,show hd.length<1000000 by lia,show∀a b c d e f g h:Option MV,rW 1 [3] [a,b,c,d,e,f,g,h]=[none,d]from λ_ _ _ _ _ _ _ _=>rfl,I,oH,gT L,tup2]
end
theorem Os{r:Rw}(h: ∀c∈r.2,VS c):pd (zM r)=true/\uZ (zM r)<30:=by
 have h1:=iR h;unfold zM;refine⟨by simp[xQ,yB,MM,vA]at h1 ⊢; exact h1.1,?_⟩;rw[gD,yO,yO,vB,pM]
 lia
theorem Nn{l:Nat}{R:K7}{k:K1}(a:Bool)(j:S[l]? =#[R.map .tup,2])(h: ∀t∈R, ∀d∈t,VS d)(c: ∀d∈k,VS d):GU a #[k,6] #[l,1] S=#[.bl (if a=true then !decide (k∈R)else decide (k∈R)),S,1]:=by rw[lP a j (iR c).1 (λy i=>by obtain⟨t,b,rfl⟩:=mM.mp i;have:=iR (h t b);exact⟨this.1,by lia⟩),dec_is (⟨λz=>by obtain⟨t,b,e⟩:=mM.mp z;exact MV.tup.inj e▸b,λz=>ģ z⟩)]
theorem RA{lt lm:Nat}{V:K7}(e:S[lt]? =#[U.map .tup,2])(h:S[lm]? =#[V.map .tup,2])(c: ∀t∈V, ∀d∈t,VS d)(hs: ∀k∈U,k∈V)(i:U.length<1000):yU [.loc lt,.loc lm] S=#[.bl true,S,1]:=by
 have a:zX (yD 0) wX bU [none,some _] [_] _ S=.ok [] S:=IW (yW e) λd hd=>by obtain⟨k,b,rfl⟩:=mM.mp hd;refine⟨_,rfl,?_⟩;have hi:=Nn true h c (c k (hs k b));rw[dT0 (hs k b)]at hi;unfold wX;exists 7,hi
 show yA (dZ [some _,some _] S)=_;refine cB ?_;unfold dZ aI;simp? [wM e,lM,show U.length<1000000 by lia,show rW 1 [1] [some _,some _]=[none,some _]from rfl,a,SR,show CP (.new []) (.new []) S=#[.bl true,S,1] from rfl]
def Ad{lt lm:Nat}{V:K7}(c:S[lt]? =#[U.map .tup,2])(e:S[lm]? =#[V.map .tup,2])(b: ∀t∈V, ∀d∈t,VS d)(hs: ∀k∈U,k∈V)(a:U.length<1000):zH 2 yU [#[lt,1],#[lm,1]] S=#[.bl true,S,1]:=WJ rfl (RA c e b hs a)
def Fz{lt:Nat}{V:K7}(c:S[lt]? =#[U.map .tup,2])(b: ∀t∈V, ∀d∈t,VS d)(hs: ∀k∈U,k∈V)(a:U.length<1000):zH 2 yU [#[lt,1],.new (V.map .tup)] S=#[.bl true,S,1]:=
 qO rfl (RA (zK c) (zG _ _) b hs a) (Co _ _) (λl=>by simp)
noncomputable def nN(j:Nat)(k:List α):List α:=k.drop j++k.take j
def DW{β:Type}(f:α->β)(j:Nat)(k:List α):(nN j k).map f=nN j (k.map f):=by unfold nN;rw[ï,map_take,map_drop]
def NO{k:List α}{x:α}:x∈nN j k↔x∈k:=by unfold nN;rw[é,or_comm, <-é,ē]
theorem DX(j:Nat)(k:List α):(nN j k).length=k.length:=by unfold nN;rw[lA,lT,õ];lia
def Np{a b:List α}(h:a.length=b.length)(e:nN j a=nN j b):a=b:=by obtain⟨h1,c⟩:=List.append_inj e (by rw[õ,õ,h]);rw[<-ē j a, <-ē j b,h1,c]
theorem XI(ds:K1)(j:Nat)(h:ds.length<=1000)(S:Sto):xA #[cE ds (some (j:Int)) none,6] #[cE ds none (some (j:Int)),6] S=.ok #[nN j ds,6] S:=by rw[BD,oG,Jz (fits (by rw[lT,õ];omega))];rfl
theorem Ae{lt w:Nat}(h:S[lt]? =#[U.map .tup,2])(m: ∀k∈U, ∀d∈k,VS d)(hw: ∀k∈U,k.length=w)(n:w<=10)(i:U.length<128):
  zH 2 nB [#[lt,1],#[(j:Int),5]] S=#[(kX (U.map (nN j))).map .tup,S,2]:=by
 have o:zX (yD 0) bW wY [none,#[(j:Int),0]] [(lt,U.map .tup)] (U.map .tup) S=.ok ((U.map (nN j)).map .tup) S:=by
  rw[ĕ];refine dA (yW h) λk c=>⟨_,rfl,rfl,?_⟩
  unfold wY;simp? [MQ,XI k j (by rw[hw k c];lia)];rfl
 have b: ∀t∈U.map (nN j), ∀d∈t,VS d:=λt a d hd=>by obtain⟨k,c,rfl⟩:=mM.mp a;exact m k c d (NO.mp hd)
 have e: ∀t∈U.map (nN j),t.length=w:=λt a=>by obtain⟨k,c,rfl⟩:=mM.mp a;rw[DX,hw k c]
 have hs:=XB (l:=true) (p:=#[↑1,1]) (S:=S++[.lst _]) b e (by rw[lM];exact i) (by unfold jB;dsimp only;rw[zG]) (λt a=>Fq (b t a) (by rw[e t a];lia) _);refine mZ (T:=[.lst ((U.map (nN j)).map .tup)]) rfl ?_ (cN λd hd=>by obtain⟨t,a,rfl⟩:=mM.mp hd;exact iL (iR (b t ((yP _).mem_iff.mp a))).1);show yA (nA [#[lt],some _,none] S)=_;unfold nA;refine cB (zB (ρ':=[#[lt],#[(j:Int),0],#[↑1]]) (S':=S++[.lst ((U.map (nN j)).map .tup)]) ?_ ?_)
 .unfold aK;simp? [wM h,lM,show U.length<1000000 by lia,show rW 1 [1] [some (MV.loc lt),#[(j:Int),0],none]=[none,some _]from rfl,o]
 .unfold aL;exists 7,hs
theorem Ga{as:List Rw}{hd:Ch}{vs:K1}{r:Rw}(Q:QC rows as hd vs ys)(m:rows.length<=80)(n: ∀c∈r.2,c∈vs)(hw: ∀b∈as,r.1=b.1->b.2.length=r.2.length)(E: ∀k∈U,JV rows as hd k)(j:U.length<1000){lt:Nat}(z:S[lt]? =#[U.map .tup,2])(o:S[lr]? =#[rows.map zM,2]):
  zH 4 eQ [#[lt,1],#[lr,1],.val (zM r),#[[.tup #[hd,8],.tup #[as,9]],6]] S=#[.bl true,S,1]:=by
 have u: ∀q∈rows,pd (zM q)=true/\uZ (zM q)<40:=λq a=>by have:=Os (λc i=>Q.vv c (Q.hv q a c i));exact⟨this.1,by lia⟩
 have v:=Os (λc i=>Q.vv c (n c i));have hi:=lP false o v.1 (λy C=>by obtain⟨q,a,rfl⟩:=mM.mp C;exact u q a);rw[iN xF0]at hi
 have d:QC _ as hd vs ys:=⟨λq a=>by
  rcases é.mp a with a|a
  .exact Q.hv q a
  .rw[mS.mp a];exact n,Q.vv,Q.v1,by simp;lia,Q.ha,λb p q a e=>by
  rcases é.mp a with a|a
  .exact Q.hw b p q a e
  .rw[mS.mp a]at e ⊢; exact hw b p e,Q.al,Q.hh,Q.hl,Q.hy,Q.yl,Q.pw,Q.ph⟩
 obtain⟨F,_,w,h,_⟩:=XF (S:=[.lst _]) (lr:=0) d rfl;have B:=Wc d w h (λ_=>Iff.rfl) d.rl S;have D:=Fz z (GF d h).1 (λk s=>(yP F).mem_iff.mpr ((h k).mpr (DV (λq a=>Ă _ a) (λ_=>id) (E k s)))) j;have A:xA #[lr,1] (.new [zM r]) S=#[(rows++[r]).map zM,S,2]:=by rw[ï];exact AD (DB o) rfl (fits (by rw[lM];simp;lia))
 refine WJ rfl ?_;show yA (eP [some _,some _,some (zM r),some _] S)=_;refine cB ?_;unfold eP;by_cases c:zM r∈rows.map zM
 .refine iW ?_;rw[dT0 c]at hi;unfold bV;simp? [hi]
 .rw[dF0 c]at hi;refine zB (ρ':=[#[lt],#[lr],some (zM r),#[[.tup #[hd,8],.tup #[as,9]],3]]) (S':=S) ?_ ?_
  .unfold bV;exists 7,hi,fT,iF
  .unfold iK;exists 7,A,B,D
theorem Ot{vs:K1}{hs:Ch}{as rs:List Rw}(B:Eg ts)(m: ∀d∈vs,VS d)(C:1<=vs.length)(A:vs.length<=4)(k:ys.length=3)(i: ∀a∈as,A9 ts ys vs a)(D:as.length<=4)(w:hs.length<=3)(s: ∀y∈hs,y∈xH [] (cG as))(o: ∀r∈rs,Gp ts vs r)(E:rs.length<=24):QC rs as hs vs ys:=by
 have q: ∀{n:Nat},n<=3->vs.length ^ n<=4 ^ 3:=λh=>ø (Nat.pow_le_pow_left A _) (Nat.pow_le_pow_right (by decide) h);refine⟨λr h=>(o r h).2,m,C,by lia,λb c=>⟨λd hd=>((i b c).2 d hd).ok m,?_⟩,λb c r h e=>by rw[(i b c).1,(o r h).1,e],by lia,λx j=>by have:=s x j;rw[oF]at this;simpa using this,by lia,λx j=>?_,by lia,?_,?_⟩
 .rw[(i b c).1];unfold ZV
  cases z:ts[b.1.toNat]? with
  |none=>simp
  |some p=>have:=B.2.2 p (è z);simp;lia
 .obtain⟨b,c,t,u,e⟩:=yQ.mp j;rcases (i b c).2 t u with⟨y,k,rfl⟩|⟨v,_,rfl⟩
  .rw[mR]at e;cases e;exact k
  .rw[BW]at e;cases e
 .rw[k];exact ø (q (à 3)) (by decide)
 .exact lt_of_le_of_lt (q w) (by decide)
def Qs(rs:List Rw)(hs:Ch)(U:K7)(a:List Rw):Prop:= ∀S:Sto, ∀b:List Rw,(∀r,r∈b↔r∈rs)->b.length<=90->(∀l,S[l]? =#[b.map zM,2]->zH 2 zY [#[l,1],#[[.tup #[hs,8],.tup #[a,9]],6]] S=#[U.map .tup,S,2])/\zH 2 zY [.new #[b,9],#[[.tup #[hs,8],.tup #[a,9]],6]] S=#[U.map .tup,S,2]
section
variable{rs as:List Rw}{hs:Ch}{vs:K1}{ys:Ch}{F:K7}
def Gb(Q:QC rs as hs vs ys)(m:F.Nodup)(p: ∀k,k∈F↔JV rs as hs k){a:List Rw}(h: ∀b,b∈a↔b∈as)(n:a.length<=10):Qs rs hs (kX F) a:=λS o j d=>by
 have i:=XG Q h n;have c: ∀k,k∈F↔JV rs a hs k:=λk=>by rw[p,QX h]
 refine⟨λl q=>?_,Wc i m c j d S⟩;obtain⟨T,e⟩:=Wb i m c j d q;exact mZ rfl e ((GF i c).2 _)
theorem RB{q:MV}{o:List (Option MV)}{S:Sto}{U:K7}{c:Nat}{W:K1}(B: ∀t∈U, ∀d∈t,VS d)(w:S[6]? =#[rs.map zM,2])(A:S[7]? =#[U.map .tup,2])(k:S[c]? =#[W,2])(H:rs.length<=24): ∀(L:List (List Rw))(x:K2),(∀a∈L,Qs rs hs U a)->
  ∃p, ∀(s z n v u m y r i j:K2),wK (yD 13) DO [(c,W)] (L.map λa=>.tup [.tup #[hs,8],.tup #[a,9]]) ([s,z,n,v,u,m,y,#[6],#[7],r,i,j,#[c],x]++o) S=#[[s,z,n,v,u,m,y,#[6],#[7],r,i,j,#[c],p]++o,S,0]
 |[],x,_=>⟨x,λ_ _ _ _ _ _ _ _ _ _=>rfl⟩
 |a::L,x,h=>by
  obtain⟨p,e⟩:=RB (q:=q) B w A k H L #[[.tup #[hs,8],.tup #[a,9]],3] λb F=>h b (.tail _ F);refine⟨p,λs z n v u m y r i j=>?_⟩;have D:=(h a (.head _) S rs (λ_=>Iff.rfl) #[]).1 6 w;have E:=(h a (.head _) S rs.reverse (λ_=>List.mem_reverse) (by rw[List.length_reverse];lia)).2;have nt:=XH (λd hd=>by obtain⟨t,G,rfl⟩:=mM.mp hd;have:=iR (B t G);exact⟨this.1,by unfold zF;lia⟩) A;have C:uK (-1) #[6,1] none none S=#[rs.reverse.map zM,S,2]:=by rw[QW w (by rw[lM];lia),List.map_reverse]
  rw[æ,yH rfl ?_ (yW k),e];unfold DO BA;exists 7,D,E,nt,C,fT,iF,Ğ
end
noncomputable abbrev LA(q H:MV)(o:List (Option MV)):Rho:=some q::#[0]::#[1]::#[2]::#[5]::#[4]::some H::#[6]::#[7]::o
abbrev LB(q H a:MV)(i:Nat)(b:K2)(o:List (Option MV)):Rho:=LA q H (#[(i:Int),0]::#[8]::#[9]::#[10]::b::some a::o)
noncomputable abbrev qv(hs:Ch)(a:List Rw):MV:=.tup [.tup #[hs,8],.tup #[a,9]]
def Wh(as:List Rw)(j:Nat)(h:as.length<=1000)(S:Sto):xA (.new (cE #[as,9] (some (j:Int)) none)) (.new (cE #[as,9] none (some (j:Int)))) S=#[(nN j as).map zM,S,2]:=by rw[BD,oG,DW];exact AD rfl rfl (fits (by rw[lT,õ,lM];omega))
theorem Gc(ds:K1)(S:Sto):CP (.new ds) (.new []) S=#[.bl ds.isEmpty,S,1]:=by cases ds<;>rfl
def Gd(J:Za)(c8:J.length<=63): ∃S,JM [.scr (J.map MV.int)] []=#[.bl true,S,1]:=by
 obtain⟨c0,bt⟩:=pQ J 0 (by decide) [];obtain⟨t0,ck⟩:=gU c0 [];obtain⟨ts,hT,bg⟩:=ZU t0 [];obtain⟨c1,a9⟩:=pQ J 1 (by decide) [.lst (ts.map tbl)];obtain⟨t1,b1⟩:=gU c1 [.lst (ts.map tbl)];obtain⟨vs,hV,v1,v4,av⟩:=Mk t1 [.lst (ts.map tbl)];obtain⟨c2,a6⟩:=pQ J 2 (by decide) [.lst (ts.map tbl),.lst vs];obtain⟨t2,ct⟩:=gU c2 [.lst (ts.map tbl),.lst vs];obtain⟨ys,⟨y0,y1,y2,rfl,n1,n2,h6⟩,br⟩:=Eu t2 [.lst (ts.map tbl),.lst vs];generalize hP:([.lst (ts.map tbl),.lst vs,.lst ([y0,y1,y2].map MV.str)]:Sto)=P;have p0:P[0]? =#[ts.map tbl,2]:=by rw[<-hP];rfl
 have p1:P[1]? =#[vs,2]:=by rw[<-hP];rfl
 have p2:P[2]? =#[[y0,y1,y2].map MV.str,2]:=by rw[<-hP];rfl
 have p3:P.length=3:=by rw[<-hP];rfl
 obtain⟨c3,bu⟩:=pQ J 3 (by decide) P;obtain⟨t3,cf⟩:=gU c3 P;have m3:=md (x:=t3) (n:=4);have l4:3<(P++[MO.lst []]).length:=by rw[lA,p3];decide
 have a5:=yS (S:=P++[.lst []]) (l:=3) (x:=t3) (n:=4) l4;obtain⟨as,z2,al,hA,ay⟩:=Ex (S:=P++[.lst []]) (M:=(1+t3 % 4).toNat) (l:=3) (p:=1) (q:=2) (lt:=0) l4 (by decide) (by decide) (by decide) (zK p1) (zK p2) (zK p0) hV v1 v4 (by simp) (by simp) hT (by omega) (t3 / 4);rw[show iM (1+t3 % 4).toNat=.int (1+t3 % 4) by unfold iM;rw[Int.toNat_of_nonneg (by omega)]]at ay;have wi: ∀z,Wl (P++[.lst []]) 3 z=P++[.lst [.int z]]:=λz=>by rw[<-p3];exact(lR P z).symm
 rw[wi,wi]at a5 ay;generalize N:P++[.lst [.int z2]]++[.lst #[as,9]]=S5;have q0:S5[0]? =#[ts.map tbl,2]:=by rw[<-N];exact zK (zK p0)
 have q1:S5[1]? =#[vs,2]:=by rw[<-N];exact zK (zK p1)
 have q2:S5[2]? =#[[y0,y1,y2].map MV.str,2]:=by rw[<-N];exact zK (zK p2)
 have q4:S5[4]? =#[as.map zM,2]:=by rw[<-N,show 4=(P++[MO.lst [.int z2]]).length by rw[lA,p3];rfl];exact zG _ _
 have q5:S5.length=5:=by rw[<-N,lA,lA,p3];rfl
 obtain⟨c5,a3⟩:=pQ J 5 (by decide) S5;obtain⟨t5,b5⟩:=gU c5 S5;have ag: ∀b∈as,(∀d∈b.2,bZ d)/\b.2.length<=4:=(Ot (hs:=[]) (rs:=[]) hT hV v1 v4 rfl hA (by omega) (by simp) (λy h=>by cases h) (λr h=>by cases h) (by simp)).ha;have l6:5<(S5++[MO.lst []]).length:=by rw[lA,q5];decide
 obtain⟨hs,Y,h3,hh,c7,G⟩:=Mo (S:=S5++[.lst []]) (l:=5) (a:=4) (x:=t5) l6 (by decide) (zK q4) ag (by omega);have wj: ∀z,Wl (S5++[.lst []]) 5 z=S5++[.lst [.int z]]:=λz=>by rw[<-q5];exact(lR S5 z).symm
 rw[wj,wj]at G;generalize ai:S5++[.lst [.int Y]]=S6 at G;have o6: ∀{m:Nat}{o:MO},S5[m]? =some o->S6[m]? =some o:=λh=>by rw[<-ai];exact zK h
 have s0:=o6 q0;have s1:=o6 q1;have s4:=o6 q4;have s5:S6[5]? =#[[.int Y],2]:=by rw[<-ai, <-q5];exact zG _ _
 have s6:S6.length=6:=by rw[<-ai,lA,q5];rfl
 obtain⟨c4,bc⟩:=pQ J 4 (by decide) S6;obtain⟨rs,hr,rl,bo⟩:=Mq (S:=S6) (p:=1) (lt:=0) s1 s0 hV v1 v4 hT c4 (cs:=J.drop 7) (by rw[õ];omega);have Q:=Ot (ys:=[y0,y1,y2]) hT hV v1 v4 rfl hA (by omega) h3 hh hr rl;obtain⟨F,_,nd,hF,_⟩:=XF (S:=S6++[.lst #[rs,9]]) (lr:=6) Q (by rw[<-s6];exact zG _ _);have hU: ∀k,k∈kX F↔JV rs as hs k:=λk=>by rw[(yP F).mem_iff,hF]
 have ao:=(GF Q hF).1;have fl:F.length<128:=lt_of_le_of_lt (UD nd λk hk=>tV Q ((hF k).mp hk)) Q.ph;have ul:(kX F).length<128:=by rw[(yP F).length_eq];exact fl
 have ud: ∀d∈(kX F).map MV.tup,pd d=true/\uZ d<zF:=λd hd=>by obtain⟨t,ht,rfl⟩:=mM.mp hd;have:=iR (ao t ht);exact⟨this.1,by unfold zF;omega⟩
 have an:=λ{S:Sto} (h:S[6]? =#[rs.map zM,2])=>Ni Q nd hF h;generalize K:S6++[.lst #[rs,9]]++[.lst ((kX F).map .tup)]=S8;have l8:S8.length=8:=by rw[<-K,lA,lA,s6];rfl
 have u5:S8[5]? =#[[.int Y],2]:=by rw[<-K];exact zK (zK s5)
 have cD:=md (x:=Y) (n:=(as.length:Int)) (by omega);obtain⟨j,hj⟩: ∃j:Nat,(j:Int)=Y % (as.length:Int):=⟨(Y % (as.length:Int)).toNat,by omega⟩
 have Z:=yS (S:=S8) (l:=5) (x:=Y) (n:=(as.length:Int)) (by omega) (by omega) (by omega);rw[MY u5, <-hj]at Z;have o8: ∀{m:Nat}{o:MO},S6[m]? =some o->S8[m]? =some o:=λh=>by rw[<-K];exact zK (zK h)
 have o9: ∀{m:Nat}{o:MO},m≠5->S8[m]? =some o->(Wl S8 5 (Y / (as.length:Int)))[m]? =some o:=λhm h=>(iO hm.symm _).trans h;have w0:=o9 (by decide) (o8 s0);have w1:=o9 (by decide) (o8 s1);have w2:=o9 (by decide) (o8 (o6 q2));have w4:=o9 (by decide) (o8 s4);have w6:=o9 (by decide) (show S8[6]? =#[rs.map zM,2] by rw[<-K];exact zK (by rw[<-s6];exact zG _ _));have w7:=o9 (by decide) (show S8[7]? =#[(kX F).map .tup,2] by rw[<-K,show 7=(S6++[MO.lst #[rs,9]]).length by rw[lA,s6];rfl];exact zG _ _);clear o9;have w5:=TR (S:=S8) (l:=5) (by omega) (Y / (as.length:Int));have l9:(Wl S8 5 (Y / (as.length:Int))).length=8:=by rw[gO];exact l8
 generalize Y / (as.length:Int)=z6 at Z w0 w1 w2 w4 w5 w6 w7 l9;generalize Wl S8 5 z6=S9 at Z w0 w1 w2 w4 w5 w6 w7 l9;have ab: ∀b,b∈nN j as↔b∈as:=λb=>NO;have a':(nN j as).length=as.length:=DX j as;generalize bw:nN j as=A at ab a';generalize ah:as.take 1++A=tw;have cp: ∀b,b∈tw↔b∈as:=λb=>by rw[<-ah,é,ab];exact⟨λh=>h.elim mem_of_mem_take id,.inr⟩
 have c9:tw.length<=5:=by rw[<-ah,lA,lT,a'];omega
 generalize v:S9++[.lst #[A,9]]++[.lst #[tw,9]]=S11;have cv: ∀{m:Nat}{o:MO},S9[m]? =some o->S11[m]? =some o:=λh=>by rw[<-v];exact zK (zK h)
 have x8:S11[8]? =#[A.map zM,2]:=by rw[<-v];exact zK (by rw[<-l9];exact zG _ _)
 have x9:S11[9]? =#[tw.map zM,2]:=by rw[<-v,show 9=(S9++[MO.lst #[A,9]]).length by rw[lA,l9];rfl];exact zG _ _
 have W:S11.length=10:=by rw[<-v,lA,lA,l9];rfl
 have rv:uK (-1) #[8,1] none none S11=#[A.reverse.map zM,S11,2]:=by rw[QW x8 (by rw[lM];omega),List.map_reverse]
 obtain⟨L,cq,b6,aq⟩: ∃L:List (List Rw),(∃r,L=A::r)/\(∀a∈L,Qs rs hs (kX F) a)/\rA (LA (.scr (J.map MV.int)) (.tup #[hs,8]) [#[(j:Int),0],#[8],#[9],#[10],none,none,none,none,none,none,none]) (S11++[.lst ([A,A.reverse].map (qv hs))])=#[LA (.scr (J.map MV.int)) (.tup #[hs,8]) [#[(j:Int),0],#[8],#[9],#[10],none,none,none,none,none,none,none],S11++[.lst (L.map (qv hs))],0]:=by
  have qA:Qs rs hs (kX F) A:=Gb Q nd hF ab (by omega);have qR:Qs rs hs (kX F) A.reverse:=Gb Q nd hF (λb=>by rw[List.mem_reverse,ab]) (by rw[List.length_reverse];omega);have qT:Qs rs hs (kX F) tw:=Gb Q nd hF cp (by omega);have ln:lW [#[9,1]] (S11++[.lst ([A,A.reverse].map (qv hs))])=.ok #[(tw.length:Nat),5] (S11++[.lst ([A,A.reverse].map (qv hs))]):=by rw[xU (zK x9),lM]
  have ax:=zG S11 (.lst ([A,A.reverse].map (qv hs)));rw[W]at ax;by_cases c:tw.length<5
  .refine⟨[A,A.reverse,tw],⟨_,rfl⟩,λa ha=>?_,?_⟩
   .simp only[mC,nM,or_false]at ha;rcases ha with rfl|rfl|rfl
    .exact qA
    .exact qR
    .exact qT
   .unfold rA;simp? [ln,lt_int,dT0 (show(tw.length:Int)<5 by omega),xL ax,gT (zK (L:=[.lst ([A,A.reverse].map (qv hs))]) x9),tup2,wZ (d:=qv hs tw) ax (show([A,A.reverse].map (qv hs)).length<1000000 by simp)];rw[<-W];simp
  .refine⟨[A,A.reverse],⟨_,rfl⟩,λa ha=>?_,?_⟩
   .simp only[mC,nM,or_false]at ha;rcases ha with rfl|rfl
    .exact qA
    .exact qR
   .unfold rA;simp? [ln,lt_int,dF0 (show¬(tw.length:Int)<5 by omega),fT,iF]
 obtain⟨L',rfl⟩:=cq;generalize I:S11++[.lst ((A::L').map (qv hs))]=S13 at aq;have u: ∀{m:Nat}{o:MO},S9[m]? =some o->S13[m]? =some o:=λh=>by rw[<-I];exact zK (cv h)
 have aa:S13[10]? =#[(A::L').map (qv hs),2]:=by rw[<-I, <-W];exact zG _ _
 have bx:S13.length=11:=by rw[<-I,lA,W];rfl
 obtain⟨E,ak⟩:=RB (q:=.non) (o:=[none,none,none,none,none,none]) ao (u w6) (u w7) aa rl (A::L') none b6;obtain⟨s,b2,cg⟩:=Ac h6 (u w2);have cy: ∀b∈as, ∀t∈b.2, ∀x,vn t=some x->x∈[y0,y1,y2]:=λb O t ht x e=>Q.hy x (yQ.mpr ⟨b,O,t,ht,e⟩);have a7:=UF (s:=s) (hd:=hs) (u w2) ag cy (λx hx=>Q.hy x (Q.hh x hx)) (by omega) (by omega);have bp:=Ni (E1 (f:=HN y0 y1 y2 s) Q) nd (λk=>by rw[Wf Q (g:=muN y0 y1 y2 s) λx hx=>C9 n1 n2 b2 hx];exact hF k) (u w6);generalize (MV.tup [.tup ((hs.map (HN y0 y1 y2 s)).map MV.str),.tup ((as.map (NZ (HN y0 y1 y2 s))).map zM)])=rq at a7 bp;have cc:=XH ud (u w7);have T:QC rs A hs vs [y0,y1,y2]:=XG Q ab (by omega);have b8: ∀k,k∈F↔JV rs A hs k:=λk=>by rw[hF,QX ab]
 have ce:zH 2 zY [.new [],.val (qv hs A)] S13=#[[],S13,2]:=by
  have Q0:QC [] A hs vs [y0,y1,y2]:=⟨λr h=>(nomatch h),T.vv,T.v1,zero_le _,T.ha,λb O r h=>(nomatch h),T.al,T.hh,T.hl,T.hy,T.yl,T.pw,T.ph⟩
  have:=Wc (F:=[]) Q0 .nil (λk=>⟨λh=>(nomatch h),λ⟨σ,h1,_⟩=>by obtain⟨b,O⟩:=List.exists_mem_of_length_pos (l:=A) (by omega);exact absurd (h1 b O) (by unfold Mt;simp)⟩) (rows':=[]) (λ_=>Iff.rfl) (zero_le _) S13;rw[(yP []).eq_nil]at this;exact this
 have m7:=md (x:=z6) (n:=(hs.length:Int)+1) (by omega);obtain⟨i,hi⟩: ∃i:Nat,(i:Int)=z6 % ((hs.length:Int)+1):=⟨(z6 % ((hs.length:Int)+1)).toNat,by omega⟩
 have x5:S13[5]? =#[[.int z6],2]:=u w5;have X:=yS (S:=S13) (l:=5) (x:=z6) (n:=(hs.length:Int)+1) (by omega) (by omega) (by omega);rw[MY x5, <-hi]at X;have C: ∀{m:Nat}{o:MO},m≠5->S13[m]? =some o->(Wl S13 5 (z6 / ((hs.length:Int)+1)))[m]? =some o:=λhm h=>(iO hm.symm _).trans h;have H:(Wl S13 5 (z6 / ((hs.length:Int)+1))).length=11:=by rw[gO];exact bx
 have v8:(Wl S13 5 (z6 / ((hs.length:Int)+1)))[8]? =#[A.map zM,2]:=C (by decide) (by rw[<-I];exact zK x8);generalize Wl S13 5 (z6 / ((hs.length:Int)+1))=S14 at X C H v8;have k6:=C (by decide) (u w6);have k7:=C (by decide) (u w7);have Q3:QC rs as (nN i hs) vs [y0,y1,y2]:=⟨Q.hv,Q.vv,Q.v1,Q.rl,Q.ha,Q.hw,Q.al,λx hx=>Q.hh x (NO.mp hx),by rw[DX];exact Q.hl,Q.hy,Q.yl,Q.pw,by rw[DX];exact Q.ph⟩
 have b':((kX F).map (nN i)).Nodup:=pairwise_map.mpr (List.Pairwise.imp_of_mem (λ{a b} ha O b7 e=>b7 (Np (by rw[(tV Q ((hU a).mp ha)).1,(tV Q ((hU b).mp O)).1]) e)) ((yP F).nodup_iff.mpr nd))
 have bq: ∀k,k∈(kX F).map (nN i)↔JV rs as (nN i hs) k:=λk=>by
  rw[mM];constructor
  .rintro⟨k,hk,rfl⟩;obtain⟨σ,a1,rfl⟩:=(hU k).mp hk;exact⟨σ,a1,(DW σ i hs).symm⟩
  .rintro⟨σ,a1,rfl⟩;exact⟨hs.map σ,(hU _).mpr ⟨σ,a1,rfl⟩,(DW σ i hs).symm⟩
 have aw:=Ni Q3 b' bq k6;rw[DW]at aw;generalize cm:(MV.tup [.tup (nN i #[hs,8]),.tup #[as,9]])=tq at aw;have cb:=Ae (j:=i) (w:=hs.length) k7 ao (λk hk=>(tV Q ((hU k).mp hk)).1) (by omega) ul;have cw:=Nj (ds:=(kX ((kX F).map (nN i))).map .tup) (λd hd=>by obtain⟨t,ht,rfl⟩:=mM.mp hd;have:=iR ((GF Q3 bq).1 t ht);exact⟨this.1,by unfold zF;omega⟩) S14;obtain⟨c6,bf⟩:=pQ J 6 (by decide) S14;obtain⟨t6,bz⟩:=gU c6 S14;obtain⟨r,bh,ae⟩:=B3 (C (by decide) (u w1)) (C (by decide) (u w0)) hV v1 v4 hT t6;have a0:=Ga (r:=r) T (by omega) bh.2 (λb O e=>by rw[(hA b ((ab b).mp O)).1,bh.1,e]) (U:=kX F) (λk hk=>(b8 k).mp ((yP F).mem_iff.mp hk)) (by omega) k7 k6;generalize zM r=rr at ae a0;generalize af:A.drop 1=le;have aj: ∀b,b∈le->b∈as:=λb O=>(ab b).mp (List.mem_of_mem_drop (af▸O));have cz:le.length<=4:=by rw[<-af,õ];omega
 have b0:oS #[8,1] (some 1) none S14=#[le.map zM,S14,2]:=by rw[MS v8,show cE #[A,9] (some 1) none=(A.map zM).drop 1 from oG #[A,9] 1, <-map_drop,af]
 have a8:=Ey (S:=S14++[.lst #[le,9]]) (m:=.loc 11) (.inr ⟨11,rfl,by rw[<-H];exact zG _ _⟩) (λb O=>ag b (aj b O)) (by omega);generalize b3:xH [] (cG le)=nm at a8;generalize B:S14++[.lst #[le,9]]++[.lst #[nm,8]]=S16;have a4: ∀{m:Nat}{o:MO},S14[m]? =some o->S16[m]? =some o:=λh=>by rw[<-B];exact zK (zK h)
 have ba:S16[11]? =#[le.map zM,2]:=by rw[<-B];exact zK (by rw[<-H];exact zG _ _)
 have cu:S16[12]? =#[nm.map MV.str,2]:=by rw[<-B,show 12=(S14++[MO.lst #[le,9]]).length by rw[lA,H];rfl];exact zG _ _
 have az:S16.length=13:=by rw[<-B,lA,lA,H];rfl
 obtain⟨q,hq⟩: ∃q,q=MV.scr (J.map MV.int):=⟨_,rfl⟩
 have bb:oS (.val q) (some 7) none S6=#[(J.drop 7).map MV.int,S6,2]:=by rw[hq,map_drop, <-oG];rfl
 rw[<-hq]at bt a9 a6 bu bc a3 bf aq
 have fin: ∀{S:Sto},zI oD FY (LB q (.tup #[hs,8]) rq i E [some tq,some rr,#[11],#[12],none]) S16=.ok (.ret (.val (.bl true))) S-> ∃S,JM [q] []=#[.bl true,S,1]:=λ{S} bj=>by
  refine⟨S,?_⟩;show yA (WI [some q,none,none,none,none,none,none,none,none,none,none,none,none,none,none,none,none,none,none,none] [])=_;refine cB ?_;unfold WI;refine zB (ρ':=[some q,#[0],none,none,none,none,none,none,none,none,none,none,none,none,none,none,none,none,none,none]) (S':=[.lst (ts.map tbl)]) ?_ ?_
  .unfold LZ;exists 7,bt,ck,bg
  refine zB (ρ':=[some q,#[0],#[1],none,none,none,none,none,none,none,none,none,none,none,none,none,none,none,none,none]) (S':=[.lst (ts.map tbl),.lst vs]) ?_ ?_
  .unfold MA;exists 7,a9,b1,av
  refine zB (ρ':=[some q,#[0],#[1],#[2],none,none,none,none,none,none,none,none,none,none,none,none,none,none,none,none]) (S':=P) ?_ ?_
  .unfold MB;simp? [a6,ct,br];rw[<-hP];rfl
  refine zB (ρ':=[some q,#[0],#[1],#[2],#[3],none,none,none,none,none,none,none,none,none,none,none,none,none,none,none]) (S':=P++[.lst [.int t3]]) ?_ ?_
  .unfold MD;simp? [bu,cf];rw[p3]
  refine zB (ρ':=[some q,#[0],#[1],#[2],#[3],#[4],none,none,none,none,none,none,none,none,none,none,none,none,none,none]) (S':=S5) ?_ ?_
  .unfold ME;simp? [a5,ay];rw[N,lA,p3];rfl
  refine zB (ρ':=[some q,#[0],#[1],#[2],#[5],#[4],none,none,none,none,none,none,none,none,none,none,none,none,none,none]) (S':=S5++[.lst [.int t5]]) ?_ ?_
  .unfold MF;simp? [a3,b5];rw[q5]
  refine zB (ρ':=[some q,#[0],#[1],#[2],#[5],#[4],#[hs.map MV.str,3],none,none,none,none,none,none,none,none,none,none,none,none,none]) (S':=S6) ?_ ?_
  .unfold MG;simp? [G,oH]
  refine zB (ρ':=[some q,#[0],#[1],#[2],#[5],#[4],#[hs.map MV.str,3],#[6],none,none,none,none,none,none,none,none,none,none,none,none]) (S':=S6++[.lst #[rs,9]]) ?_ ?_
  .unfold MH;simp? [bb,bc,bo];rw[s6]
  refine zB (ρ':=LA q (.tup #[hs,8]) [none,none,none,none,none,none,none,none,none,none,none]) (S':=S8) ?_ ?_
  .unfold MK;simp? [gT (zK (L:=[.lst #[rs,9]]) s4),tup2,an (show(S6++[MO.lst #[rs,9]])[6]? =_ by rw[<-s6];exact zG _ _)];rw[K,lA,s6];rfl
  refine zB (ρ':=LA q (.tup #[hs,8]) [#[(j:Int),0],none,none,none,none,none,none,none,none,none,none]) (S':=S9) ?_ ?_
  .unfold FH;simp? [xU (o8 s4),lM,Z]
  refine zB (ρ':=LA q (.tup #[hs,8]) [#[(j:Int),0],#[8],none,none,none,none,none,none,none,none,none]) (S':=S9++[.lst #[A,9]]) ?_ ?_
  .unfold FK;simp? [MS w4,Wh as j (by omega),bw];rw[l9]
  refine zB (ρ':=LA q (.tup #[hs,8]) [#[(j:Int),0],#[8],#[9],none,none,none,none,none,none,none,none]) (S':=S11) ?_ ?_
  .have b4:xA (.new (cE #[as,9] none (some 1))) #[8,1] (S9++[.lst #[A,9]])=#[tw.map zM,S9++[.lst #[A,9]],2]:=by rw[show cE #[as,9] none (some 1)=(as.map zM).take 1 from BD #[as,9] 1, <-ah,ï,map_take];exact AD rfl (DB (by rw[<-l9];exact zG _ _)) (fits (by rw[lT,lM,lM];omega))
   unfold FL;simp? [MS (zK (L:=[.lst #[A,9]]) w4),b4];rw[v,lA,l9];rfl
  refine zB (ρ':=LA q (.tup #[hs,8]) [#[(j:Int),0],#[8],#[9],#[10],none,none,none,none,none,none,none]) (S':=S11++[.lst ([A,A.reverse].map (qv hs))]) ?_ ?_
  .unfold FM;simp? [gT x8,tup2,rv,oH,Tg];rw[W];rfl
  refine zB aq ?_;refine zB (ρ':=LA q (.tup #[hs,8]) [#[(j:Int),0],#[8],#[9],#[10],E,none,none,none,none,none,none]) (S':=S13) ?_ ?_
  .unfold FN;simp? [wM aa];exact ak _ _ _ _ _ _ _ _ _ _
  refine zB (ρ':=LB q (.tup #[hs,8]) rq j E [none,none,none,none,none]) (S':=S13) ?_ ?_
  .unfold FO;simp? [gT (u w4),tup2,cg,a7]
  refine zB (ρ':=LB q (.tup #[hs,8]) rq j E [none,none,none,none,none]) (S':=S13) ?_ ?_
  .unfold FP;simp? [bp,cc,fT,iF,SR,show gW #[10,1] #[0,5] S13=#[qv hs A,S13,1] from fF aa (at0 _ _),ce,show EQ (.new []) (.new []) S13=#[.bl false,S13,1] from rfl]
  refine zB (ρ':=LB q (.tup #[hs,8]) rq i E [none,none,none,none,none]) (S':=S14) ?_ ?_
  .unfold FQ;simp? [Mc,lM,X]
  refine zB (ρ':=LB q (.tup #[hs,8]) rq i E [some tq,none,none,none,none]) (S':=S14) ?_ ?_
  .unfold FR;simp? [MQ,XI #[hs,8] i (by rw[lM];omega),gT (C (by decide) (u w4)),tup2,cm]
  refine zB (ρ':=LB q (.tup #[hs,8]) rq i E [some tq,none,none,none,none]) (S':=S14) ?_ ?_
  .unfold FS;simp? [aw,cb,cw,fT,iF]
  refine zB (ρ':=LB q (.tup #[hs,8]) rq i E [some tq,some rr,none,none,none]) (S':=S14) ?_ ?_
  .unfold FU;simp? [bf,bz,ae]
  refine zB (ρ':=LB q (.tup #[hs,8]) rq i E [some tq,some rr,none,none,none]) (S':=S14) ?_ ?_
  .unfold FV;simp? [show gW #[10,1] #[0,5] S14=#[qv hs A,S14,1] from fF (C (by decide) aa) (at0 _ _),a0,Bool.not_true,fT,iF]
  refine zB (ρ':=LB q (.tup #[hs,8]) rq i E [some tq,some rr,#[11],none,none]) (S':=S14++[.lst #[le,9]]) ?_ ?_
  .unfold FW;simp? [b0];rw[H]
  refine zB (ρ':=LB q (.tup #[hs,8]) rq i E [some tq,some rr,#[11],#[12],none]) (S':=S16) ?_ bj;unfold FX;simp? [a8];rw[B,lA,H];rfl
 rw[<-hq];have au:zX (yD 0) rS BB [none,#[12]] [] #[hs,8] S16=.ok ((hs.filter λx=>!decide (x∈nm)).map MV.str) S16:=pO (gP _) λx _=>by refine⟨[#[x,4],#[12]],rfl,?_,rfl⟩;unfold rS;simp? [pR true cu,if_true]
 have D:=TQ ba;by_cases c1:le=[]
 .refine fin (S:=S16) (zB (ρ':=LB q (.tup #[hs,8]) rq i E [some tq,some rr,#[11],#[12],none]) (S':=S16) ?_ rfl);rw[c1]at D;unfold oD;simp? [SR,D,show(!(([]:List Rw).map zM).isEmpty)=false from rfl,fT,iF]
 .have e1:(!(le.map zM).isEmpty)=true:=by simpa using c1
  rw[e1]at D;by_cases c2:(hs.filter λx=>!decide (x∈nm))=[]
  .have cx: ∀x∈hs,x∈cG le:=λx hx=>by have:=List.filter_eq_nil_iff.mp c2 x hx;rw[Bool.not_eq_true,Bool.not_eq_false',decide_eq_true_eq, <-b3,oF]at this;simpa using this
   have Q5:=Fv Q aj (by omega) cx;obtain⟨F5,_,cj,ar,_⟩:=XF (S:=[.lst #[rs,9]]) (lr:=0) Q5 rfl;have b9:=Ni Q5 cj ar (a4 k6);have cn:=Ad (S:=S16++[.lst ((kX F5).map .tup)]) (lm:=13) (V:=kX F5) (zK (a4 k7)) (by rw[<-az];exact zG _ _) (GF Q5 ar).1 (λk hk=>(yP F5).mem_iff.mpr ((ar k).mpr (DV (λ_=>id) aj ((hU k).mp hk)))) (by omega);refine fin (S:=S16++[.lst ((kX F5).map .tup)]) (iW ?_);rw[c2]at au;unfold oD;simp? [SR,D,pN,lM,show hs.length<1000000 by omega,show rW 1 [18] (LB q (.tup #[hs,8]) rq i E [some tq,some rr,#[11],#[12],none])=[none,#[12]]from rfl,au,Gc,show((([]:Ch).map MV.str).isEmpty)=true from rfl];refine zB (ρ':=LB q (.tup #[hs,8]) rq i E [some tq,some rr,#[11],#[12],#[13]]) (S':=S16++[.lst ((kX F5).map .tup)]) ?_ ?_
   .simp? [gT ba,tup2,b9];rw[az]
   .simp? [cn]
  .refine fin (S:=S16) (zB (ρ':=LB q (.tup #[hs,8]) rq i E [some tq,some rr,#[11],#[12],none]) (S':=S16) ?_ rfl);have e2:((hs.filter λx=>!decide (x∈nm)).map MV.str).isEmpty=false:=by simpa using c2
   unfold oD;simp? [SR,D,pN,lM,show hs.length<1000000 by omega,show rW 1 [18] (LB q (.tup #[hs,8]) rq i E [some tq,some rr,#[11],#[12],none])=[none,#[12]]from rfl,au,Gc,e2,fT,iF]
section
variable{P:ņ}{w:World}{K:J9}{mg:H9}{base:Heap}
noncomputable def top(i:Nat):Stmt:=PySem.Challenge.pw_mendsure_k34_answers_of_turned_questions.main.body.getD i (.Pass ⟨0,0,0,0⟩)
set_option bootstrap.genMatcherCode true in
local macro_rules
 | `(tactic|exists 1,$t)=>`(tactic|with_reducible show $t)
 | `(tactic|exists 7,$t)=>`(tactic|exists 1,zP _ _ _ $t)
 | `(tactic|exists 8,$t)=>`(tactic|exists 1,GT _ _ _ _ (bJ _ $t))
 | `(tactic|exists 3,$t)=>`(tactic|exists 1,zP _ _ (.Call (.Name $t _) _ _ _) _)
 | `(tactic|exists 4,$t)=>`(tactic|exists 1,zP _ _ (.Call (.Attribute _ $t _) _ _ _) _)
 | `(tactic|exists 5,$t)=>`(tactic|exists 1,zP _ _ (.BinOp _ $t _ _) _)
 | `(tactic|exists 6,$t)=>`(tactic|exists 1,zP _ _ (.Compare _ [$t] _ _) _)
 | `(tactic|and_intros)=>`(tactic|repeat' (first |(exists 1,vY _ _ [_] _;refine SC ?_)|(exists 1,vY _ _ (_::_) _;refine KN ?_ ?_)|(exists 1,vY _ _ [] _;exact Rj)|(exists 1,OO _ _ (.Assign _ (.ListComp _ _ _ _) _) _;refine Ee ‹_› ?_ (λ_ _ _ _ _=>?_) (λ_ _ _ _=>?_) (λ_ _ _ _=>?_))|(exists 1,OO _ _ (.Assign [.Name _ _] _ _) _;refine Ro _ ‹_› ?_)|(exists 1,OO _ _ (.Assign _ _ _) _;refine Rp ?_ ?_)|(exists 1,OO _ _ (.Return _ _) _;refine Rk ?_)|(exists 1,OO _ _ (.For _ _ _ _ _) _;refine Rt PassesOwn.never rfl ?_ ?_ ?_)|(exists 1,OO _ _ (.If _ _ _ _) _;refine Yk ?_ ?_ ?_)|(exists 1,OO _ _ (.Expr _ _) _;refine Ip ?_)|(exists 1,zP _ _ (.Name _ _) _;first |(exists 1,zP _ _ (.Name _ _) (vJ _);exact Qv _)|exact Yg rfl ‹_› Sv|exact Ij rfl ‹_›)|(exists 1,zP _ _ (.Constant _ _ _) _;first |exact Qw|exact Qy _|exact Yf|exact Qx)|(exists 1,zP _ _ (.UnaryOp _ _ _) _;exact Qz)|(exists 1,zP _ _ (.List _ _) _;refine Ri ?_)|(exists 1,zP _ _ (.Tuple _ _ _) _;refine Rh ?_)|(exists 1,zP _ _ (.BinOp _ _ _ _) _;first |(exists 5,.Add;refine Si ?_ ?_)|(exists 5,.Mult;refine Sj ?_ ?_)|(exists 5,.Mod;refine Se ?_ ?_)|(exists 5,.Sub;refine Sb ?_ ?_)|(exists 5,.BitAnd;refine Ln ?_ ?_)|(exists 5,.FloorDiv;refine Sd ?_ ?_)|(exists 5,.Pow;refine Sh ?_ ?_)|(exists 5,.BitOr;refine Vd ?_ ?_))|(exists 1,zP _ _ (.Compare _ _ _ _) _;(exists 6,.Eq;refine Yn (Room.units ‹_›) ?_ ?_))|(exists 1,zP _ _ (.Subscript _ _ _) _;first |(exists 1,zP _ _ (.Subscript _ _ _) (dJ gW _ _);refine Ys ?_ ?_)|(exists 1,zP _ _ (.Subscript _ _ _) (tJ oS _ _ _);refine Sm ?_ ?_ ?_)|(exists 1,zP _ _ (.Subscript _ _ _) (tJ (uK _) _ _ _);refine Jq (st:= -1) (by decide) ?_ ?_ ?_ Ca)|(exists 1,zP _ _ (.Subscript _ _ _) (dJ LX _ _);refine Ve ?_ ?_))|(exists 1,zP _ _ (.ListComp _ _ _ _) _;refine Ed ‹_› ?_ (λ_ _ _ _ _=>?_) (λ_ _ _ _=>?_) (λ_ _ _ _=>?_))|(exists 1,zP _ _ (.Dict _ _ _) _;exact Ct)|(exists 1,zP _ _ (.IfExp _ _ _ _) _;refine Yh ?_ ?_ ?_)|(exists 1,zP _ _ (.Call (.Attribute _ _ _) _ _ _) _;first |(exists 4,"append";refine YU ?_ ?_)|(exists 4,"get";refine Zv (Room.units ‹_›) ?_ ?_)|(exists 4,"setdefault";refine Vb ?_ ?_)|(exists 4,"setdefault";refine Zo (Room.units ‹_›) ?_ ?_)|(exists 4,"update";refine Lm ?_ ?_)|(exists 4,"pop";refine Uu ?_ ?_))|(exists 1,zP _ _ (.Call (.Name _ _) _ _ _) _;first |(exists 3,"tuple";refine eS GY Ce rfl ‹_› Cf ?_)|(exists 3,"len";refine ON YQ Sq rfl ‹_› Su ?_)|(exists 3,"isinstance";refine ON Cd Ss rfl ‹_› HG ?_)|(exists 1,zP _ _ (.Call (.Name "dict" _) _ _ _) (bJ _ Lx);refine Ly rfl rfl ‹_› rfl ‹_› ?_)|(exists 3,"sorted";refine BR false ‹_› (Room.mono ‹_› (by decide)) rfl ‹_› rfl ?_)|(exists 1,zP _ _ (.Call (.Name "list" _) _ _ _) (bJ _ AQ);refine eS SX (Di rfl) rfl ‹_› KW ?_)|(exists 1,zP _ _ (.Call (.Name "dict" _) _ _ _) (bJ _ TB);refine eS Dj Uy rfl ‹_› LW ?_)|(exists 1,zP _ _ (.Call (.Name "list" _) _ _ _) (bJ _ OV);refine eS KH Jv rfl ‹_› KW ?_)|(exists 1,zP _ _ (.Call (.Name "dict" _) _ _ _) (bJ _ JK);refine eS (ZK (Room.units ‹_›)) (Lo rfl) rfl ‹_› LW ?_)|(exists 1,zP _ _ (.Call (.Name "list" _) _ _ _) (bJ _ AV);refine eS TL (Ec rfl) rfl ‹_› KW ?_)|(exists 3,"sorted";refine BR true ‹_› (Room.mono ‹_› (by decide)) rfl ‹_› rfl ?_)|refine Df ‹_› (Room.mono ‹_› (by decide)) rfl ?_)|(exists 1,tW _ _ (.Compare _ _ _ _) _;first |(exists 1,tW _ _ (.Compare _ [.NotEq] _ _) _;refine Yp (Room.units ‹_›) ?_ ?_)|(exists 1,tW _ _ (.Compare _ [.Eq] _ _) _;refine Yo (Room.units ‹_›) ?_ ?_)|(exists 1,tW _ _ (.Compare _ [.NotIn] _ _) _;refine Cc (Room.units ‹_›) ?_ ?_)|(exists 1,tW _ _ (.Compare _ [.In] _ _) _;refine Yt (Room.units ‹_›) ?_ ?_)|(exists 1,tW _ _ (.Compare _ [.Lt] _ _) _;refine Yq (Room.units ‹_›) ?_ ?_)|(exists 1,tW _ _ (.Compare _ [.IsNot] _ _) _;refine Bz ?_ ?_)|(exists 1,tW _ _ (.Compare _ [.Gt] _ _) _;refine Yr ?_ ?_))|(exists 1,tW _ _ (.UnaryOp _ _ _) _;refine Rf ?_)|(exists 1,tW _ _ (.BoolOp _ _ _) _;refine Yj ?_)|(exists 1,tW _ _ _ _;refine Bn ?_)|(exists 1,Nz _ _ _ _;first |refine Rb ?_|refine Yi ?_ ?_|refine Ik ?_|refine Re ?_ ?_)|(exists 1,EK _ _ _ _;first |refine Il ?_ ?_|exact Rg)|(exists 1,Ih _ _ _ _;first |exact Im|refine Io ?_)|(exists 1,OQ _ _ _ _;first |exact Ja|refine Jb ?_)|(exists 1,GT _ _ _ _ _;first |(exists 8,CY;refine Iw ?_)|(exists 8,Aj;refine Rq ?_)|(exists 8,fC;refine YK rfl ‹_› ?_)|(exists 8,itQ;refine Us ?_)|(exists 8,Of;refine Sy rfl ‹_› ?_)|(exists 8,ZL;refine Dr ?_)|(exists 8,Yy;refine Km rfl ‹_› ?_)|(exists 8,Ym;refine Rr ?_))|(exists 1,YI _ _ (.Name _ _) _;exact Iq _ ‹_›)|(exists 1,YI _ _ _ _;first |refine Rm rfl ?_|(exists 1,YI _ _ _ (DJ JC _ _);refine Lj ?_ ?_)|(exists 1,YI _ _ _ (DJ IY _ _);refine Kn (Room.units ‹_›) ?_ ?_)|(exists 1,YI _ _ _ (DJ IU _ _);refine Sw ?_ ?_))|(exists 1,Bp _ _ _ _;first |refine Ir ?_ ?_|exact Rl)|(exists 1,Gi _ _ _ (.Name _ _) _;exact Iy _ ‹_›)|(exists 1,Gi _ _ _ _ _;refine Rv rfl ?_)|(exists 1,Bq _ _ _ _ _;first |refine Iz ?_ ?_|exact Ru)))
 | `(tactic|exists 2,$f:ident,$xs:ident,*)=>`(tactic|(refine okA $f ‹_› (λ_ _ _ _ _ _ _ _ _ _=>?_);delta $f $xs*; (first |refine SC ?_|refine KN ?_ ?_);and_intros))
 | `(tactic|exists 0,$f:ident,$xs:ident,*)=>`(tactic|(refine okL $f ‹_› (λ_ _ _ _ _ _ _ _ _=>?_);delta $f $xs*; (first |refine SC ?_|refine KN ?_ ?_);and_intros))
def HP(D:DefM K mg "value_rank" (top 1))(a:mg "str"=none)(b:mg "isinstance"=none):ZF P w K mg base "value_rank" 1 1 ["value"] aR:=by exists 2,aQ,bB,fQ
def HQ(D:DefM K mg "tuple_rank" (top 2))(b:ZF P w K mg base "value_rank" 1 1 ["value"] aR)(a:mg "tuple"=none):ZF P w K mg base "tuple_rank" 2 1 ["values"] aT:=by exists 2,aS,fR,cO,jC
def RD(D:DefM K mg "in_order" (top 3))(a:ZF P w K mg base "tuple_rank" 2 1 ["values"] aT)(b:mg "sorted"=none):ZF P w K mg base "in_order" 5 1 ["some"] oX:=by exists 2,oW,aV,aW,oV,aU,fS
def RE(D:DefM K mg "names_in" (top 6))(a:mg "list"=none):ZF P w K mg base "names_in" 1 1 ["atoms"] xV:=by exists 2,oY,aX,aY,aZ,bE,fU,bD,bC
def UG(D:DefM K mg "fitting" (top 7))(a:mg "zip"=none):ZF P w K mg base "fitting" 1 2 ["terms","cells"] eW:=by exists 2,eV,lB,lD,BU,xR,yT,dG
def UH(D:DefM K mg "fits_of" (top 8))(a:mg "zip"=none)(b:ZF P w K mg base "fitting" 1 2 ["terms","cells"] eW):ZF P w K mg base "fits_of" 2 3 ["rows","marks","atom"] oA:=by exists 2,rO,lE,lF,jR,xE,xF,jS
def NP(D:DefM K mg "values_at" (top 9))(a:mg "tuple"=none):ZF P w K mg base "values_at" 1 2 ["values","names"] yG:=by exists 2,lG,lX,nS,jT
def Wi(D:DefM K mg "cut" (top 10))(c:ZF P w K mg base "values_at" 1 2 ["values","names"] yG)(a:mg "dict"=none)(b:mg "zip"=none):ZF P w K mg base "cut" 2 2 ["fits","names"] JL:=by exists 2,WH,DI,DL,DM,DH,AW,oB,rP,rQ
def Af(D:DefM K mg "joined" (top 11))(b:ZF P w K mg base "values_at" 1 2 ["values","names"] yG)(a:mg "dict"=none):ZF P w K mg base "joined" 2 3 ["fits","others","shared"] qW:=by exists 2,uX,pE,pF,pG,pH,FG,fV,fX,oZ,pD,fW,pC
def vO(D:DefM K mg "marked_answers" (top 12)){b:Tok}(k:mg "EVERYWHERE"=some (.int (-1) b))(j:mg "enumerate"=none)(e:ZF P w K mg base "names_in" 1 1 ["atoms"] xV)(c:mg "list"=none)(a:ZF P w K mg base "cut" 2 2 ["fits","names"] JL)(m:ZF P w K mg base "fits_of" 2 3 ["rows","marks","atom"] oA)(d:ZF P w K mg base "joined" 2 3 ["fits","others","shared"] qW)(i:ZF P w K mg base "values_at" 1 2 ["values","names"] yG)(h:mg "dict"=none):ZF P w K mg base "marked_answers" 3 3 ["rows","marks","question"] xP:=by exists 2,cP,fY,gF,xW,xX,gG,gH,yX,xB,yN,kM,kN,kO,kP,kQ,kR,kS,kG,nE,kH,nF,kI,nG,kL,nH
def UI(D:DefM K mg "answers" (top 13))(c:ZF P w K mg base "in_order" 5 1 ["some"] oX)(a:ZF P w K mg base "marked_answers" 3 3 ["rows","marks","question"] xP)(b:mg "list"=none):ZF P w K mg base "answers" 6 2 ["rows","question"] zY:=by exists 2,rR,qX,lY,lZ
def CS(D:DefM K mg "_law_cell_at" (top 15))(a:mg "len"=none):ZF P w K mg base "_law_cell_at" 1 2 ["_law_script","_law_k"] zO:=by exists 2,bF,jD,oC
def GL(D:DefM K mg "_law_digits" (top 16))(a:mg "range"=none):ZF P w K mg base "_law_digits" 1 1 ["_law_cell"] zV:=by exists 2,dH,jV,jW,nT,qB,nU,nV,jU,bG,bH,bI
def NQ(D:DefM K mg "_law_take" (top 17)):ZF P w K mg base "_law_take" 1 2 ["_law_well","_law_many"] zA:=by exists 2,qY,dI,dL,sM
def NS(D:DefM K mg "_law_word" (top 18))(b:mg "range"=none)(a:ZF P w K mg base "_law_take" 1 2 ["_law_well","_law_many"] zA):ZF P w K mg base "_law_word" 2 1 ["_law_well"] kT:=by exists 2,qZ,sN,sO,mE,sP,dM,nW
def NT(D:DefM K mg "_law_pool" (top 19))(c:mg "range"=none)(a:ZF P w K mg base "_law_take" 1 2 ["_law_well","_law_many"] zA)(b:ZF P w K mg base "_law_word" 2 1 ["_law_well"] kT):ZF P w K mg base "_law_pool" 3 2 ["_law_well","_law_many"] gQ:=by exists 2,lH,mG,mH,mI,dN,nY,nZ,jX,jY,jZ
def GM(D:DefM K mg "_law_tables" (top 20))(b:mg "range"=none)(a:ZF P w K mg base "_law_take" 1 2 ["_law_well","_law_many"] zA):ZF P w K mg base "_law_tables" 2 1 ["_law_well"] dO:=by exists 2,mK,aB,aC,aD,hX,bK,bL
def RG(D:DefM K mg "_law_row" (top 21))(d:ZF P w K mg base "_law_take" 1 2 ["_law_well","_law_many"] zA)(c:mg "len"=none)(b:mg "range"=none)(a:mg "tuple"=none):ZF P w K mg base "_law_row" 2 3 ["_law_well","_law_tables_here","_law_pool_here"] xY:=by exists 2,pI,eC,eE,fZ,bM
def NU(D:DefM K mg "_law_rows" (top 22))(c:ZF P w K mg base "_law_digits" 1 1 ["_law_cell"] zV)(b:ZF P w K mg base "_law_take" 1 2 ["_law_well","_law_many"] zA)(d:ZF P w K mg base "_law_row" 2 3 ["_law_well","_law_tables_here","_law_pool_here"] xY)(a:mg "len"=none):ZF P w K mg base "_law_rows" 3 5 ["_law_cells","_law_extra","_law_tables_here","_law_pool_here","_law_most"] lK:=by exists 2,lI,dP,dQ,dR,dS,sQ,gA,wG,xG,gB,wH
def NV(D:DefM K mg "_law_term" (top 23))(a:ZF P w K mg base "_law_take" 1 2 ["_law_well","_law_many"] zA)(b:mg "len"=none):ZF P w K mg base "_law_term" 2 3 qV lL:=by exists 2,gR,wI,dU
def HR(D:DefM K mg "_law_atoms" (top 24))(b:mg "range"=none)(d:ZF P w K mg base "_law_take" 1 2 ["_law_well","_law_many"] zA)(c:mg "len"=none)(e:ZF P w K mg base "_law_term" 2 3 qV lL)(a:mg "tuple"=none):ZF P w K mg base "_law_atoms" 3 5 ["_law_well","_law_tables_here","_law_names_here","_law_pool_here","_law_many"] eI:=by exists 2,eF,iA,iB,iC,bN,cR,cS,cQ,jE
def BF(D:DefM K mg "_law_names_in" (top 25)):ZF P w K mg base "_law_names_in" 1 1 ["_law_atoms_here"] yZ:=by exists 2,gC,wQ,wR,wU,wO,jK,yF,xK
def NW(D:DefM K mg "_law_head" (top 26))(d:ZF P w K mg base "_law_names_in" 1 1 ["_law_atoms_here"] yZ)(a:mg "range"=none)(c:ZF P w K mg base "_law_take" 1 2 ["_law_well","_law_many"] zA)(b:mg "len"=none):ZF P w K mg base "_law_head" 2 3 ["_law_well","_law_atoms_here","_law_most"] nI:=by exists 2,lN,mL,mN,mP,mQ,dW,aF
def HS(D:DefM K mg "_law_names" (top 27))(a:ZF P w K mg base "_law_word" 2 1 ["_law_well"] kT)(b:ZF P w K mg base "_law_take" 1 2 ["_law_well","_law_many"] zA)(c:mg "range"=none):ZF P w K mg base "_law_names" 3 1 ["_law_well"] eK:=by exists 2,uY,bO,bP,iD,iE,iG,kU,cT,jF,cU
def HU(D:DefM K mg "_law_order" (top 28))(a:mg "str"=none)(b:mg "isinstance"=none):ZF P w K mg base "_law_order" 1 1 ["_law_cells"] eO:=by exists 2,eM,bR,iH,iI,bQ,cV
def CT(D:DefM K mg "_law_renamed" (top 29))(a:mg "dict"=none)(c:mg "zip"=none)(b:mg "tuple"=none):ZF P w K mg base "_law_renamed" 1 3 ["_law_question","_law_names_here","_law_others_here"] bT:=by exists 2,bS,cW,cX,cY,cZ,jG,gN,wA,gI,gM,xZ,yK
def GO(D:DefM K mg "_law_others" (top 30)):ZF P w K mg base "_law_others" 1 1 ["_law_names_here"] dY:=by exists 2,dX,aG,aH,wV,wW
def GP(D:DefM K mg "_law_within" (top 33)):ZF P w K mg base "_law_within" 1 2 dF yU:=by exists 2,dZ,aI,wX,bU
def HV(D:DefM K mg "_law_grows" (top 31))(b:ZF P w K mg base "_law_within" 1 2 dF yU)(a:ZF P w K mg base "answers" 6 2 ["rows","question"] zY):ZF P w K mg base "_law_grows" 7 4 oU eQ:=by exists 2,eP,bV,iK
def GQ(D:DefM K mg "_law_turned" (top 32))(b:ZF P w K mg base "_law_order" 1 1 ["_law_cells"] eO)(a:mg "sorted"=none):ZF P w K mg base "_law_turned" 4 2 ["_law_told","_law_turn"] nB:=by exists 2,nA,aK,aL,bW,wY
def Wj{f:Addr}{fd:FuncData}(F:Fun K "law" "law" (top 34) f fd)(p:ZF P w K mg base "_law_tables" 2 1 ["_law_well"] dO)(h:ZF P w K mg base "_law_digits" 1 1 ["_law_cell"] zV)(d:ZF P w K mg base "_law_cell_at" 1 2 ["_law_script","_law_k"] zO)(n:ZF P w K mg base "_law_pool" 3 2 ["_law_well","_law_many"] gQ)(o:ZF P w K mg base "_law_names" 3 1 ["_law_well"] eK)(q:ZF P w K mg base "_law_atoms" 3 5 ["_law_well","_law_tables_here","_law_names_here","_law_pool_here","_law_many"] eI)(v:ZF P w K mg base "_law_take" 1 2 ["_law_well","_law_many"] zA)(r:ZF P w K mg base "_law_head" 2 3 ["_law_well","_law_atoms_here","_law_most"] nI)(a:mg "tuple"=none)(e:ZF P w K mg base "_law_rows" 3 5 ["_law_cells","_law_extra","_law_tables_here","_law_pool_here","_law_most"] lK)(y:ZF P w K mg base "answers" 6 2 ["rows","question"] zY)(b:mg "len"=none)(i:ZF P w K mg base "_law_renamed" 1 3 ["_law_question","_law_names_here","_law_others_here"] bT)(k:ZF P w K mg base "_law_others" 1 1 ["_law_names_here"] dY)(u:ZF P w K mg base "_law_turned" 4 2 ["_law_told","_law_turn"] nB)(j:ZF P w K mg base "_law_row" 2 3 ["_law_well","_law_tables_here","_law_pool_here"] xY)(c:ZF P w K mg base "_law_grows" 7 4 oU eQ)(m:ZF P w K mg base "_law_names_in" 1 1 ["_law_atoms_here"] yZ)(s:ZF P w K mg base "_law_within" 1 2 dF yU):FnOk P w K mg base EB 8 f fd ["_law_script"] (SD ⟨K,mg,P,w⟩ 1 JM):=by exists 0,WI,LZ,MA,MB,MD,ME,MF,MG,MH,MK,FH,FK,FL,FM,rA,FN,FO,FP,FQ,FR,FS,FU,FV,FW,FX,oD,FY,DO,rS,BB,BA
end
abbrev mgN:=@PySem.W.mg_none_of
abbrev nNo(K:PySem.W.Frag)(x:Str):Prop:=PySem.W.nsIn K mainGlobals x=some none
def all_mk{l:PySem.W.OpenLaw}{w:World}{K:J9}{h:Heap}{mg:H9}{fa:Addr}(X:K.In h)(p:h.Ns mainGlobals mg)(D:mg "law"=some (.ref fa))(D0:DefM K mg "value_rank" (top 1))(D1:DefM K mg "tuple_rank" (top 2))(D2:DefM K mg "in_order" (top 3))(D3:DefM K mg "names_in" (top 6))(D4:DefM K mg "fitting" (top 7))(D5:DefM K mg "fits_of" (top 8))(D6:DefM K mg "values_at" (top 9))(D7:DefM K mg "cut" (top 10))(D8:DefM K mg "joined" (top 11))(D9:DefM K mg "marked_answers" (top 12))(D10:DefM K mg "answers" (top 13))(D11:DefM K mg "_law_cell_at" (top 15))(D12:DefM K mg "_law_digits" (top 16))(D13:DefM K mg "_law_take" (top 17))(D14:DefM K mg "_law_word" (top 18))(D15:DefM K mg "_law_pool" (top 19))(D16:DefM K mg "_law_tables" (top 20))(D17:DefM K mg "_law_row" (top 21))(D18:DefM K mg "_law_rows" (top 22))(D19:DefM K mg "_law_term" (top 23))(D20:DefM K mg "_law_atoms" (top 24))(D21:DefM K mg "_law_names_in" (top 25))(D22:DefM K mg "_law_head" (top 26))(D23:DefM K mg "_law_names" (top 27))(D24:DefM K mg "_law_order" (top 28))(D25:DefM K mg "_law_renamed" (top 29))(D26:DefM K mg "_law_others" (top 30))(D27:DefM K mg "_law_within" (top 33))(D28:DefM K mg "_law_grows" (top 31))(D29:DefM K mg "_law_turned" (top 32))(D30:DefM K mg "law" (top 34))
  {pT:Tok} (vT:PySem.W.nsIn K mainGlobals "EVERYWHERE"=some (some (.int (-1) pT)))
  (GR:nNo K "dict")
  (CK:nNo K "enumerate")
  (pS:nNo K "isinstance")
  (CL:nNo K "len")
  (NY:nNo K "list")
  (eR:nNo K "range")
  (GS:nNo K "sorted")
  (Gg:nNo K "str")
  (pU:nNo K "tuple")
  (RJ:nNo K "zip")
  : ∃fd:FuncData,(∀(s:Ń)(v:ń),BindsTo s fd ⟨[v],[]⟩ [("_law_script",v)])/\ ∀base:Heap,K.In base->base.Ns mainGlobals mg->FnOk l.prog w K mg base EB 8 fa fd ["_law_script"] (IV K JM):=by
 have e:=mgN X p GR;have m:=mgN X p CK;have c:=mgN X p pS;have d:=mgN X p CL;have o:=mgN X p NY;have a:=mgN X p eR;have k:=mgN X p GS;have q:=mgN X p Gg;have b:=mgN X p pU;have n:=mgN X p RJ;have j:=PySem.W.mg_of X p vT;refine Uw D30 D (λ_ _ _ _ _ _ s v=>.of_eq rfl) λbase f fd F=>?_;have Z:=HP (P:=l.prog) (w:=w) (base:=base) D0 q c;have Y:=HQ (P:=l.prog) (w:=w) (base:=base) D1 Z b;have G2:=RD (P:=l.prog) (w:=w) (base:=base) D2 Y k;have G3:=RE (P:=l.prog) (w:=w) (base:=base) D3 o;have G4:=UG (P:=l.prog) (w:=w) (base:=base) D4 n;have G5:=UH D5 n G4;have M:=NP (P:=l.prog) (w:=w) (base:=base) D6 b;have G7:=Wi (P:=l.prog) (w:=w) (base:=base) D7 M e n;have G8:=Af (P:=l.prog) (w:=w) (base:=base) D8 M e;have G9:=vO D9 j m G3 o G7 G5 G8 M e;have u:=UI (P:=l.prog) (w:=w) (base:=base) D10 G2 G9 o;have E:=CS (P:=l.prog) (w:=w) (base:=base) D11 d;have y:=GL (P:=l.prog) (w:=w) (base:=base) D12 a;have i:=NQ (P:=l.prog) (w:=w) (base:=base) D13;have z:=NS (P:=l.prog) (w:=w) (base:=base) D14 a i;have O:=NT (P:=l.prog) (w:=w) (base:=base) D15 a i z;have T:=GM (P:=l.prog) (w:=w) (base:=base) D16 a i;have A:=RG (P:=l.prog) (w:=w) (base:=base) D17 i d a b;have I:=NU (P:=l.prog) (w:=w) (base:=base) D18 y i A d;have G:=NV (P:=l.prog) (w:=w) (base:=base) D19 i d;have H:=HR (P:=l.prog) (w:=w) (base:=base) D20 a i d G b;have r:=BF (P:=l.prog) (w:=w) (base:=base) D21;have J:=NW (P:=l.prog) (w:=w) (base:=base) D22 r a i d;have S:=HS (P:=l.prog) (w:=w) (base:=base) D23 z i a;have U:=HU (P:=l.prog) (w:=w) (base:=base) D24 q c;have L:=CT (P:=l.prog) (w:=w) (base:=base) D25 e n b;have C:=GO (P:=l.prog) (w:=w) (base:=base) D26;have B:=GP (P:=l.prog) (w:=w) (base:=base) D27;have N:=HV (P:=l.prog) (w:=w) (base:=base) D28 B u;have Q:=GQ (P:=l.prog) (w:=w) (base:=base) D29 U k;exact Wj (P:=l.prog) (w:=w) (base:=base) F T y E O S H i J b I u d L C Q A N r B
def walk{l:PySem.W.OpenLaw}{q:ņ}{b:C0}{m:(Str->Option ń)->Heap->Prop}{e:World->Heap->Prop}{d:DefRec}{K:Params->PySem.W.Frag}(i:l.most=some 63)(c:d.params.defaults=[])
  (hY: ∀(w:World)(h:Heap),e w h->(K w.params).In h)
  (F: ∀(w:World)(mg:H9)(fa:Addr)(h:Heap),(K w.params).In h->h.Ns mainGlobals mg->mg d.name=some (.ref fa)->
   ∃fd:FuncData,(∀(s:Ń)(u:ń),BindsTo s fd ⟨[u],[]⟩ [("_law_script",u)])/\ ∀base:Heap,(K w.params).In base->base.Ns mainGlobals mg->FnOk l.prog w (K w.params) mg base EB 8 fa fd ["_law_script"] (IV (K w.params) JM)):
  PySem.W.WalkO q b m e l.row.toRowW d [] (λf vs=>PySem.call f vs):=
 L2.walk_of (n:=63) (k:=8) (x:="_law_script") (CX:=λ_=>EB) (sp:=λw=>IV (K w.params) JM) i (by decide) c ⟨rfl,by decide,by decide⟩ hY F
  (λw H a r p j o=>Cm j o (Gd r p)) λ_ _ _ _ _ z=>z
end My
end M
end L2
namespace PySem.W.Fast
def tw16847920815215066683:=0
theorem te16847920815215066683:tw16847920815215066683=0:=rfl
def tw6701970228187512225:=0
theorem te6701970228187512225:tw6701970228187512225=0:=rfl
def tw11507606232296090149:=0
theorem te11507606232296090149:tw11507606232296090149=0:=rfl
def tw17959495554946296726:=0
theorem te17959495554946296726:tw17959495554946296726=0:=rfl
def tw4052045535885661916:=0
theorem te4052045535885661916:tw4052045535885661916=0:=rfl
def tw13955229289198507013:=0
theorem te13955229289198507013:tw13955229289198507013=0:=rfl
def tw15682961670117742418:=0
theorem te15682961670117742418:tw15682961670117742418=0:=rfl
def tw14509081743364533319:=0
theorem te14509081743364533319:tw14509081743364533319=0:=rfl
def tw10622039385361104396:=0
theorem te10622039385361104396:tw10622039385361104396=0:=rfl
def tw908346132979507028:=0
theorem te908346132979507028:tw908346132979507028=0:=rfl
def tw13799367559079220399:=0
theorem te13799367559079220399:tw13799367559079220399=0:=rfl
def tw13069146841041140830:=0
theorem te13069146841041140830:tw13069146841041140830=0:=rfl
def tw14669105821598450895:=0
theorem te14669105821598450895:tw14669105821598450895=0:=rfl
def tw17229645843228034758:=0
theorem te17229645843228034758:tw17229645843228034758=0:=rfl
def tw8677411135794119209:=0
theorem te8677411135794119209:tw8677411135794119209=0:=rfl
def tw1778206759371111431:=0
theorem te1778206759371111431:tw1778206759371111431=0:=rfl
def tw7443788893094453009:=0
theorem te7443788893094453009:tw7443788893094453009=0:=rfl
def tw17612578532127969871:=0
theorem te17612578532127969871:tw17612578532127969871=0:=rfl
def tw269210402330048092:=0
theorem te269210402330048092:tw269210402330048092=0:=rfl
def tw6483695638416215346:=0
theorem te6483695638416215346:tw6483695638416215346=0:=rfl
end PySem.W.Fast
open PySem PySem.W PyProof.Rows
set_option maxRecDepth 100000 in
set_option maxHeartbeats 0 in
theorem PySem.Challenge.cw_mendsure_k34_answers_of_turned_questions_holds : PySem.Challenge.rw_mendsure_k34_answers_of_turned_questions.Holds := by
  w_on; o_law; k_head; (case hw => w_witness2)
  k_fill
  refine L2.M.My.walk (l := PySem.Challenge.rw_mendsure_k34_answers_of_turned_questions) rfl rfl (fun w h Y => PySem.W.kIn_of Y) ?F
  case F =>
    intro w mg fa h KX G a
    refine' L2.M.My.all_mk KX G a ?_ ?_ ?_ ?_ ?_ ?_ ?_ ?_ ?_ ?_ ?_ ?_ ?_ ?_ ?_ ?_ ?_ ?_ ?_ ?_ ?_ ?_ ?_ ?_ ?_ ?_ ?_ ?_ ?_ ?_ ?_ ?_ ?_ ?_ ?_ ?_ ?_ ?_ ?_ ?_ ?_ ?_
    any_goals first | (exact L2.M.def_mk (by k_is) (by k_is) (by k_is) (by k_is) KX G) | (k_is) | (show PySem.W.nsIn _ _ _ = _; k_is)
