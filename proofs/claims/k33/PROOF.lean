import PyProof.Rows.All
import Wide.All
import OpenK.AllK
import Wide.FinOn
import Lean
import PyProof.EqAt
import PyProof.EqKinds
import PyProof.TupleCall
import PySem.Challenge.RW_mendsure_k33_answers_put_for_names
set_option Elab.async false
set_option linter.all false
set_option hygiene false
set_option compiler.extract_closed false
local macro_rules|`(↑0)=>`(s.heap.objs.size)
local macro_rules|`(↑1)=>`(S.length)
local macro_rules|`(↑2)=>`(Inv X pins σ H s)
set_option maxRecDepth 100000
noncomputable section
set_option bootstrap.genMatcherCode false
open List (all_map all_toArray cons_lt_cons_iff drop_eq_getElem_cons drop_of_length_le drop_take drop_zero ext_getElem? filterMap_cons filterMap_cons_some filterMap_map find?_cons flatMap_cons flatten_cons forIn_cons forIn_nil forIn_toArray getElem?_append_left getElem?_append_right getElem?_cons_succ getElem?_drop getElem?_eq_none getElem?_map getElem?_of_mem getElem?_set_ne getElem?_set_self getElem?_take_of_lt getElem_drop getElem_inj getElem_mem getElem_take length_filterMap_le length_range length_zip lookup_cons map_congr_left map_drop mem_append_left mem_filterMap mem_flatMap mem_map_of_mem mem_of_getElem? mem_of_mem_take mem_range nodup_append nodup_cons nodup_nil of_mem_zip pairwise_append pairwise_map replicate_succ set_append_left set_append_right set_cons_succ take_append_drop take_length take_of_length_le zipIdx_cons zipIdx_nil zip_cons_cons zip_nil_left)
open Nat (add_assoc add_sub_cancel le_of_eq le_of_lt le_succ lt_irrefl lt_of_le_of_lt lt_trans min_eq_left min_eq_right mul_le_mul sub_self zero_le)
abbrev à:=@Nat.le_refl
abbrev á:=@List.getElem?_append_left
abbrev â:=@PySem.Heap.lt_size
abbrev ã:=@PySem.Heap.get?_push_size
abbrev ä:=@List.map_cons
abbrev å:=@Option.some.inj
abbrev æ:=@List.getElem?_append_right
abbrev ç:=@Nat.lt_of_lt_of_le
abbrev è:=@List.mem_of_getElem?
abbrev é:=@List.mem_append
abbrev ê:=@List.pairwise_append
abbrev ë:=@Nat.ne_of_lt
abbrev ì:=@PySem.wpAny_call_entry
abbrev í:=@Array.length_toList
abbrev î:=@PySem.wpAny_callSpecial?_slot
abbrev ï:=@Option.isSome_iff_exists
abbrev ð:=@List.map_append
abbrev ñ:=@PySem.wpAny_field
abbrev ò:=@Array.getElem?_toList
abbrev ó:=@List.mem_append_right
abbrev ô:=@PySem.wpAny_setField_rec
abbrev õ:=@Nat.le_trans
abbrev ö:=@List.getElem?_map
abbrev ø:=@Nat.ne_of_gt
abbrev ù:=@PySem.wpAny_holding
abbrev ú:=@List.length_nil
abbrev û:=@PySem.wpAny_mono
abbrev ü:=@Array.toList_append
abbrev ý:=@PySem.Heap.get?_update_other
abbrev þ:=@List.length_drop
abbrev ÿ:=@PySem.wpAny_loadPart'
abbrev Ā:=@List.take_of_length_le
abbrev ā:=@Classical.choose_spec
abbrev Ă:=@Nat.zero_add
abbrev ă:=@List.mem_append_left
abbrev Ą:=@List.length_set
abbrev ą:=@List.all_eq_true
abbrev Ć:=@PyProof.Rows.wpS_forRange
abbrev ć:=@PySem.wpAny_newObj_type
abbrev Ĉ:=@PySem.wpAny_attempt
abbrev ĉ:=@PySem.F.slot_zip_next
abbrev Ċ:=@List.length_replicate
abbrev ċ:=@List.length_filter_le
abbrev Č:=@PyProof.Rows.callWith_type1
abbrev č:=@PySem.wpAny_seqItems
abbrev Ď:=@Int.toNat_natCast
abbrev ď:=@PySem.Heap.SameBut.update
abbrev Đ:=@Array.getElem?_eq_getElem
abbrev đ:=@Nat.le_add_right
abbrev Ē:=@List.length_range
abbrev ē:=@List.getElem?_cons_succ
abbrev Ĕ:=@PySem.sizeLine_eq
abbrev ĕ:=@PySem.wpAny_rule
abbrev Ė:=@List.map_congr_left
abbrev ė:=@List.getElem?_set_self
abbrev Ę:=@of_decide_eq_true
abbrev ę:=@PySem.wpAny_dictEntries
abbrev Ě:=@List.mem_filter
abbrev ě:=@List.foldl_cons
abbrev Ĝ:=@List.nil_append
abbrev ĝ:=@Array.size_push
abbrev Ğ:=@PySem.wpAny_typeOf
abbrev ğ:=@List.zip_cons_cons
abbrev Ġ:=@PySem.wpAny_isInstance
abbrev ġ:=@List.set_append_right
abbrev Ģ:=@PySem.wpAny_notOrdered_dict
abbrev ģ:=@PyProof.Rows.slot_tuple_getitem
abbrev Ĥ:=@List.getElem?_set_ne
abbrev ĥ:=@List.nodup_append
abbrev Ħ:=@List.drop_eq_getElem_cons
abbrev ħ:=@PySem.Around.under_plainId
abbrev Ĩ:=@PySem.wpAny_typeNameOfWhole_itemiter
abbrev ĩ:=@PySem.wpAny_typeNameOfWhole_keyiter
abbrev Ī:=@List.getElem?_take_of_lt
abbrev ī:=@List.length_filterMap_le
abbrev Ĭ:=@List.filterMap_cons
abbrev ĭ:=@List.replicate_succ
abbrev Į:=@List.cons_append
abbrev į:=@PySem.Heap.size_push
abbrev İ:=@List.mem_map_of_mem
abbrev ı:=@Nat.lt_irrefl
abbrev Ĳ:=@List.map_map
abbrev ĳ:=@List.set_append_left
abbrev Ĵ:=@PySem.F.slot_tuple_iterator_next
abbrev ĵ:=@Array.perm_iff_toList_perm
abbrev Ķ:=@PySem.wpAny_truthy_bool
abbrev ķ:=@PySem.F.args_zip_next_1
abbrev ĸ:=@List.getElem?_eq_none_iff
abbrev Ĺ:=@PySem.call_meets
abbrev ĺ:=@List.extract_eq_take_drop
abbrev Ļ:=@List.length_zip
abbrev ļ:=@PySem.wpAny_typeNameOf_itemiter
abbrev Ľ:=@List.filterMap_cons_none
abbrev ľ:=@PySem.F.entry_zip_next
abbrev Ŀ:=@List.take_append_drop
abbrev ŀ:=@beq_eq_false_iff_ne
abbrev Ł:=@List.filterMap_cons_some
abbrev ł:=@PySem.wpAny_getItem_str_slice
abbrev Ń:=@List.length_eq_zero_iff
abbrev ń:=@List.mem_filterMap
abbrev Ņ:=@Bool.not_true
abbrev ņ:=@PySem.codeAny_builtin
abbrev Ň:=@PySem.wpAny_dictEpoch
abbrev ň:=@List.lookup_cons
abbrev ŉ:=@Nat.lt_of_le_of_lt
abbrev Ŋ:=PySem.Shared
abbrev ŋ:=PySem.Value
abbrev Ō:=PySem.Around
abbrev ō:=PySem.Program
def q8{n:Nat}:n<=n:=Nat.le_refl n
def xF0:¬(false=true):=Bool.false_ne_true

abbrev dF0:=@decide_eq_false
abbrev dT0:=@decide_eq_true
abbrev iP:=@if_pos
abbrev iN:=@if_neg
abbrev mC:=@List.mem_cons
abbrev lC:=@List.length_cons
abbrev mO:=@List.mem_cons_of_mem
abbrev lM:=@List.length_map
abbrev nM:=@List.not_mem_nil
abbrev mS:=@List.mem_singleton
abbrev mF0:=@List.mem_cons_self
abbrev fT:=@Bool.false_eq_true
abbrev sA0:=@List.size_toArray
abbrev lS:=@List.length_singleton
abbrev eL:=@Int.emod_lt_of_pos
abbrev eN:=@Int.emod_nonneg
abbrev aE:=@Bool.and_eq_true
abbrev iF:=@if_false
abbrev aN:=@List.append_nil
abbrev lA:=@List.length_append
abbrev gS:=@List.getElem?_eq_some_iff
abbrev gE:=@List.getElem?_eq_getElem
abbrev wB:=@PySem.wpAny_bind
abbrev wP:=@PySem.wpAny_pure
abbrev hP0:=@PySem.Heap.get?_push_of_some
abbrev mM:=@List.mem_map
abbrev lT:=@List.length_take
abbrev aA:=@List.append_assoc
abbrev VP:=PySem.Value->PySem.Shared->Prop
abbrev B9:=PySem.W.Frag
abbrev B8:=List PySem.Expr
abbrev B7:=Option Int
abbrev B6:=List Bool
abbrev B5:=List (PySem.Addr×PySem.Obj)
abbrev B3:=PySem.Str->Option PySem.Value
abbrev B0:=List PySem.Str
abbrev A9:=List PySem.Addr
abbrev A7:=Array PySem.Value
abbrev A0:=List PySem.Value
abbrev Za:=List Int
abbrev Tk:=List (Int×Int)
abbrev Db:=List Nat
abbrev Ch:=List (List Nat)
set_option bootstrap.genMatcherCode true in
local macro_rules
 |`(#[0])=>`(by lia)
namespace L2
open PySem PySem.Spec PyProof.Rows
variable{pins:B5}{E:VP}{t':Nat}{pos:Pos}{us:A0}{tg:Expr}
abbrev Key:=Sum Int Str
noncomputable def lR:Key->ŋ->Bool
 |.inl k,v=>Value.isInt k v
 |.inr x,v=>Value.isStrOf x v
noncomputable def Wf(w:World):Key->Int
 |.inl k=>hashInt k
 |.inr x=>hashStr w x
def yB: ∀{k:Key}{v:ŋ},lR k v=true->(∃i t,k=Sum.inl i/\v=Value.int i t)\/(∃x t,k=Sum.inr x/\v=Value.str x t)
 |.inl i,v,h=>by obtain⟨t,e⟩:=Value.isInt_shape h;exact .inl ⟨i,t,rfl,e⟩
 |.inr x,v,h=>by obtain⟨t,e⟩:=Value.isStrOf_shape h;exact .inr ⟨x,t,rfl,e⟩
def WG(i:Int)(t:Tok):lR (.inl i) (.int i t)=true:=by simp[lR,Value.isInt]
def WH(x:Str)(t:Tok):lR (.inr x) (.str x t)=true:=by simp[lR,Value.isStrOf]
def Nz(a b:Int):decide ((Sum.inl a:Key)=Sum.inl b)=(a==b):=by
 by_cases e:a=b
 .subst e;simp
 .have h: ¬(Sum.inl a:Key)=Sum.inl b:=λq=>e (Sum.inl.inj q);rw[dF0 h];exact(ŀ.mpr e).symm
def Oa(a b:Str):decide ((Sum.inr a:Key)=Sum.inr b)=decide (a=b):=by
 by_cases e:a=b
 .subst e;simp
 .have h: ¬(Sum.inr a:Key)=Sum.inr b:=λq=>e (Sum.inr.inj q);rw[dF0 h,dF0 e]
def Ob(a:Int)(b:Str):decide ((Sum.inl a:Key)=Sum.inr b)=false:=dF0 (λq=>nomatch q)
def Oc(a:Str)(b:Int):decide ((Sum.inr a:Key)=Sum.inl b)=false:=dF0 (λq=>nomatch q)
def xH(prog:ō)(w:World):PySem.KeyKind prog w Key where
 is:=lR
 hash:=Wf w
 inj:=λv a b ha hb=>by
  rcases yB ha with⟨i,t,rfl,rfl⟩|⟨x,t,rfl,rfl⟩
  .rcases yB hb with⟨j,u,rfl,e⟩|⟨y,u,rfl,e⟩
   .injection e with e1 _;rw[e1]
   .exact nomatch e
  .rcases yB hb with⟨j,u,rfl,e⟩|⟨y,u,rfl,e⟩
   .exact nomatch e
   .injection e with e1 _;rw[e1]
 byValue:=λk v h=>by rcases yB h with⟨i,t,rfl,rfl⟩|⟨x,t,rfl,rfl⟩<;>rfl
 pyHash:=λhv h=>by
  rcases yB hv with⟨i,t,rfl,rfl⟩|⟨x,t,rfl,rfl⟩
  .exact wpAny_pyHash_int h
  .exact wpAny_pyHash_str h
 eqBool:=λhu hv h=>by
  rcases yB hu with⟨i,t,rfl,rfl⟩|⟨x,t,rfl,rfl⟩
  .rcases yB hv with⟨j,u,rfl,rfl⟩|⟨y,u,rfl,rfl⟩
   .rw[Nz]at h;exact wpAny_eqBool_int h
   .rw[Ob]at h;exact SeqAt.EqAt.int_str i t y u _ _ _ _ h
  .rcases yB hv with⟨j,u,rfl,rfl⟩|⟨y,u,rfl,rfl⟩
   .rw[Oc]at h;exact SeqAt.EqAt.str_int x t j u _ _ _ _ h
   .rw[Oa]at h;exact wpAny_eqBool_str h
 «strs»:=λk x t v h=>by
  rcases yB h with⟨i,u,rfl,e⟩|⟨y,u,rfl,e⟩
  .exact nomatch e
  .injection e with e1 _
   subst e1;cases v<;>rfl
def BB(prog:ō)(w:World)(i:Int)(t:Tok):(xH prog w).is (.inl i) (.int i t)=true:=WG i t
def pT(prog:ō)(w:World)(x:Str)(t:Tok):(xH prog w).is (.inr x) (.str x t)=true:=WH x t
inductive V where
 |non|bl (b:Bool)|int (i:Int)|str (x:Str)|byt (b:Array UInt8)|flt (b:UInt64)|ref (a:Addr)|ty (n:String)
 deriving DecidableEq
variable{v:V}
def RelV:V->ŋ->Prop
 |.non,u=>u=Value.none
 |.bl b,u=>u=Value.bool b
 |.int i,u=> ∃t,u=Value.int i t
 |.str x,u=> ∃t,u=Value.str x t
 |.byt b,u=> ∃t,u=Value.bytes b t
 |.flt b,u=> ∃t,u=Value.float b t
 |.ref a,u=>u=Value.ref a
 |.ty n,u=>u=Value.type n
abbrev Vals:List V->List Value->Prop:=Paired RelV
def Vals.length{xs:List V}(r:Vals xs us):xs.length=us.length:=Paired.length r
theorem Vals.get: ∀{xs:List V}{us:A0}{i:Nat}{x:V},Vals xs us->xs[i]? =some x-> ∃u,us[i]? =some u/\RelV x u
 |_,_,_,_,.nil,e=>by simp at e
 |_,_,0,_,.cons r _,e=>by simp at e;subst e;exact⟨_,rfl,r⟩
 |_,_,i+1,x,.cons _ t,e=>by obtain⟨u,h1,a⟩:=Vals.get t (by simpa using e);exact⟨u,by simpa using h1,a⟩
theorem Vals.set{x:V}{u:ŋ}(r:RelV x u): ∀{xs:List V}{us:A0}(i:Nat),Vals xs us->Vals (xs.set i x) (us.set i u)
 |_,_,_,.nil=>.nil
 |_,_,0,.cons _ t=>.cons r t
 |_,_,i+1,.cons q t=>.cons q (Vals.set r i t)
theorem Vals.append: ∀{xs ys:List V}{us ws:A0},Vals xs us->Vals ys ws->Vals (xs++ys) (us++ws)
 |_,_,_,_,.nil,s=>s
 |_,_,_,_,.cons r t,s=>.cons r (Vals.append t s)
theorem Vals.take: ∀{xs:List V}{us:A0}(n:Nat),Vals xs us->Vals (xs.take n) (us.take n)
 |_,_,0,_=>.nil
 |_,_,_+1,.nil=>.nil
 |_,_,n+1,.cons r t=>.cons r (Vals.take n t)
theorem Vals.drop: ∀{xs:List V}{us:A0}(n:Nat),Vals xs us->Vals (xs.drop n) (us.drop n)
 |_,_,0,r=>r
 |_,_,_+1,.nil=>.nil
 |_,_,n+1,.cons _ t=>Vals.drop n t
theorem Vals.none_of: ∀{xs:List V}{us:A0}{i:Nat},Vals xs us->xs[i]? =none->us[i]? =none:=λ{xs us i} r e=>by have h1:=r.length;have a:=ĸ.mp e;exact ĸ.mpr #[0]
def Wg:Option V->Option ŋ->Prop
 |some v,some u=>RelV v u
 |none,none=>True
 |_,_=>False
def KV{a:Type}:List (a×V)->List (a×ŋ)->Prop:=Paired λ(p:a×V) (q:a×ŋ)=>p.1=q.1/\RelV p.2 q.2
noncomputable def kV:Key->V
 |.inl i=>.int i
 |.inr x=>.str x
inductive HO where
 |lst (xs:List V)
 |tup (xs:List V)
 |dK (kvs:List (Key×V))|dT (kvs:List (List Key×V))
 |set (S:Int->Bool) (n:Nat)
 |ins (C dx:Addr) (fs:List (Str×V))
 |own (x:Addr)
 |xd (fs:List (Str×V))
 |met (f x:Addr)
 |rng (lo hi:Int)
 |frz (o:Obj) (u:HO)
 |tbl (ps:A7)
 |ext (φ:Heap->Prop)
variable{o:HO}
abbrev Hp:=Addr->Option HO
variable{H:Hp}
noncomputable def xU(H:Hp)(a:Addr)(o:HO):Hp:=λb=>if b=a then some o else H b
def zT{a:Addr}:xU H a o a=some o:=by unfold xU;rw[iP rfl]
def zH{a b:Addr}(h:b≠a):xU H a o b=H b:=by unfold xU;rw[iN h]
def zP{a b:Addr}(h:H a=some o)(h':H b=none):a≠b:=by intro e;subst e;rw[h]at h';cases h'
section
variable(P:ō)(w:World)
def ObjOk(H:Hp)(h:Heap)(a:Addr):HO->Prop
 |.lst xs=>xs.length<=sizeLine/\ ∃(its:A0)(n:Nat),Vals xs its/\h.get? a=some {cls:=.type "list",data:=.seq its.toArray n}
 |.tup xs=>xs.length<=sizeLine/\ ∃its:List ŋ,Vals xs its/\IsTup h a its.toArray
 |.dK kvs=>kvs.length<=sizeLine/\(a==sysModules)=false/\ ∃vs,KV kvs vs/\h.DictOf (xH P w) a vs
 |.dT kvs=>kvs.length<=sizeLine/\(a==sysModules)=false/\ ∃xs:List (List Key×Addr×ŋ),
   Paired (λ(p:List Key×V) (q:List Key×Addr×ŋ)=>p.1=q.1/\H q.2.1=some (.tup (p.1.map kV))/\RelV p.2 q.2.2) kvs xs/\
   ∃o es ep,h.get? a=some o/\o.ExactDict/\o.data=.dict es ep/\es.toList=xs.map (entryOfKey (tupleKind (xH P w)))/\(xs.map (·.1)).Nodup
 |.set S n=>h.SetOf (intKind P w) a S n
 |.ins C dx fs=>H dx=some (.own a)/\fs.length<=1000/\dx≠a/\h.get? a=some (PySem.W.instObj C dx)/\
   ∃b,h.Ns1 dx b/\(∀f,Wg (fs.lookup f) (b f))/\PySem.Within b (fs.map (·.1))
 |.own _=> ∃o,h.get? a=some o
 |.xd fs=> ∃b,h.Ns1 a b/\ ∀f,Wg (fs.lookup f) (b f)
 |.rng lo hi=> ∃t u v,h.get? a=some {cls:=.type "range",data:=.fields #[.int lo t,.int hi u,.int 1 v]}
 |.frz o u=>h.get? a=some o/\ObjOk H h a u
 |.tbl ps=>h.get? a=some {cls:=.none,data:=.fields ps}
 |.met f x=>h.get? a=some (PySem.W.methodObj (.ref f) (.ref x))
 |.ext φ=>φ h/\(∃o,h.get? a=some o)/\ ∀h1 c:Heap,φ h1->(∀o,h1.get? a=some o->c.get? a=some o)->φ c
def HOk(H:Hp)(h:Heap):Prop:= ∀a o,H a=some o->ObjOk P w H h a o
end
section
variable{P:ō}{w:World}{H H':Hp}{h h':Heap}{a:Addr}{o:HO}
def ObjOk.lt(x:ObjOk P w H h a o):a<h.objs.size:=by
 cases o with
 |lst xs=>obtain⟨_,_,_,_,e⟩:=x;exact â e
 |tup xs=>obtain⟨_,_,_,p⟩:=x;exact p.lt
 |dK kvs=>obtain⟨_,_,_,_,o,_,_,e,_⟩:=x;exact â e
 |dT kvs=>obtain⟨_,_,_,_,o,_,_,e,_⟩:=x;exact â e
 |set S n=>obtain⟨o,_,_,_,e,_⟩:=x;exact â e
 |ins C dx fs=>obtain⟨_,_,_,e,_⟩:=x;exact â e
 |own y=>obtain⟨_,e⟩:=x;exact â e
 |xd fs=>obtain⟨_,⟨_,_,_,e,_⟩,_⟩:=x;exact â e
 |rng lo hi=>obtain⟨_,_,_,e⟩:=x;exact â e
 |frz ob u=>obtain⟨e,_⟩:=x;exact â e
 |tbl ps=>exact â x
 |met f y=>exact â x
 |ext φ=>obtain⟨_,⟨_,e⟩,_⟩:=x;exact â e
theorem Paired.mapP{α β:Type}{F G:α->β->Prop}: ∀{c:List α}{l₂:List β},Paired F c l₂->(∀a b,F a b->G a b)->Paired G c l₂
 |_,_,.nil,_=>.nil
 |_,_,.cons r t,f=>.cons (f _ _ r) (Paired.mapP t f)
def ObjOk.stay(x:ObjOk P w H h a o)(k: ∀b u,(b=a\/H b=some (.own a))->h.get? b=some u->h'.get? b=some u)
  (ho: ∀b,H b=some (.own a)->H' b=some (.own a)) (ht: ∀b xs,H b=some (.tup xs)->H' b=some (.tup xs)):ObjOk P w H' h' a o:=by
 induction o with
 |lst xs=>obtain⟨z,its,n,r,e⟩:=x;exact⟨z,its,n,r,k _ _ (.inl rfl) e⟩
 |tup xs=>obtain⟨z,its,r,i,e,c⟩:=x;exact⟨z,its,r,i,k _ _ (.inl rfl) e,c⟩
 |dK kvs=>obtain⟨z,y,vs,r,i,es,ep,e,c⟩:=x;exact⟨z,y,vs,r,i,es,ep,k _ _ (.inl rfl) e,c⟩
 |dT kvs=>
  obtain⟨z,y,xs,r,i,es,ep,e,c⟩:=x;exact⟨z,y,xs,Paired.mapP r λp q z=>⟨z.1,ht _ _ z.2.1,z.2.2⟩,i,es,ep,k _ _ (.inl rfl) e,c⟩
 |set S n=>obtain⟨i,es,ep,t,e,c⟩:=x;exact⟨i,es,ep,t,k _ _ (.inl rfl) e,c⟩
 |ins C dx fs=>
  obtain⟨d,z,ne,e,j,⟨od,es,ep,m,c⟩,r⟩:=x;exact⟨ho _ d,z,ne,k _ _ (.inl rfl) e,j,⟨od,es,ep,k _ _ (.inr d) m,c⟩,r⟩
 |own y=>obtain⟨i,e⟩:=x;exact⟨i,k _ _ (.inl rfl) e⟩
 |xd fs=>obtain⟨j,⟨od,es,ep,e,c⟩,r⟩:=x;exact⟨j,⟨od,es,ep,k _ _ (.inl rfl) e,c⟩,r⟩
 |rng lo hi=>obtain⟨t,u,v,e⟩:=x;exact⟨t,u,v,k _ _ (.inl rfl) e⟩
 |frz i u ih=>obtain⟨e,q⟩:=x;exact⟨k _ _ (.inl rfl) e,ih q⟩
 |tbl ps=>
  have e:=x;exact k a _ (.inl rfl) e
 |met f y=>
  have e:h.get? a=some _:=x;show h'.get? a=some _;exact k a _ (.inl rfl) e
 |ext φ=>obtain⟨p,⟨o,e⟩,st⟩:=x;exact⟨st _ _ p λo q=>k _ _ (.inl rfl) q,⟨o,k _ _ (.inl rfl) e⟩,st⟩
def HOk.lt(x:HOk P w H h)(e:H a=some o):a<h.objs.size:=(x a o e).lt
def HOk.fresh(x:HOk P w H h)(e:h.objs.size<=a):H a=none:=by
 cases q:H a with
 |none=>rfl
 |some u=>exact absurd (ç (x.lt q) e) (ı _)
def HOk.kept(x:HOk P w H h)(k: ∀b u,h.get? b=some u->h'.get? b=some u):HOk P w H h':=λa o e=>
 (x a o e).stay (λb u _ q=>k b u q) (λ_ q=>q) λ_ _ q=>q
def HOk.laid(x:HOk P w H h)(k: ∀b u,h.get? b=some u->h'.get? b=some u)(j:h.objs.size<=a)(new:ObjOk P w (xU H a o) h' a o):HOk P w (xU H a o) h':=λb u e=>by
 have i:=x.fresh j;by_cases d:b=a
 .subst d;rw[zT]at e;cases e;exact new
 .rw[zH d]at e;exact(x b u e).stay (λc v _ q=>k c v q) (λc q=>by rw[zH (zP q i)];exact q) λc xs q=>by rw[zH (zP q i)];exact q
end
def Rd(H:Hp)(a:Addr)(u:HO):Prop:=H a=some u\/ ∃o,H a=some (.frz o u)
def Rd.ok{P:ō}{w:World}{h:Heap}{a:Addr}{u:HO}(r:Rd H a u)(x:HOk P w H h):ObjOk P w H h a u:=by
 rcases r with r|⟨o,r⟩
 .exact x a u r
 .obtain⟨_,q⟩:=x a _ r;exact q
def Od:Option HO->Prop
 |some (.lst _)=>True
 |some (.dK _)=>True
 |some (.dT _)=>True
 |some (.set _ _)=>True
 |some (.ins _ _ _)=>True
 |some (.ext _)=>True
 |_=>False
section
variable{P:ō}{w:World}{H:Hp}{h h':Heap}{x e:Addr}{o':HO}
theorem HOk.write(ok:HOk P w H h)(j:Od (H x))(s:e=x\/H e=some (.own x))(k: ∀b u,b≠e->h.get? b=some u->h'.get? b=some u)(o: ∃u,h'.get? e=some u)
  (new:ObjOk P w (xU H x o') h' x o'):HOk P w (xU H x o') h':=λb u q=>by
 have d: ∀c y,H c=some (.own y)->c≠x:=λc y r z=>by subst z;rw[r]at j;exact j
 have i: ∀c xs,H c=some (.tup xs)->c≠x:=λc xs r z=>by subst z;rw[r]at j;exact j
 by_cases n:b=x
 .subst n;rw[zT]at q;cases q;exact new
 .rw[zH n]at q;by_cases a:b=e
  .have p:H b=some (.own x):=by
    rcases s with z|z
    .exact absurd (a.trans z) n
    .rw[a];exact z
   rw[q]at p;cases p;obtain⟨v,A⟩:=o;exact⟨v,by rw[a];exact A⟩
  .refine(ok b u q).stay (λc v m r=>k c v ?_ r) (λc r=>by rw[zH (d c b r)];exact r) λc xs r=>by rw[zH (i c xs r)];exact r
   rcases m with rfl|m
   .exact a
   .rintro rfl;rcases s with z|z
    .exact d c b m z
    .rw[m]at z;cases z;exact n rfl
end
structure Un(fs ex:A9)(H H':Hp)(h h':Heap):Prop where
 keep: ∀b o,h.get? b=some o->H b=none->b∉fs->b∉ex->h'.get? b=some o
 slot: ∀b o,h.get? b=some o->H b=none->b∈fs->b∉ex-> ∃sl,h'.get? b=some {o with slots:=sl}
 free: ∀b o,h.get? b=some o->H b=none->b∉ex->H' b=none
 there: ∀b o,h.get? b=some o->b∉ex-> ∃o',h'.get? b=some o'
 tups: ∀b xs,H b=some (.tup xs)->H' b=some (.tup xs)
 frzs: ∀b o u,H b=some (.frz o u)->H' b=some (.frz o u)
 tbls: ∀b ps,H b=some (.tbl ps)-> ∃more,H' b=some (.tbl (ps++more))
section
variable{fs ex:A9}{H H1:Hp}{h h1 h':Heap}{a x e:Addr}{o:HO}
def Un.any(u:Un fs ex H H1 h h1){b:Addr}{ob:Obj}(q:h.get? b=some ob)(n:H b=none)(a:b∉ex): ∃sl,h1.get? b=some {ob with slots:=sl}:=by
 by_cases c:b∈fs
 .exact u.slot b ob q n c a
 .exact⟨_,u.keep b ob q n c a⟩
def Un.kept(k: ∀b u,h.get? b=some u->h'.get? b=some u):Un fs ex H H h h':=
 ⟨λb a q _ _ _=>k b a q,λb a q _ _ _=>⟨_,k b a q⟩,λ_ _ _ n _=>n,λb a q _=>⟨a,k b a q⟩,λ_ _ q=>q,λ_ _ _ q=>q,λ_ ps q=>⟨#[],by rw[q];simp⟩⟩
def Un.refl:Un fs ex H H h h:=Un.kept λ_ _ q=>q
def Un.laid(k: ∀b u,h.get? b=some u->h'.get? b=some u)(hp:h.objs.size<=a)(hn:H a=none):Un fs ex H (xU H a o) h h' where
 keep:=λb u q _ _ _=>k b u q
 slot:=λb u q _ _ _=>⟨_,k b u q⟩
 free:=λb u q n _=>by rw[zH (ë (ç (â q) hp))];exact n
 there:=λb u q _=>⟨u,k b u q⟩
 tups:=λb xs q=>by rw[zH (zP q hn)];exact q
 frzs:=λb u xs q=>by rw[zH (zP q hn)];exact q
 tbls:=λb ps q=>⟨#[],by rw[zH (zP q hn),q];simp⟩
def Un.write(c:Od (H x))(s:e=x\/H e=some (.own x))(k: ∀b u,b≠e->h.get? b=some u->h'.get? b=some u)(d: ∃u,h'.get? e=some u):Un fs ex H (xU H x o) h h':=by
 have j: ∀b,H b=none->b≠x:=λb n z=>by subst z;rw[n]at c;exact c
 have m: ∀b,H b=none->b≠e:=λb n z=>by
  subst z;rcases s with r|r
  .exact j b n r
  .rw[n]at r;cases r
 have i: ∀b u,H b=some u-> ¬Od (some u)->b≠x:=λb u q p z=>by subst z;rw[q]at c;exact p c
 refine⟨λb u q n _ _=>k b u (m b n) q,λb u q n _ _=>⟨_,k b u (m b n) q⟩,λb u q n _=>by rw[zH (j b n)];exact n,λb u q _=>?_,
  λb xs q=>by rw[zH (i b _ q λz=>z)];exact q,λb u xs q=>by rw[zH (i b _ q λz=>z)];exact q,λb ps q=>⟨#[],by rw[zH (i b _ q λz=>z),q];simp⟩⟩
 by_cases a:b=e
 .subst a;exact d
 .exact⟨u,k b u a q⟩
end
noncomputable def trk(h:Heap)(H:Hp):List Addr:=(List.range h.objs.size).filter λa=>(H a).isSome
def WI(h:Heap)(H:Hp):Heap:=PySem.W.hideAll h (trk h H)
def WJ(h:Heap)(H:Hp):(WI h H).objs.size=h.objs.size:=PySem.W.hideAll_size _ _
def ZO{h:Heap}{b:Addr}{o:Obj}(e:h.get? b=some o)(n:H b=none):(WI h H).get? b=some o:=
 PySem.W.hideAll_get _ e λa=>by have q:=(Ě.mp a).2;rw[n]at q;simp at q
def Fp{h:Heap}{b:Addr}{o:Obj}(e:(WI h H).get? b=some o):h.get? b=some o/\H b=none:=by
 have a:=PySem.W.of_hideAll _ e;refine⟨a,?_⟩
 cases q:H b with
 |none=>rfl
 |some x=>
  have c:b∈trk h H:=Ě.mpr ⟨mem_range.mpr (â a),by simp[q]⟩;have z:(WI h H).get? b=none:=PySem.W.hideAll_none _ c;rw[z]at e;cases e
noncomputable def Fq(g h:Heap)(L:Addr):List (Addr×Obj):=(List.range h.objs.size).filterMap λa=>if a=L\/(g.get? a).isSome=true then none else(h.get? a).map λo=>(a,o)
def rest(g h:Heap)(L d:Addr):List (Addr×Obj):=(Fq g h L).filter λp=>decide (p.1≠d)
structure Mod(K:B9)(mg:B3)(base:Heap):Prop where
 kin:K.In base
 glob:base.Ns mainGlobals mg
 blt: ∃mb,base.Ns builtinsNs mb/\ ∀x:Str,x≠"__name__"->mb x=bootBuiltins x
 nolimit:base.NoLimit
structure Cx where
 prog:ō
 w:World
 K:PySem.W.Frag
 mg:Str->Option ŋ
 base:Heap
 A:Ō
 N:List Str
 s₀:Ŋ
 H₀:Hp
 env:Env
 outer:List Env
 stack:List Env
 ex:List Addr
 fn:Str->Bool
 calm:Bool
 pn:List (Addr×Obj)
 xe:VP
variable{X:Cx}
noncomputable def WK(l:List Env):List Addr:=l.filterMap (·.frame)
abbrev Cx.fs(X:Cx):List Addr:=WK X.outer
def Wh(sc:Scope)(x:Str):Prop:=sc.names.lookup x=some .local\/sc.names.lookup x=some .cell\/sc.names.lookup x=some .free
def Loc(sc:Scope)(x:Str):Prop:=sc.names.lookup x=some .local\/sc.names.lookup x=some .cell
def Look(a:Env)(h:Heap)(m:B3)(x:Str)(u:ŋ):Prop:=
 (a.kindOf x=some .local/\m x=some u)\/((a.kindOf x=some .cell\/a.kindOf x=some .free)/\ ∃c,a.cells.lookup x=some c/\h.IsCell c (some u))
structure Cx.Ok(X:Cx):Prop where
 mod:Mod X.K X.mg X.base
 kind:X.env.scope.kind=.function
 glob:X.env.globals=mainGlobals
 blt:X.env.builtins=builtinsNs
 above:X.s₀.heap.objs.size<=X.env.locals
 inj: ∀x y c,X.env.cells.lookup x=some c->X.env.cells.lookup y=some c->x=y
 has: ∀x,(X.env.kindOf x=some .cell\/X.env.kindOf x=some .free)-> ∃c,X.env.cells.lookup x=some c
 cab: ∀x c,X.fn x=true->X.env.cells.lookup x=some c->X.s₀.heap.objs.size<=c
 hd:X.calm=true->X.A.handled=none
 frames:X.A.frames=some X.stack
 stk:X.stack=X.outer\/(X.stack=X.env::X.outer/\X.env.frame=some X.env.locals)
 exf: ∀b∈X.ex,b≠X.env.locals/\ ∀x c,X.env.cells.lookup x=some c->c≠b
 bs: ∀b o,X.base.get? b=some o->X.s₀.heap.get? b=some o/\X.H₀ b=none
 bsz:X.base.objs.size<=X.s₀.heap.objs.size
 noex: ∀b o,X.base.get? b=some o->b∉X.ex
 exfs: ∀b∈X.ex,b∉X.fs
 funs:X.s₀.heap.FunFrames X.base X.outer
 frf: ∀b∈X.fs,X.H₀ b=none
structure Inv(X:Cx)(pins:B5)(σ:List (Option V))(H:Hp)(s:Ŋ):Prop where
 ok:X.Ok
 os:s.os=X.s₀.os
 bare:AllBare s.gens
 base:Un X.fs X.ex X.H₀ H X.s₀.heap s.heap
 loc: ∃m,s.heap.Ns X.env.locals m/\ ∀(i:Nat)(x:Str)(v:V),X.N[i]? =some x->σ[i]? =some (some v)->Wh X.env.scope x-> ∃u,RelV v u/\Look X.env s.heap m x u
 cell: ∀x c,X.env.cells.lookup x=some c-> ∃v,s.heap.IsCell c v
 free:H X.env.locals=none
 freeC: ∀x c,X.env.cells.lookup x=some c->H c=none
 pin: ∀p∈X.pn++pins,s.heap.get? p.1=some p.2/\H p.1=none/\p.1≠X.env.locals/\p.1∉X.fs/\ ∀v,p.2.data≠.cell v
 hok:HOk X.prog X.w H s.heap
 len:σ.length=X.N.length
section
variable{X:Cx}{pins:B5}{σ:List (Option V)}{H H':Hp}{s:Ŋ}{h':Heap}
def Cx.Ok.nofr(ok:X.Ok){b:Addr}{o:Obj}(e:X.base.get? b=some o):b∉X.fs:=λa=>by have:=(ok.funs.mem a).1;rw[e]at this;cases this
def Inv.bs(I:↑2): ∀b o,X.base.get? b=some o->s.heap.get? b=some o/\H b=none:=λb o e=>
 ⟨I.base.keep b o (I.ok.bs b o e).1 (I.ok.bs b o e).2 (I.ok.nofr e) (I.ok.noex b o e),I.base.free b o (I.ok.bs b o e).1 (I.ok.bs b o e).2 (I.ok.noex b o e)⟩
def Inv.bk(I:↑2): ∀b o,X.base.get? b=some o->s.heap.get? b=some o:=λb o e=>(I.bs b o e).1
def Inv.mod(I:↑2):Mod X.K X.mg X.base:=I.ok.mod
def Inv.kIn(I:↑2):X.K.In s.heap:=I.ok.mod.kin.keeps I.bk
def Inv.lt(I:↑2):X.env.locals<s.heap.objs.size:=let ⟨_,a,_⟩:=I.loc;a.lt
def Inv.sz(I:↑2):X.s₀.heap.objs.size<=s.heap.objs.size:=õ I.ok.above (le_of_lt I.lt)
def Inv.nofs(I:↑2){a:Addr}(h:↑0<=a):a∉X.fs:=λb=>by obtain⟨_,o,c,_⟩:=I.ok.funs.mem b;exact absurd (ç (â c) (õ I.sz h)) (ı _)
def Inv.cne(I:↑2): ∀x c,X.env.cells.lookup x=some c->c≠X.env.locals:=λx c e z=>by obtain⟨v,o,d,hd⟩:=I.cell x c e;obtain⟨m,⟨o',es,ep,a,b,_⟩,_⟩:=I.loc;rw[z,a]at d;cases d;rw[b]at hd;cases hd
def Inv.funs(I:↑2):s.heap.FunFrames X.base X.outer:=by
 have all: ∀(l:List Env),(∀b∈WK l,b∈X.fs)->X.s₀.heap.FunFrames X.base l->s.heap.FunFrames X.base l:=by
  intro l
  induction l with
  |nil=>intro _ _;trivial
  |cons env r ih=>
   intro hs j;obtain⟨i,⟨L,o,a,m,k,hd⟩,h⟩:=j;have c:=hs L (by unfold WK;rw[Ĭ,a];exact mF0);obtain⟨sl,e⟩:=I.base.slot L o k (I.ok.frf L c) c λz=>I.ok.exfs L z c;exact⟨i,⟨L,_,a,m,e,hd⟩,ih (λb d=>hs b (by unfold WK;rw[Ĭ,a];exact mO _ d)) h⟩
 exact all X.outer (λ_ d=>d) I.ok.funs
def Inv.stack(I:↑2):s.heap.FunFrames X.base X.stack:=by
 rcases I.ok.stk with e|⟨e,hf⟩
 .rw[e];exact I.funs
 .rw[e];obtain⟨m,a,_⟩:=I.loc;refine .cons (by rw[I.ok.kind];decide) hf a ?_ I.funs;exact Heap.get?_none_of_le (õ I.ok.bsz I.ok.above)
def Inv.stkSub(I:↑2): ∀b∈WK X.stack,b∈X.env.locals::X.fs:=λb a=>by
 rcases I.ok.stk with e|⟨e,hf⟩
 .rw[e]at a;exact mO _ a
 .rw[e]at a;unfold WK at a;rw[Ĭ,hf]at a;exact a
def Inv.stkFree(I:↑2): ∀b∈WK X.stack,H b=none:=λb a=>by
 rcases mC.mp (I.stkSub b a)with e|a
 .rw[e];exact I.free
 .obtain⟨_,o,c,_⟩:=I.ok.funs.mem a;exact I.base.free b o c (I.ok.frf b a) λz=>I.ok.exfs b z a
def Inv.step{L:Array GenState}{M:Drawn}{ch:A9}(I:↑2)
  (hch: ∀b∈ch,(b∈X.ex\/X.s₀.heap.objs.size<=b)/\b≠X.env.locals/\(∀x c,X.env.cells.lookup x=some c->c≠b)/\ ∀p∈X.pn++pins,p.1≠b)
  (keep: ∀b o,b≠X.env.locals->b∉X.fs->b∉ch->s.heap.get? b=some o->H b=none->h'.get? b=some o)
  (slot: ∀b o,b≠X.env.locals->b∈X.fs->b∉ch->s.heap.get? b=some o->H b=none-> ∃sl,h'.get? b=some {o with slots:=sl}) (free: ∀b o,b∉ch->s.heap.get? b=some o->H b=none->H' b=none)
  (there: ∀b o,b∉ch->s.heap.get? b=some o-> ∃o',h'.get? b=some o')
  (tups: ∀b xs,H b=some (.tup xs)->H' b=some (.tup xs)) (frzs: ∀b o u,H b=some (.frz o u)->H' b=some (.frz o u)) (tbls: ∀b ps,H b=some (.tbl ps)-> ∃E,H' b=some (.tbl (ps++E)))
  (ns: ∀m,s.heap.Ns X.env.locals m->h'.Ns X.env.locals m) (hok:HOk X.prog X.w H' h') (hg:AllBare L):
  Inv X pins σ H' {s with heap:=h',gens:=L,drawn:=M,toks:=t'}:=by
 have F: ∀b o,X.s₀.heap.get? b=some o->b≠X.env.locals:=λb o e=>ë (ç (â e) I.ok.above)
 have A: ∀b o,X.s₀.heap.get? b=some o->b∉X.ex->b∉ch:=λb o e a B=>by
  rcases (hch b B).1 with z|z
  .exact a z
  .exact absurd (ç (â e) z) (ı _)
 have h: ∀x c,X.env.cells.lookup x=some c-> ∀v,s.heap.IsCell c v->h'.IsCell c v:=λx c e v ⟨o,C,hd⟩=>by
  have j:=λz=>(hch c z).2.2.1 x c e rfl;by_cases K:c∈X.fs
  .obtain⟨sl,q⟩:=slot c o (I.cne x c e) K j C (I.freeC x c e);exact⟨_,q,hd⟩
  .exact⟨o,keep c o (I.cne x c e) K j C (I.freeC x c e),hd⟩
 refine⟨I.ok,I.os,hg,⟨λb o e n B a=>?_,λb o e n B a=>?_,λb o e n a=>?_,λb o e a=>?_,λb xs e=>tups b xs (I.base.tups b xs e),λb o xs e=>frzs b o xs (I.base.frzs b o xs e),λb ps e=>?_⟩,?_,λx c e=>?_,?_,λx c e=>?_,λp J=>?_,hok,I.len⟩
 .exact keep b o (F b o e) B (A b o e a) (I.base.keep b o e n B a) (I.base.free b o e n a)
 .obtain⟨sl,y⟩:=I.base.slot b o e n B a;obtain⟨G,D⟩:=slot b _ (F b o e) B (A b o e a) y (I.base.free b o e n a);exact⟨G,D⟩
 .obtain⟨o',y⟩:=I.base.there b o e a;exact free b o' (A b o e a) y (I.base.free b o e n a)
 .obtain⟨o',y⟩:=I.base.there b o e a;exact there b o' (A b o e a) y
 .obtain⟨S,y⟩:=I.base.tbls b ps e;obtain⟨Q,D⟩:=tbls b _ y;exact⟨_,by rw[D,Array.append_assoc]⟩
 .obtain⟨m,P,O⟩:=I.loc;refine⟨m,ns m P,λi x v y D N=>?_⟩;obtain⟨u,r,l⟩:=O i x v y D N;refine⟨u,r,?_⟩;rcases l with l|⟨k,c,e,z⟩
  .exact .inl l
  .exact .inr ⟨k,c,e,h x c e _ z⟩
 .obtain⟨v,z⟩:=I.cell x c e;exact⟨v,h x c e v z⟩
 .obtain⟨m,⟨o,_,_,C,_⟩,_⟩:=I.loc;exact free _ o (λz=>(hch _ z).2.1 rfl) C I.free
 .obtain⟨v,o,C,hd⟩:=I.cell x c e;exact free c o (λz=>(hch c z).2.2.1 x c e rfl) C (I.freeC x c e)
 .obtain⟨e,n,ne,nf,d⟩:=I.pin p J;have j:=λz=>(hch p.1 z).2.2.2 p J rfl;exact⟨keep p.1 p.2 ne nf j e n,free p.1 p.2 j e n,ne,nf,d⟩
def Inv.un(I:Inv X pins σ H s)(u:Un X.fs [] H H' s.heap h')(h:HOk X.prog X.w H' h'):Inv X pins σ H' {s with heap:=h',toks:=t'}:=by obtain⟨m,⟨o,es,ep,j,r⟩,_⟩:=id I.loc;obtain⟨sl,k⟩:=u.any j I.free (by simp);exact I.step (ch:=[]) (λ_ z=>nomatch z) (λb o _ i _ e n=>u.keep b o e n i (by simp)) (λb o _ i _ e n=>u.slot b o e n i (by simp)) (λb o _ e n=>u.free b o e n (by simp)) (λb o _ e=>u.there b o e (by simp)) u.tups u.frzs u.tbls (λv q=>by obtain⟨o',d,c,a,p⟩:=q;rw[j]at a;cases a;exact⟨_,d,c,k,p⟩) h I.bare
def Inv.call{q:Array GenState}{B:Drawn}{ch:A9}(I:↑2)(u:Un (WK X.stack) ch H H' s.heap h')(k:HOk X.prog X.w H' h')(y:AllBare q)
  (hch: ∀b∈ch,(b∈X.ex\/X.s₀.heap.objs.size<=b)/\b≠X.env.locals/\(∀x c,X.env.cells.lookup x=some c->c≠b)/\ ∀p∈X.pn++pins,p.1≠b):
  Inv X pins σ H' {s with heap:=h',gens:=q,drawn:=B,toks:=t'}:=by
 obtain⟨m,⟨o,es,ep,v,r⟩,_⟩:=id I.loc;obtain⟨sl,h⟩:=u.any v I.free λz=>(hch _ z).2.1 rfl;exact I.step hch (λb o h D a e n=>u.keep b o e n (λz=>(mC.mp (I.stkSub b z)).elim h D) a) (λb o _ _ a e n=>u.any e n a) (λb o a e n=>u.free b o e n a) (λb o a e=>u.there b o e a) u.tups u.frzs u.tbls (λE C=>by obtain⟨o',j,i,d,A⟩:=C;rw[v]at d;cases d;exact⟨_,j,i,h,A⟩) k y
def Inv.turned{it:Addr}(I:↑2)(k: ∀b o,b≠it->s.heap.get? b=some o->h'.get? b=some o)(i:H it=none)(h:it≠X.env.locals)
  (h1:it∈X.ex\/X.s₀.heap.objs.size<=it) (h2: ∀x c,X.env.cells.lookup x=some c->c≠it) (h3: ∀p∈X.pn++pins,p.1≠it):Inv X pins σ H {s with heap:=h',toks:=t'}:=by
 have d: ∀b u,H b=some u->b≠it:=λb u e z=>by rw[z,i]at e;cases e
 refine I.step (ch:=[it]) (λb w=>?_) (λb o _ _ a e _=>k b o (λz=>a (by simp[z])) e) (λb o _ _ a e _=>⟨_,k b o (λz=>a (by simp[z])) e⟩) (λ_ _ _ _ n=>n)
  (λb o a e=>⟨o,k b o (λz=>a (by simp[z])) e⟩) (λ_ _ e=>e) (λ_ _ _ e=>e) (λb ps e=>⟨#[],by rw[e];simp⟩) (λm j=>?_) (λb u e=>?_) I.bare
 .have e:=by simpa using w
  subst e;exact⟨h1,h,h2,h3⟩
 .obtain⟨o,es,ep,y,r⟩:=j;exact⟨o,es,ep,k _ o (Ne.symm h) y,r⟩
 .refine(I.hok b u e).stay (λc v a q=>k c v ?_ q) (λ_ q=>q) λ_ _ q=>q;rcases a with z|z
  .rw[z];exact d b u e
  .exact d c _ z
def Inv.tok(I:↑2)(t:Nat):Inv X pins σ H {s with toks:=t}:=I.un Un.refl I.hok
def Inv.kept(I:↑2)(k: ∀b u,s.heap.get? b=some u->h'.get? b=some u):Inv X pins σ H {s with heap:=h',toks:=t'}:=I.un (Un.kept k) (I.hok.kept k)
def Inv.laid{a:Addr}(I:↑2)(k: ∀b u,s.heap.get? b=some u->h'.get? b=some u)(c:↑0<=a)(new:ObjOk X.prog X.w (xU H a o) h' a o):
  Inv X pins σ (xU H a o) {s with heap:=h',toks:=t'}:=I.un (Un.laid k c (I.hok.fresh c)) (I.hok.laid k c new)
def Inv.write{x e:Addr}(I:↑2)(c:Od (H x))(d:e=x\/H e=some (.own x))(k: ∀b u,b≠e->s.heap.get? b=some u->h'.get? b=some u)(a: ∃u,h'.get? e=some u)
  (new:ObjOk X.prog X.w (xU H x o) h' x o):Inv X pins σ (xU H x o) {s with heap:=h',toks:=t'}:=I.un (Un.write c d k a) (I.hok.write c d k a new)
def Inv.pins_of{a:B5}(I:↑2)(h: ∀p∈a,s.heap.get? p.1=some p.2/\H p.1=none/\p.1≠X.env.locals/\p.1∉X.fs/\ ∀v,p.2.data≠.cell v):Inv X a σ H s:=
 ⟨I.ok,I.os,I.bare,I.base,I.loc,I.cell,I.free,I.freeC,λp b=>(é.mp b).elim (λz=>I.pin p (ă _ z)) (h p),I.hok,I.len⟩
def MW{N:B0}(e:N.Nodup){i j:Nat}{x:Str}(a:N[i]? =some x)(b:N[j]? =some x):i=j:=by obtain⟨h1,d⟩:=gS.mp a;obtain⟨h,c⟩:=gS.mp b;exact(getElem_inj e).mp (d.trans c.symm)
abbrev Q1(X:Cx)(x:Str):Prop:=X.fn x=true\/X.env.scope.names.lookup x=some .local
def GY{M:Model}{A:Ō}{i:Nat}{x:Str}{u:ŋ}{Q:Unit->Ŋ->Prop}(I:↑2)(hN:X.N.Nodup)(hi:X.N[i]? =some x)(F:Loc X.env.scope x)(r:RelV v u)
  (h: ∀s',Inv X pins (σ.set i (some v)) H s'->(∃a,Heap.SameBut a s.heap s'.heap/\(a=X.env.locals\/X.env.cells.lookup x=some a))->Q () s') (hf:Q1 X x:=by first |exact .inl rfl|exact .inr rfl|assumption):wpAny M A (storeName X.env x u) Q E s:=by
 obtain⟨m,hn,hl⟩:=id I.loc;have S:(X.env.scope.kind==.class || (X.env.scope.kind==.module&&X.env.locals !=X.env.globals))=false:=by rw[I.ok.kind];rfl
 have K:i<σ.length:=by rw[I.len];exact(gS.mp hi).1
 have cne:=I.cne
 have C: ∀{a:Addr}{h':Heap},(∃o,s.heap.get? a=some o/\H a=none)->Heap.SameBut a s.heap h'->HOk X.prog X.w H h':=λ{a h'} ha hs b ob e=>by
  obtain⟨_,_,G⟩:=ha;refine(I.hok b ob e).stay (λc Z D q=>(hs.2 c ?_).trans q) (λ_ q=>q) λ_ _ q=>q;rintro rfl;rcases D with rfl|D
  .rw[G]at e;cases e
  .rw[G]at D;cases D
 rcases F with hk|hk
 .refine wpAny_storeName_local hk hn (λh' ab hs=>?_) S;obtain⟨oL,_,_,aa,_⟩:=id hn;refine h _ ⟨I.ok,I.os,I.bare,⟨λb o e n O F=>?_,λb o e n O F=>?_,I.base.free,λb o e F=>?_,I.base.tups,I.base.frzs,I.base.tbls⟩,⟨_,ab,λj y v' B J e3=>?_⟩,λy c e=>?_,I.free,I.freeC,λp hp=>?_,C ⟨oL,aa,I.free⟩ hs,by simpa using I.len⟩ ⟨_,hs,.inl rfl⟩
  .exact(hs.2 b (ë (ç (â e) I.ok.above))).trans (I.base.keep b o e n O F)
  .obtain⟨sl,B⟩:=I.base.slot b o e n O F;exact⟨sl,(hs.2 b (ë (ç (â e) I.ok.above))).trans B⟩
  .obtain⟨o',B⟩:=I.base.there b o e F;exact⟨o',(hs.2 b (ë (ç (â e) I.ok.above))).trans B⟩
  .by_cases L:j=i
   .subst L;rw[hi]at B;cases B;rw[ė K]at J;cases J;exact⟨u,r,.inl ⟨hk,by simp⟩⟩
   .rw[Ĥ (Ne.symm L)]at J;obtain⟨u',r',q⟩:=hl j y v' B J e3;refine⟨u',r',?_⟩;rcases q with⟨k,e⟩|⟨k,c,e,z⟩
    .refine .inl ⟨k,?_⟩;have:y≠x:=λe=>L (MW hN B (e▸hi));simp[this,e]
    .exact .inr ⟨k,c,e,z.sameBut hs (cne y c e)⟩
  .obtain⟨Z,z⟩:=I.cell y c e;exact⟨Z,z.sameBut hs (cne y c e)⟩
  .obtain⟨e,n,ne,nf,d⟩:=I.pin p hp;exact⟨(hs.2 p.1 ne).trans e,n,ne,nf,d⟩
 .have P:X.fn x=true:=by
   rcases hf with z|z
   .exact z
   .rw[z]at hk;cases hk
  obtain⟨c,D⟩:=I.ok.has x (.inl hk);obtain⟨Z,z⟩:=I.cell x c D;refine wpAny_storeName_cell I.ok.kind hk D z (λh' U hs=>?_);obtain⟨oc,T,Y⟩:=id z;refine h {s with heap:=h'} ⟨I.ok,I.os,I.bare,⟨λb o e n O F=>?_,λb o e n O F=>?_,I.base.free,λb o e F=>?_,I.base.tups,I.base.frzs,I.base.tbls⟩,⟨m,hn.sameBut hs (Ne.symm (cne x c D)),λj y v' B J e3=>?_⟩,λy c' e=>?_,I.free,I.freeC,λp hp=>?_,C ⟨oc,T,I.freeC x c D⟩ hs,by simpa using I.len⟩ ⟨c,hs,.inr D⟩
  .exact(hs.2 b (ë (ç (â e) (I.ok.cab x c P D)))).trans (I.base.keep b o e n O F)
  .obtain⟨sl,B⟩:=I.base.slot b o e n O F;exact⟨sl,(hs.2 b (ë (ç (â e) (I.ok.cab x c P D)))).trans B⟩
  .obtain⟨o',B⟩:=I.base.there b o e F;exact⟨o',(hs.2 b (ë (ç (â e) (I.ok.cab x c P D)))).trans B⟩
  .by_cases L:j=i
   .subst L;rw[hi]at B;cases B;rw[ė K]at J;cases J;exact⟨u,r,.inr ⟨.inl hk,c,D,U⟩⟩
   .rw[Ĥ (Ne.symm L)]at J;obtain⟨u',r',q⟩:=hl j y v' B J e3;refine⟨u',r',?_⟩;rcases q with q|⟨k,c',e,z'⟩
    .exact .inl q
    .refine .inr ⟨k,c',e,z'.sameBut hs ?_⟩;rintro rfl;exact L (MW hN B (I.ok.inj _ _ _ e D▸hi))
  .by_cases W:c'=c
   .subst W;exact⟨_,U⟩
   .obtain⟨w2,z2⟩:=I.cell y c' e;exact⟨w2,z2.sameBut hs W⟩
  .obtain⟨e,n,ne,nf,d⟩:=I.pin p hp;refine⟨(hs.2 p.1 ?_).trans e,n,ne,nf,d⟩;intro q;rw[q,T]at e;have q':oc=p.2:=å e;exact d Z (by rw[<-q'];exact Y)
def MX{M:Model}{A:Ō}{i:Nat}{x:Str}{u:ŋ}{Q:Unit->Ŋ->Prop}(I:↑2)(c:X.N.Nodup)(hi:X.N[i]? =some x)(b:Loc X.env.scope x)(r:RelV v u)
  (h: ∀s',Inv X pins (σ.set i (some v)) H s'->Q () s') (hf:Q1 X x:=by first |exact .inl rfl|exact .inr rfl|assumption):wpAny M A (storeName X.env x u) Q E s:=
 GY I c hi b r (λs' a _=>h s' a) hf
def Inv.call'{s':Ŋ}{ch:A9}(I:↑2)(ho:s'.os=s.os)(u:Un (WK X.stack) ch H H' s.heap s'.heap)(a:HOk X.prog X.w H' s'.heap)(d:AllBare s'.gens)
  (hch: ∀b∈ch,(b∈X.ex\/X.s₀.heap.objs.size<=b)/\b≠X.env.locals/\(∀x c,X.env.cells.lookup x=some c->c≠b)/\ ∀p∈X.pn++pins,p.1≠b):Inv X pins σ H' s':=by
 obtain⟨h',i,h,t',o'⟩:=s';have e:=ho;subst e;exact I.call u a d hch
end
abbrev XK:=Value->Option Addr->Hp->Prop
abbrev St:=List (Option V)
variable{σ:St}
abbrev VK:=V->Hp->Prop
abbrev TE:=St->Hp->VK->Prop
abbrev TT:=St->Hp->(Bool->Hp->Prop)->Prop
abbrev TA:=St->Hp->(List V->Hp->Prop)->Prop
structure Ends where
 nx:St->Hp->Prop
 rt:VK
 bk:St->Hp->Prop:=λ_ _=>False
 ct:St->Hp->Prop:=λ_ _=>False
abbrev TS:=Ends->St->Hp->Prop
def EP(X:Cx)(pins:B5)(σ:St)(Q:VK)(u:ŋ)(s':Ŋ):Prop:= ∃v H',Inv X pins σ H' s'/\RelV v u/\Q v H'
def TP(X:Cx)(pins:B5)(σ:St)(Q:Bool->Hp->Prop)(b:Bool)(s':Ŋ):Prop:= ∃H',Inv X pins σ H' s'/\Q b H'
def AP(X:Cx)(pins:B5)(σ:St)(Q:List V->Hp->Prop)(us:A0)(s':Ŋ):Prop:= ∃vs H',Inv X pins σ H' s'/\Vals vs us/\Q vs H'
def SP(X:Cx)(pins:B5)(D:Ends)(f:Flow)(s':Ŋ):Prop:=
 match f with
 |.next=> ∃a H',Inv X pins a H' s'/\D.nx a H'
 |.brk=> ∃a H',Inv X pins a H' s'/\D.bk a H'
 |.cont=> ∃a H',Inv X pins a H' s'/\D.ct a H'
 |.ret u=> ∃v a H',Inv X pins a H' s'/\RelV v u/\D.rt v H'
def PE(X:Cx)(e:Expr)(t:TE):Prop:=
 ∀(pins:B5)(s:Ŋ)(σ:St)(H:Hp)(Q:VK),Inv X pins σ H s->t σ H Q->wpAny (model X.prog X.w) X.A (eval e X.env) (EP X pins σ Q) X.xe s
def PT(X:Cx)(e:Expr)(t:TT):Prop:=
 ∀(pins:B5)(s:Ŋ)(σ:St)(H:Hp)(Q:Bool->Hp->Prop),Inv X pins σ H s->t σ H Q->wpAny (model X.prog X.w) X.A (isTrue e X.env (eval e X.env)) (TP X pins σ Q) X.xe s
def PW(X:Cx)(e:Expr)(t:TT):Prop:=
 ∀(a:Sem ŋ)(pins:B5)(s:Ŋ)(σ:St)(H:Hp)(Q:Bool->Hp->Prop),Inv X pins σ H s->t σ H Q->wpAny (model X.prog X.w) X.A (isTrue e X.env a) (TP X pins σ Q) X.xe s
def PW.pt{e:Expr}{t:TT}(h:PW X e t):PT X e t:=h _
def PA(X:Cx)(es:B8)(t:TA):Prop:=
 ∀(pos:Pos)(pins:B5)(s:Ŋ)(σ:St)(H:Hp)(Q:List V->Hp->Prop),Inv X pins σ H s->t σ H Q->wpAny (model X.prog X.w) X.A (spliced (backTo pos (starEach es X.env))) (AP X pins σ Q) X.xe s
def PS(X:Cx)(st:Stmt)(t:TS):Prop:=
 ∀(pins:B5)(s:Ŋ)(σ:St)(H:Hp)(D:Ends),Inv X pins σ H s->t D σ H->wpAny (model X.prog X.w) X.A (exec st X.env) (SP X pins D) X.xe s
def PSs(X:Cx)(st:List Stmt)(t:TS):Prop:=
 ∀(pins:B5)(s:Ŋ)(σ:St)(H:Hp)(D:Ends),Inv X pins σ H s->t D σ H->wpAny (model X.prog X.w) X.A (execs st X.env) (SP X pins D) X.xe s
def jI{α:Type}{t:Sem α}{Q b:α->Ŋ->Prop}{M:Model}{A:Ō}{s:Ŋ}(h:wpAny M A t Q E s)(c: ∀a s,Q a s->b a s):wpAny M A t b E s:=û h c λ_ _ x=>x
section
variable{X:Cx}
def Wi(i:Nat):TE:=λσ H Q=> ∃v,σ[i]? =some (some v)/\Q v H
def tC(v:V):TE:=λ_ H Q=>Q v H
def Oe{i:Nat}{x:Str}(k:X.N[i]? =some x)(d:Wh X.env.scope x)(hd:(x==("__debug__":Str))=false:=by decide)(a:(x==("__classdict__":Str))=false:=by decide):PE X (.Name x pos) (Wi i):=by
 intro pins s σ H Q I h;obtain⟨v,e,h⟩:=h;obtain⟨m,j,b⟩:=I.loc;obtain⟨u,r,l⟩:=b i x v k e d;have fin:EP X pins σ Q u s:=⟨v,H,I,r,h⟩
 rcases l with⟨hk,hm⟩|⟨hk,c,hc,hcell⟩
 .exact wpAny_Name (wpAny_loadName_local I.ok.kind hk j hm fin) hd
 .rcases hk with hk|hk
  .exact wpAny_Name (wpAny_loadName_cell I.ok.kind hk hc hcell fin) hd
  .exact wpAny_Name (wpAny_loadName_free I.ok.kind hk hc hcell fin a) hd
def ZP{i j pos}:PE X (.Constant (.int i) j pos) (tC (.int i)):=λ_ _ _ H _ I h=>wpAny_Constant_int ⟨.int i,H,I.tok _,⟨_,rfl⟩,h⟩
def Wj{b j pos}:PE X (.Constant (.bool b) j pos) (tC (.bl b)):=λ_ _ _ H _ I h=>Constant_bool ⟨.bl b,H,I,rfl,h⟩
def Of{j pos}:PE X (.Constant .none j pos) (tC .non):=λ_ _ _ H _ I h=>Constant_none ⟨.non,H,I,rfl,h⟩
def Og{x j pos}:PE X (.Constant (.str x) j pos) (tC (.str x)):=λ_ _ _ H _ I h=>Calls.Constant_str ⟨.str x,H,I.tok _,⟨_,rfl⟩,h⟩
def Gl(X:Cx)(x:Str):Prop:=X.env.kindOf x=some .globalImplicit
def JC{s:Ŋ}{x:Str}{u:ŋ}{Q:VP}(I:↑2)(a:Gl X x)(b:X.mg x=some u)(h:Q u s)
  (hd:(x==("__debug__":Str))=false:=by decide):wpAny (model X.prog X.w) X.A (eval (.Name x pos) X.env) Q E s:=
 Calls.Name_function_global I.ok.kind a (Calls.loadGlobal_global (by rw[I.ok.glob];exact I.mod.glob.keeps I.bk) b h) hd
def mQ{s:Ŋ}{x:Str}{u:ŋ}{Q:VP}(I:↑2)(a:Gl X x)(c:X.mg x=none)(d:bootBuiltins x=some u)(h:Q u s)
  (hn:x≠"__name__":=by decide) (hd:(x==("__debug__":Str))=false:=by decide):wpAny (model X.prog X.w) X.A (eval (.Name x pos) X.env) Q E s:=by
 obtain⟨e,h1,b⟩:=I.mod.blt;exact Calls.Name_function_global I.ok.kind a (Calls.loadGlobal_builtin (by rw[I.ok.glob];exact I.mod.glob.keeps I.bk) c (by rw[I.ok.blt];exact h1.keeps I.bk) ((b x hn).trans d) h) hd
def Fs{x:Str}{u:ŋ}(a:Gl X x)(b:X.mg x=some u)(r:RelV v u)(hd:(x==("__debug__":Str))=false:=by decide):PE X (.Name x pos) (tC v):=
 λ_ _ _ H _ I h=>JC I a b ⟨v,H,I,r,h⟩ hd
def Ft{x:Str}{u:ŋ}(a:Gl X x)(b:X.mg x=none)(c:bootBuiltins x=some u)(r:RelV v u)(d:x≠"__name__":=by decide)(hd:(x==("__debug__":Str))=false:=by decide):PE X (.Name x pos) (tC v):=
 λ_ _ _ H _ I h=>mQ I a b c ⟨v,H,I,r,h⟩ d hd
variable{a b:Expr}{ta tb:TE}{pos:Pos}
def tB(t:TE):TT:=λσ H Q=>t σ H λx H1=> ∃c,x=.bl c/\Q c H1
variable{tA tB':TT}{rest:B8}
def tAnd(t u:TT):TT:=λσ H Q=>t σ H λc H1=>if c=true then u σ H1 Q else Q false H1
def tOr(t u:TT):TT:=λσ H Q=>t σ H λc H1=>if c=true then Q true H1 else u σ H1 Q
def tNot(t:TT):TT:=λσ H Q=>t σ H λc H1=>Q (!c) H1
def Fv(b:PT X a tA):PW X (.BoolOp .And [a] pos) tA:=by
 intro i pins s σ H Q I h;refine isTrue_and (jI (b pins s σ H Q I h) λc d e=>?_)
 cases c with
 |true=>exact isTrue_and_nil e
 |false=>exact e
def Oh(b:PT X a tA):PW X (.BoolOp .Or [a] pos) tA:=by
 intro i pins s σ H Q I h;refine isTrue_or (jI (b pins s σ H Q I h) λc d e=>?_)
 cases c with
 |false=>exact isTrue_or_nil e
 |true=>exact e
def Oi(j:PT X a tA)(k:PW X (.BoolOp .And (b::rest) pos) tB'):PW X (.BoolOp .And (a::b::rest) pos) (tAnd tA tB'):=by
 intro i pins s σ H Q I h;refine isTrue_and (jI (j pins s σ H _ I h) λc e ⟨H1,I1,d⟩=>?_)
 cases c with
 |true=>exact k i pins e σ H1 Q I1 d
 |false=>exact⟨H1,I1,d⟩
def Wm(j:PT X a tA)(k:PW X (.BoolOp .Or (b::rest) pos) tB'):PW X (.BoolOp .Or (a::b::rest) pos) (tOr tA tB'):=by
 intro i pins s σ H Q I h;refine isTrue_or (jI (j pins s σ H _ I h) λc e ⟨H1,I1,d⟩=>?_)
 cases c with
 |true=>exact⟨H1,I1,d⟩
 |false=>exact k i pins e σ H1 Q I1 d
def Oj(b:PT X a tA):PT X (.UnaryOp .Not a pos) (tNot tA):=by intro pins s σ H Q I h;exact isTrue_not (b pins s σ H (λc H1=>Q (!c) H1) I h)
def tIf(t:TT)(ta tb:TE):TE:=λσ H Q=>t σ H λc H1=>if c=true then ta σ H1 Q else tb σ H1 Q
def ZQ{c:Expr}(j:PT X c tA)(k:PE X a ta)(m:PE X b tb):PE X (.IfExp c a b pos) (tIf tA ta tb):=by
 intro pins s σ H Q I h;refine wpAny_IfExp (jI (j pins s σ H _ I h) λd e ⟨H1,I1,i⟩=>?_)
 cases d with
 |true=>exact k pins e σ H1 Q I1 i
 |false=>exact m pins e σ H1 Q I1 i
end
def SqL(K:B9)(H:Hp)(a:Addr)(xs:List V):Prop:=
 Rd H a (.lst xs)\/
  ∃(o:Obj)(its:A7)(n:Nat),K.lookup a=some o/\o.cls=.type "list"/\o.dict=none/\o.data=.seq its n/\its.size<=sizeLine/\Vals xs its.toList
def SqT(K:B9)(H:Hp)(a:Addr)(xs:List V):Prop:=
 Rd H a (.tup xs)\/
  ∃(o:Obj)(its:A7)(n:Nat),K.lookup a=some o/\o.cls=.type "tuple"/\o.data=.seq its n/\its.size<=sizeLine/\Vals xs its.toList
noncomputable def absV:ŋ->Option V
 |.none=>some .non
 |.bool b=>some (.bl b)
 |.int i _=>some (.int i)
 |.str x _=>some (.str x)
 |.bytes b _=>some (.byt b)
 |.float b _=>some (.flt b)
 |.ref a=>some (.ref a)
 |.type n=>some (.ty n)
 |_=>none
theorem RelV.abs{x:V}{u:ŋ}(r:RelV x u):absV u=some x:=by
 cases x with
 |non=>cases r;rfl
 |bl _=>cases r;rfl
 |int _=>obtain⟨t,rfl⟩:=r;rfl
 |str _=>obtain⟨t,rfl⟩:=r;rfl
 |byt _=>obtain⟨t,rfl⟩:=r;rfl
 |flt _=>obtain⟨t,rfl⟩:=r;rfl
 |ref _=>cases r;rfl
 |ty _=>cases r;rfl
def RelV.inj{x y:V}{u:ŋ}(r:RelV x u)(q:RelV y u):x=y:=å (r.abs.symm.trans q.abs)
theorem Vals.inj: ∀{xs ys:List V}{us:A0},Vals xs us->Vals ys us->xs=ys
 |_,_,_,.nil,.nil=>rfl
 |_,_,_,.cons r t,.cons r' t'=>by rw[r.inj r',Vals.inj t t']
section
variable{X:Cx}{pins:B5}{σ:St}{H:Hp}{s:Ŋ}{a:Addr}{xs ys:List V}
def SqL.of{K:B9}(h:H a=some (.lst xs)):SqL K H a xs:=.inl (.inl h)
def SqT.of{K:B9}(h:H a=some (.tup xs)):SqT K H a xs:=.inl (.inl h)
theorem Inv.list(I:↑2)(h:SqL X.K H a xs): ∃its:List ŋ,Vals xs its/\PlainL s.heap a its.toArray/\xs.length<=sizeLine:=by
 rcases h with h|⟨o,its,n,hk,hc,hd,hs,hz,r⟩
 .obtain⟨z,its,n,r,e⟩:=h.ok I.hok;exact⟨its,r,⟨_,n,e,rfl,rfl,rfl⟩,z⟩
 .refine⟨_,r,⟨o,n,I.kIn a o hk,hc,hd,by simpa using hs⟩,?_⟩;have e:=r.length;simp only[í]at e
  lia
theorem Inv.tuple(I:↑2)(h:SqT X.K H a xs): ∃its:List ŋ,Vals xs its/\IsTup s.heap a its.toArray/\xs.length<=sizeLine:=by
 rcases h with h|⟨o,its,n,hk,hc,hs,hz,r⟩
 .obtain⟨z,its,r,p⟩:=h.ok I.hok;exact⟨its,r,p,z⟩
 .refine⟨_,r,⟨o,I.kIn a o hk,hc,n,by simpa using hs⟩,?_⟩;have e:=r.length;simp only[í]at e
  lia
def Inv.list_inj(I:↑2)(h:SqL X.K H a xs)(h':SqL X.K H a ys):xs=ys:=by
 obtain⟨its,r,⟨o,n,e,_,_,d⟩,_⟩:=I.list h;obtain⟨b,j,⟨o',k,i,_,_,c⟩,_⟩:=I.list h';rw[e]at i;cases i;rw[d]at c;injection c with d1 _
 have:=by simpa using congrArg Array.toList d1
 subst this;exact r.inj j
def Inv.tuple_inj(I:↑2)(h:SqT X.K H a xs)(h':SqT X.K H a ys):xs=ys:=by
 obtain⟨its,r,⟨o,e,_,n,d⟩,_⟩:=I.tuple h;obtain⟨b,j,⟨o',i,_,k,c⟩,_⟩:=I.tuple h';rw[e]at i;cases i;rw[d]at c;injection c with d1 _
 have:=by simpa using congrArg Array.toList d1
 subst this;exact r.inj j
end
abbrev Cx.wish(X:Cx)(E:VP):Cx:={X with xe:=E}
abbrev Cx.nox(X:Cx):Cx:=X.wish λ_ _=>False
def Cx.Ok.wish(ok:X.Ok)(E:VP):(X.wish E).Ok:=
 ⟨ok.mod,ok.kind,ok.glob,ok.blt,ok.above,ok.inj,ok.has,ok.cab,ok.hd,ok.frames,ok.stk,ok.exf,ok.bs,ok.bsz,ok.noex,ok.exfs,ok.funs,ok.frf⟩
def Cx.Ok.unwish(ok:(X.wish E).Ok):X.Ok:=
 ⟨ok.mod,ok.kind,ok.glob,ok.blt,ok.above,ok.inj,ok.has,ok.cab,ok.hd,ok.frames,ok.stk,ok.exf,ok.bs,ok.bsz,ok.noex,ok.exfs,ok.funs,ok.frf⟩
section
variable{X:Cx}{pins:B5}{σ:St}{H:Hp}{s:Ŋ}{E:VP}
def Inv.wish(I:↑2)(E:VP):Inv (X.wish E) pins σ H s:=⟨I.ok.wish E,I.os,I.bare,I.base,I.loc,I.cell,I.free,I.freeC,I.pin,I.hok,I.len⟩
def Inv.unwish(I:Inv (X.wish E) pins σ H s):Inv X pins σ H s:=⟨I.ok.unwish,I.os,I.bare,I.base,I.loc,I.cell,I.free,I.freeC,I.pin,I.hok,I.len⟩
def SP.unwish{D:Ends}{f:Flow}{s':Ŋ}(h:SP (X.wish E) pins D f s'):SP X pins D f s':=by
 cases f with
 |next=>obtain⟨a,H',I,q⟩:=h;exact⟨a,H',I.unwish,q⟩
 |brk=>obtain⟨a,H',I,q⟩:=h;exact⟨a,H',I.unwish,q⟩
 |cont=>obtain⟨a,H',I,q⟩:=h;exact⟨a,H',I.unwish,q⟩
 |ret u=>obtain⟨v,a,H',I,r,q⟩:=h;exact⟨v,a,H',I.unwish,r,q⟩
def PSs.nox{st:List Stmt}{t:TS}(h:PSs X.nox st t):PSs X st t:=λpins s σ H D I hw=>
 û (h pins s σ H D (I.wish _) hw) (λ_ _ q=>q.unwish) λ_ _ z=>False.elim z
end
section
variable{X:Cx}{st:Stmt}{rest:List Stmt}{t u:TS}{e:Expr}{te:TE}{pos:Pos}
def Wn:TS:=λD σ H=>D.nx σ H
def tSeq(t u:TS):TS:=λD σ H=>t {D with nx:=u D} σ H
def Fw:PSs X [] Wn:=λ_ _ σ H _ I h=>wpAny_execs_nil ⟨σ,H,I,h⟩
def ZR(h1:PS X st t)(c:PSs X rest u):PSs X (st::rest) (tSeq t u):=by
 intro pins s σ H D I h;refine wpAny_execs_cons (jI (h1 pins s σ H {D with nx:=u D} I h) λf b q=>?_)
 cases f with
 |next=>
  obtain⟨a,H',d,q⟩:=q;exact c pins b a H' D d q
 |ret v=>exact q
 |brk=>exact q
 |cont=>exact q
def Fx(h1:PS X st t):PSs X [st] t:=by
 intro pins s σ H D I h;refine wpAny_execs_cons (jI (h1 pins s σ H D I h) λf a q=>?_)
 cases f with
 |next=>exact wpAny_execs_nil q
 |ret v=>exact q
 |brk=>exact q
 |cont=>exact q
def Inv.quiet{s:Ŋ}(I:↑2):interactive X.env=false:=by simp[interactive,I.ok.kind]
def Wo(te:TE):TS:=λD σ H=>te σ H λ_ H1=>D.nx σ H1
def Fy(a:PE X e te)(hs:swapsWith e none pos.line X.env=pure false:=by rfl):PS X (.Expr e pos) (Wo te):=by intro pins s σ H D I h;exact wpAny_Expr_any (jI (a pins s σ H _ I h) λv d ⟨x,H1,I1,c,b⟩=>⟨σ,H1,I1,b⟩) I.quiet hs
def tRet(te:TE):TS:=λD σ H=>te σ H D.rt
def Ol(b:PE X e te):PS X (.Return (some e) pos) (tRet te):=by intro pins s σ H D I h;exact wpAny_Return_some (jI (b pins s σ H _ I h) λv d ⟨x,H1,I1,a,c⟩=>⟨x,σ,H1,I1,a,c⟩)
def tIfS(c:TT)(t u:TS):TS:=λD σ H=>c σ H λb H1=>if b=true then t D σ H1 else u D σ H1
def Wp{c:Expr}{a b:List Stmt}{i:TT}(m:PT X c i)(k:PSs X a t)(n:PSs X b u):PS X (.If c a b pos) (tIfS i t u):=by
 intro pins s σ H D I h;refine wpAny_If (jI (m pins s σ H _ I h) λd j ⟨H1,I1,e⟩=>?_)
 cases d with
 |true=>exact k pins j σ H1 D I1 e
 |false=>exact n pins j σ H1 D I1 e
end
abbrev TG:=V->St->Hp->(St->Hp->Prop)->Prop
abbrev Om:=List V->St->Hp->(St->Hp->Prop)->Prop
def PG(X:Cx)(a:Expr)(t:TG):Prop:=
 ∀(pins:B5)(s:Ŋ)(σ:St)(H:Hp)(v:V)(u:ŋ)(Q:St->Hp->Prop),Inv X pins σ H s->RelV v u->t v σ H Q->
  wpAny (model X.prog X.w) X.A (assign a X.env u) (λ_ s'=> ∃b H',Inv X pins b H' s'/\Q b H') X.xe s
def Vs(X:Cx)(ts:B8)(t:Om):Prop:=
 ∀(pins:B5)(s:Ŋ)(σ:St)(H:Hp)(vs:List V)(us:A0)(Q:St->Hp->Prop),Inv X pins σ H s->Vals vs us->t vs σ H Q->
  wpAny (model X.prog X.w) X.A (assignInOrder ((assignEach ts X.env).map (·.2)) us) (λ_ s'=> ∃a H',Inv X pins a H' s'/\Q a H') X.xe s
abbrev TSet:=V->V->V->Hp->(Hp->Prop)->Prop
def Fz(X:Cx)(t:TSet):Prop:=
 ∀(pins:B5)(s:Ŋ)(σ:St)(H:Hp)(o i v:V)(ov a u:ŋ)(Q:Hp->Prop),Inv X pins σ H s->RelV o ov->RelV i a->RelV v u->t o i v H Q->
  wpAny (model X.prog X.w) X.A (setItem ov a u) (λ_ s'=> ∃H',Inv X pins σ H' s'/\Q H') X.xe s
section
variable{X:Cx}{pos:Pos}
def ZS(i:Nat):TG:=λv σ H Q=>Q (σ.set i (some v)) H
def SW{i:Nat}{x:Str}(d:X.N.Nodup)(hi:X.N[i]? =some x)(b:Loc X.env.scope x)(a:Q1 X x:=by first |exact .inl rfl|exact .inr rfl|assumption):PG X (.Name x pos) (ZS i):=by intro pins s σ H v u Q I r h;exact wpAny_assign_Name (MX I d hi b r (λs' c=>⟨_,H,c,h⟩) a)
def gNil:Om:=λvs σ H Q=>vs=[]/\Q σ H
def Wq(t:TG)(u:Om):Om:=λvs σ H Q=> ∃v r,vs=v::r/\t v σ H λa H'=>u r a H' Q
def SX:Vs X [] gNil:=by intro pins s σ H vs us Q I r h;obtain⟨e,h⟩:=h;subst e;exact assignInOrder_nil ⟨σ,H,I,h⟩
def MY{e:Expr}{es:B8}{t:TG}{u:Om}(h1:PG X e t)(b:Vs X es u)
  (hs:(assignEach (e::es) X.env).map (·.2)=assign e X.env::(assignEach es X.env).map (·.2):=by rfl):Vs X (e::es) (Wq t u):=by
 intro pins s σ H vs us Q I r h;obtain⟨v,j,c,h⟩:=h;subst c
 cases r with
 |cons r rr=>
  rw[hs];refine assignInOrder_cons (jI (h1 pins s σ H _ _ _ I r h) λ_ i ⟨a,H1,I1,d⟩=>?_);exact b pins i a H1 _ _ Q I1 rr d
def gTup(K:B9)(n:Nat)(t:Om):TG:=λv σ H Q=> ∃a xs,v=.ref a/\SqT K H a xs/\xs.length=n/\t xs σ H Q
def ZT{es:B8}{k:Nat}{t:Om}{n:Nat}(p:X.calm=true)(h:Vs X es t)
  (hn:(assignEach es X.env).length=n:=by rfl) (hst:(assignEach es X.env).findIdx? (·.1)=none:=by rfl):PG X (.Tuple es k pos) (gTup X.K n t):=by
 intro pins s σ H v u Q I r hw;obtain⟨a,xs,d,i,m,hw⟩:=hw;subst d;cases r;obtain⟨its,c,q,w⟩:=I.tuple i;refine assign_Tuple_tuple (I.ok.hd p) q (by simp[hn, <-m,c.length]) hst λh' j=>?_;have I1:Inv X pins σ H {s with heap:=h'}:=I.kept λb o e=>j b o (ë (â e)) e;exact h pins _ σ H xs _ Q I1 (by simpa using c) hw
def gSub(to b:TE)(t:TSet):TG:=λv σ H Q=>to σ H λo H1=>b σ H1 λi c=>t o i v c λa=>Q σ a
def QO{o i:Expr}{to b:TE}{t:TSet}(ho:PE X o to)(hi:PE X i b)(hs:Fz X t)
  (ha: ∀v,assign (.Subscript o i pos) X.env v=(do
   let ov <-holding [v] (eval o X.env);let a <-holding [v,ov] (eval i X.env)
   standAt pos
   holding [v,ov,a] (setItem ov a v)
   release [v,ov,a] []):=by intro _;rfl):PG X (.Subscript o i pos) (gSub to b t):=by
 intro pins s σ H v u Q I r h;refine wB (ù (jI (ho pins s σ H _ I h) λov k ⟨x,H1,I1,c,d⟩=>?_));refine wB (ù (jI (hi pins k σ H1 _ I1 d) λa z ⟨y,e,q,w,m⟩=>?_));refine wB (wpAny_standAt (wB (ù (jI (hs pins z σ e x y v ov a u _ q c w r m) λ_ A ⟨n,j,p⟩=>?_))));exact wpAny_release ⟨σ,n,j,p⟩
def On(te:TE)(g:TG):TS:=λD σ H=>te σ H λx H1=>g x σ H1 D.nx
def Oo{e:Expr}{te:TE}{g:TG}(c:PE X e te)(b:PG X tg g)(hs:swapsWithSole [tg] e pos.line X.env=pure false:=by rfl)(hw:swappedStores [tg] e X.env=pure none:=by rfl)
  (h1:(assignEach [tg] X.env).map (·.2)=[assign tg X.env]:=by rfl):PS X (.Assign [tg] e pos) (On te g):=by
 intro pins s σ H D I h;refine wpAny_Assign_stores (jI (c pins s σ H _ I h) λv i ⟨x,H1,I1,a,d⟩=>?_) hs hw;rw[h1];exact jI (b pins i σ H1 x v _ I1 a d) λ_ j q=>q
def Oq{i:Nat}{x:Str}{e:Expr}{te:TE}{a:Pos}(n:X.N.Nodup)(hi:X.N[i]? =some x)(k:Loc X.env.scope x)(c:PE X e te)(hs:swapsWith e (some (.Name x a)) pos.line X.env=pure false:=by rfl)(d:Q1 X x:=by first |exact .inl rfl|exact .inr rfl|assumption):
  PS X (.Assign [.Name x a] e pos) (On te (ZS i)):=by
 intro pins s σ H D I h;refine wpAny_Assign_Name (jI (c pins s σ H _ I h) λv o ⟨y,H1,I1,b,j⟩=>?_) hs;exact MX I1 n hi k b (λp m=>⟨_,H1,m,j⟩) d
end
structure It where
 go:Nat->Hp->Prop
 yld:Nat->Hp->V->Hp->Prop
 stop:Nat->Hp->Prop
def pP(X:Cx)(pins:B5)(H:Hp)(b:Addr):Prop:=
 H b=none/\b≠X.env.locals/\b∉X.fs/\(b∈X.ex\/X.s₀.heap.objs.size<=b)/\(∀x c,X.env.cells.lookup x=some c->c≠b)/\ ∀p∈X.pn++pins,p.1≠b
def Inv.fpOk{H':Hp}{s:Ŋ}{b:Addr}(I:↑2)(a:↑0<=b)(h:H' b=none):pP X pins H' b:=by
 refine⟨h,ø (ç I.lt a),I.nofs a,.inr (õ I.sz a),λx c e z=>?_,λp d z=>?_⟩
 .obtain⟨v,q⟩:=I.cell x c e;exact absurd (ç q.lt (by rw[z];exact a)) (ı _)
 .exact absurd (ç (â (I.pin p d).1) (by rw[z];exact a)) (ı _)
abbrev Os(X:Cx):Prop:=X.calm=true
structure TurnC(C:Cx->Prop)(P:ō)(w:World)(K:B9)(tg:Expr)(J:It)(fp:A9)(it:Addr)(tn:Nat->Heap->Prop):Prop where
 mem:it∈fp
 obj: ∀i h,tn i h-> ∀b∈fp, ∃o,h.get? b=some o/\ ∀v,o.data≠.cell v
 keep: ∀i h h',tn i h->(∀b∈fp, ∀o,h.get? b=some o->h'.get? b=some o)->tn i h'
 item: ∀(X:Cx),X.prog=P->X.w=w->X.K=K->C X-> ∀(i:Nat)(pins:B5)(s:Ŋ)(σ:St)(H:Hp)(E:VP),Inv X pins σ H s->(∀b∈fp,pP X pins H b)->tn i s.heap->J.go i H->
  wpAny (model P w) X.A (pyNext (.ref it)) (λr s1=> ∃u,r=some u/\
   wpAny (model P w) X.A (letOwnedTupleGo tg (.ref it) u) (λ_ s2=> ∃x H',Inv X pins σ H' s2/\RelV x u/\J.yld i H x H'/\tn (i+1) s2.heap/\ ∀b∈fp,H' b=none) E s1) E s
 done: ∀(X:Cx),X.prog=P->X.w=w->X.K=K->C X-> ∀(i:Nat)(pins:B5)(s:Ŋ)(σ:St)(H:Hp)(E:VP),Inv X pins σ H s->(∀b∈fp,pP X pins H b)->tn i s.heap->J.stop i H->
  wpAny (model P w) X.A (pyNext (.ref it)) (λr s1=>r=none/\Inv X pins σ H s1) E s
 self: ∀(A:Ō)(i:Nat)(s:Ŋ)(Q:VP)(E:VP),tn i s.heap->Q (.ref it) s->wpAny (model P w) A (pyIter (.ref it)) Q E s
abbrev Turn:=TurnC Os
abbrev TI:=St->Hp->(It->Hp->Prop)->Prop
def Wr(C:Cx->Prop)(X:Cx)(pins:B5)(σ:St)(tg:Expr)(R:It->Hp->Prop)(a:ŋ)(d:Ŋ):Prop:=
 ∃(it:Addr)(fp:A9)(c:Nat->Heap->Prop)(J:It)(H':Hp),a=.ref it/\Inv X pins σ H' d/\TurnC C X.prog X.w X.K tg J fp it c/\c 0 d.heap/\(∀b∈fp,pP X pins H' b)/\R J H'
abbrev PIE:=Wr Os
def Ws(C:Cx->Prop)(X:Cx)(tg iter:Expr)(b:TI):Prop:=
 ∀(pins:B5)(s:Ŋ)(σ:St)(H:Hp)(R:It->Hp->Prop),Inv X pins σ H s->b σ H R->
  wpAny (model X.prog X.w) X.A (eval iter X.env) (λv a=>wpAny (model X.prog X.w) X.A (pyIter v) (Wr C X pins σ tg R) X.xe a) X.xe s
abbrev PI:=Ws Os
def ZU{M:Model}{A:Ō}{s:Ŋ}{it:Addr}{u:ŋ}{o:Obj}{n:String}{vs:A7}{Q:Unit->Ŋ->Prop}(ho:s.heap.get? it=some o)(a:o.cls=.type n)(hd:o.data=.fields vs)
  (hn:["enumerate","zip","dict_itemiterator","dict_reverseitemiterator","odict_iterator","itertools.zip_longest","itertools.pairwise"].contains n=false) (hQ:Q () s):wpAny M A (letOwnedTupleGo tg (.ref it) u) Q E s:=by
 cases tg<;>first
  |exact wP hQ
  |(cases u<;>first
    |exact wP hQ
    |(refine wB (wpAny_load ho ?_)
      rw[a,hd];show wpAny M A (if _=true then _ else _) Q E s;rw[iN (by intro h;rw[hn]at h;cases h)];exact wP hQ))
noncomputable def Zs(K:B9)(a:Addr):It:=
 ⟨λi H=> ∃xs x,SqL K H a xs/\xs[i]? =some x,λi H x H'=>H'=H/\ ∀xs,SqL K H a xs->xs[i]? =some x,λi H=> ∃xs,SqL K H a xs/\xs.length<=i⟩
noncomputable def Zt(K:B9)(a:Addr):It:=
 ⟨λi H=> ∃xs x,SqT K H a xs/\xs[i]? =some x,λi H x H'=>H'=H/\ ∀xs,SqT K H a xs->xs[i]? =some x,λi H=> ∃xs,SqT K H a xs/\xs.length<=i⟩
noncomputable def Zu(lo:Int)(n:Nat):It:=⟨λi _=>i<n,λi H x H'=>H'=H/\x=.int (lo+i),λi _=>n<=i⟩
theorem GZ{P:ō}{w:World}{K:B9}(a it:Addr):Turn P w K tg (Zs K a) [it] it (λi h=>h.IsListIter it a i) where
 mem:=by simp
 obj:=λi h st b hb=>by
  have e:=by simpa using hb
  subst e;obtain⟨o,e,c,d⟩:=st;exact⟨o,e,λv z=>by rw[d]at z;cases z⟩
 keep:=λi h h' st k=>st.at λo e=>k it (by simp) o e
 item:=by intro X hP hw hK hc i pins s σ H E I hf st hg;subst hP hw hK;obtain⟨xs,x,hq,hx⟩:=hg;obtain⟨its,rv,p,hz⟩:=I.list hq;obtain⟨u,hu,ru⟩:=rv.get hx;obtain⟨f0,f1,f2,f3,f4,f5⟩:=hf it (by simp);refine wpAny_pyNext_list_item st p.isList (by simpa using hu) λh' st' sb=>?_;have I1:Inv X pins σ H {s with heap:=h'}:=I.turned (λb o hb e=>(sb.2 b hb).trans e) f0 f1 f3 f4 f5;obtain⟨o,e,c,d⟩:=id st';exact⟨u,rfl,ZU e c d (by decide) ⟨x,H,I1,ru,⟨rfl,λys hy=>by rw[I.list_inj hy hq];exact hx⟩,st',λb hb=>(hf b hb).1⟩⟩
 done:=by intro X hP hw hK hc i pins s σ H E I hf st hg;subst hP hw hK;obtain⟨xs,hq,hx⟩:=hg;obtain⟨its,rv,p,hz⟩:=I.list hq;obtain⟨f0,f1,f2,f3,f4,f5⟩:=hf it (by simp);have hl:=rv.length;exact wpAny_pyNext_list_end (I.ok.hd hc) st p.isList (by simp;lia) λh' eb=>⟨rfl,I.turned (λb o hb e=>eb b o hb e) f0 f1 f3 f4 f5⟩
 self:=λ_ _ _ _ _ st h=>wpAny_pyIter_listiter st h
theorem DQ{P:ō}{w:World}{K:B9}(a it:Addr):Turn P w K tg (Zt K a) [it] it (λi h=>h.IsTupleIter it a i) where
 mem:=by simp
 obj:=λi h st b hb=>by
  have e:=by simpa using hb
  subst e;obtain⟨o,e,c,d⟩:=st;exact⟨o,e,λv z=>by rw[d]at z;cases z⟩
 keep:=λi h h' st k=>st.at λo e=>k it (by simp) o e
 item:=by intro X hP hw hK hc i pins s σ H E I hf st hg;subst hP hw hK;obtain⟨xs,x,hq,hx⟩:=hg;obtain⟨its,rv,p,hz⟩:=I.tuple hq;obtain⟨u,hu,ru⟩:=rv.get hx;obtain⟨f0,f1,f2,f3,f4,f5⟩:=hf it (by simp);refine wpAny_pyNext_tuple_item st p (by simpa using hu) λh' st' sb=>?_;have I1:Inv X pins σ H {s with heap:=h'}:=I.turned (λb o hb e=>(sb.2 b hb).trans e) f0 f1 f3 f4 f5;obtain⟨o,e,c,d⟩:=id st';exact⟨u,rfl,ZU e c d (by decide) ⟨x,H,I1,ru,⟨rfl,λys hy=>by rw[I.tuple_inj hy hq];exact hx⟩,st',λb hb=>(hf b hb).1⟩⟩
 done:=by intro X hP hw hK hc i pins s σ H E I hf st hg;subst hP hw hK;obtain⟨xs,hq,hx⟩:=hg;obtain⟨its,rv,p,hz⟩:=I.tuple hq;obtain⟨f0,f1,f2,f3,f4,f5⟩:=hf it (by simp);have hl:=rv.length;exact wpAny_pyNext_tuple_end (I.ok.hd hc) st p (by simp;lia) λh' eb=>⟨rfl,I.turned (λb o hb e=>eb b o hb e) f0 f1 f3 f4 f5⟩
 self:=λ_ _ _ _ _ st h=>wpAny_pyIter_tupleiter st h
theorem QP{P:ō}{w:World}{K:B9}(it:Addr)(lo:Int)(n:Nat):Turn P w K tg (Zu lo n) [it] it (λi h=>IsRangeIter h it (lo+(i:Nat) * 1) ((n:Int) - (i:Nat)) 1) where
 mem:=by simp
 obj:=λi h st b hb=>by
  have e:=by simpa using hb
  subst e;exact⟨_,st,λv z=>by have z':=z;cases z'⟩
 keep:=λi h h' st k=>k it (by simp) _ st
 item:=by intro X hP hw hK hc i pins s σ H E I hf st hg;subst hP hw hK;obtain⟨f0,f1,f2,f3,f4,f5⟩:=hf it (by simp);have W:=Walks.range (prog:=X.prog) (w:=X.w) (I.ok.hd hc) it lo 1 n;refine W.item i s _ _ hg st λv h' tk hv st' kk=>?_;obtain⟨t,rfl⟩:=hv;have I1:Inv X pins σ H {s with heap:=h',toks:=tk}:=I.turned (λb o hb e=>kk b o (by simpa using hb) e) f0 f1 f3 f4 f5;refine⟨_,rfl,ZU st' rfl rfl (by decide) ⟨.int _,H,I1,⟨t,?_⟩,⟨rfl,rfl⟩,st',λb hb=>(hf b hb).1⟩⟩;rw[Int.mul_one]
 done:=by intro X hP hw hK hc i pins s σ H E I hf st hg;obtain⟨f0,f1,f2,f3,f4,f5⟩:=hf it (by simp);exact wpAny_pyNext_range_end (I.ok.hd hc) st (by have:n<=i:=hg;lia) λh' eb=>⟨rfl,I.turned (λb o hb e=>eb b o hb e) f0 f1 f3 f4 f5⟩
 self:=λ_ _ _ _ _ st h=>wpAny_pyIter_rangeiter st h
section
variable{X:Cx}{tg:Expr}
def Wt(K:B9)(tl:TE):TI:=λσ H R=>tl σ H λx H1=> ∃a,x=.ref a/\(∃xs,SqL K H1 a xs)/\R (Zs K a) H1
def iTup(K:B9)(tl:TE):TI:=λσ H R=>tl σ H λx H1=> ∃a,x=.ref a/\(∃xs,SqT K H1 a xs)/\R (Zt K a) H1
def Ga{l:Expr}{tl:TE}(j:PE X l tl):PI X tg l (Wt X.K tl):=by
 intro pins s σ H R I h;refine jI (j pins s σ H _ I h) λv r ⟨x,H1,I1,c,d⟩=>?_;obtain⟨a,e,⟨xs,i⟩,q⟩:=d;subst e;cases c;obtain⟨its,m,p,n⟩:=I1.list i;refine wpAny_pyIter_list p.isList ?_;refine⟨_,_,_,_,H1,rfl,I1.kept λb o e=>hP0 _ e,GZ a _,⟨_,ã _ rfl,rfl,rfl⟩,λb k=>?_,q⟩;have e:=by simpa using k
 subst e;exact I1.fpOk (à _) (I1.hok.fresh (à _))
def Ot{l:Expr}{tl:TE}(j:PE X l tl):PI X tg l (iTup X.K tl):=by
 intro pins s σ H R I h;refine jI (j pins s σ H _ I h) λv r ⟨x,H1,I1,c,d⟩=>?_;obtain⟨a,e,⟨xs,i⟩,q⟩:=d;subst e;cases c;obtain⟨its,m,p,n⟩:=I1.tuple i;refine wpAny_pyIter_tuple p ?_;refine⟨_,_,_,_,H1,rfl,I1.kept λb o e=>hP0 _ e,DQ a _,⟨_,ã _ rfl,rfl,rfl⟩,λb k=>?_,q⟩;have e:=by simpa using k
 subst e;exact I1.fpOk (à _) (I1.hok.fresh (à _))
theorem ZV{s:Ŋ}{R:It->Hp->Prop}{lo hi:Int}{t u v:Tok}{a:Nat}(I:↑2)(h1: -(2 ^ 62)<=lo)(d:lo<2 ^ 62)(i: -(2 ^ 62)<=hi)(j:hi<2 ^ 62)
  (q:R (Zu lo (hi - lo).toNat) H):wpAny (model X.prog X.w) X.A (pyIter (.ref ↑0)) (PIE X pins σ tg R) E {s with heap:=s.heap.push {cls:=.type "range",data:=.fields #[.int lo t,.int hi u,.int 1 v]},toks:=a}:=by
 refine wpAny_pyIter_range (IsRange.new ..) (small_one h1 d i j) ?_;have I1:Inv X pins σ H {s with heap:=s.heap.push {cls:=.type "range",data:=.fields #[.int lo t,.int hi u,.int 1 v]},toks:=a}:=I.kept λb o e=>hP0 _ e
 refine⟨_,_,_,_,H,rfl,
  I1.kept λb o e=>hP0 _ e,QP _ lo (hi - lo).toNat,?_,λb k=>?_,q⟩
 .have h:lo+((0:Nat):Int) * 1=lo:=by simp
  have c:(((hi - lo).toNat:Nat):Int) - ((0:Nat):Int)=Builtin.Range.rangeSize lo hi 1:=by rw[rangeSize_one];split<;>lia
  show IsRangeIter _ _ _ _ 1;rw[h,c];exact ã _ rfl
 .have e:b=(s.heap.push {cls:=.type "range",data:=.fields #[.int lo t,.int hi u,.int 1 v]}).objs.size:=by simpa using k
  subst e;exact I1.fpOk (à _) (I1.hok.fresh (à _))
def Wu(ta:TA):TI:=λσ H R=>ta σ H λvs H1=> ∃j:Int,vs=[.int j]/\ -(2 ^ 62)<=j/\j<2 ^ 62/\R (Zu 0 j.toNat) H1
theorem WL{a:Expr}{ta:TA}{p:Pos}(d:Gl X "range")(m:X.mg "range"=none)(i:PA X [a] ta)(hs:starEach [a] X.env=[(false,eval a X.env)]:=by rfl):PI X tg (.Call (.Name "range" p) [a] [] pos) (Wu ta):=by
 intro pins s σ H R I h;refine Call_ (mQ I d m boot_range (Č (jI (i pos pins s σ H _ I h) λus n ⟨vs,H1,I1,c,b⟩=>?_) hs rfl));obtain⟨j,e,b,k,q⟩:=b;subst e
 cases c with
 |cons r rr=>
  cases rr;obtain⟨t,rfl⟩:=r;exact call_range_1 (ZV I1 #[0] #[0] b k (by simpa using q))
def tFor(d:TI)(g:TG)(tb:TS):TS:=λD σ H=>d σ H λJ H1=> ∃W:Nat->Nat->St->Hp->Prop,(∃m,W 0 m σ H1)/\ ∀i m σ H,W i m σ H->
 (J.stop i H/\D.nx σ H)\/(J.go i H/\ ∃N:St->Hp->Prop,(∀a H',N a H'-> ∃c,c<m/\W (i+1) c a H')/\ ∀x H',J.yld i H x H'->g x σ H' λb e=>tb {D with nx:=N,ct:=N,bk:=D.nx} b e)
noncomputable def sM(fp:A9)(h:Heap):List (Addr×Obj):=fp.filterMap λb=>(h.get? b).map λo=>(b,o)
def sN{fp:A9}{h:Heap}{b:Addr}{o:Obj}(a:b∈fp)(e:h.get? b=some o):(b,o)∈sM fp h:=ń.mpr ⟨b,a,by rw[e];rfl⟩
def WM{fp:A9}{h:Heap}{p:Addr×Obj}(a:p∈sM fp h):p.1∈fp/\h.get? p.1=some p.2:=by
 obtain⟨b,c,e⟩:=ń.mp a
 cases q:h.get? b with
 |none=>rw[q]at e;cases e
 |some o=>
  rw[q]at e;have d:_=p:=å e;subst d;exact⟨c,q⟩
def Inv.pinned{s:Ŋ}{fp:A9}(I:↑2)(h: ∀b∈fp,pP X pins H b)(ho: ∀b∈fp, ∃o,s.heap.get? b=some o/\ ∀v,o.data≠.cell v):Inv X (pins++sM fp s.heap) σ H s:=
 I.pins_of λp i=>(é.mp i).elim (λz=>I.pin p (ó _ z)) λz=>by obtain⟨a,e⟩:=WM z;obtain⟨j,k,m,_⟩:=h p.1 a;obtain⟨o,c,d⟩:=ho p.1 a;rw[e]at c;cases c;exact⟨e,j,k,m,d⟩
def Inv.unpinned{b:B5}{s:Ŋ}(I:Inv X (pins++b) σ H s):Inv X pins σ H s:=I.pins_of λp a=>I.pin p (ó _ (ă _ a))
def Ou{iter:Expr}{body:List Stmt}{wi:TI}{g:TG}{tb:TS}(K:PassesOwn (model X.prog X.w) X.A X.env X.xe)(Y:X.calm=true)(hi:PI X tg iter wi)(hg:PG X tg g)(k:PSs X body tb)
  (hs: ∀x,foldedSetIterable iter X.env x=pure x:=by intro _;rfl):PS X (.For tg iter body [] pos) (tFor wi g tb):=by
 intro pins s σ H D I h;refine wpAny_For (jI (hi pins s σ H _ I h) λv s1 h1=>jI h1 λaa s2 h2=>?_) hs;obtain⟨it,fp,tn,J,H2,e,I2,T,Q,f2,W,⟨m0,w0⟩,E⟩:=h2;subst e;have q: ∀{H':Hp},(∀b∈fp,H' b=none)-> ∀b∈fp,pP X pins H' b:=λhn b k=>⟨hn b k,(f2 b k).2⟩
 refine codeAny_forLoop_any (λn s'=> ∃i j H',Inv X pins j H' s'/\tn i s'.heap/\(∀b∈fp,H' b=none)/\W i n j H') ?_ m0 ⟨0,σ,H2,I2,Q,λb k=>(f2 b k).1,w0⟩;rintro n s3 ⟨i,p,L,Z,F,C,w3⟩;rcases E i n p L w3 with⟨stop,qn⟩|⟨go,N,hN,step⟩
 .refine wpAny_passesOwn K (jI (T.done X rfl rfl rfl Y i pins s3 p L X.xe Z (q C) F stop) λr s4 ⟨M,I4⟩=>?_);subst M;exact wpAny_execs_nil ⟨p,L,I4,qn⟩
 .refine wpAny_passesOwn K (jI (T.item X rfl rfl rfl Y i pins s3 p L X.xe Z (q C) F go) λr s4 ⟨u,M,h4⟩=>?_);subst M;refine wpAny_passesOwn K (jI h4 λ_ s5 ⟨x,H5,I5,r5,y5,B,P⟩=>?_);have O:=I5.pinned (q P) (T.obj _ _ B);refine wpAny_passesOwn K (jI (hg _ s5 p H5 x u _ O r5 (step x H5 y5)) λ_ s6 ⟨U,H6,I6,q6⟩=>?_);refine wpAny_passesOwn K (jI (k _ s6 U H6 _ I6 q6) λf S z=>?_);have c: ∀{a:St}{H7:Hp},Inv X _ a H7 S->N a H7-> ∃m,m<n/\ ∃i j H',Inv X pins j H' S/\tn i S.heap/\(∀b∈fp,H' b=none)/\W i m j H':=λ{a H7} y G=>by obtain⟨m',hm,w7⟩:=hN a H7 G;refine⟨m',hm,_,a,H7,y.unpinned,T.keep _ _ _ B λb k o e=>(y.pin (b,o) (ó _ (ó _ (sN k e)))).1,λb k=>?_,w7⟩;obtain⟨o,e,d⟩:=T.obj _ _ B b k;exact(y.pin (b,o) (ó _ (ó _ (sN k e)))).2.1
  cases f with
  |next=>obtain⟨a,H7,y,G⟩:=z;exact c y G
  |cont=>obtain⟨a,H7,y,G⟩:=z;exact c y G
  |brk=>obtain⟨a,H7,y,z⟩:=z;exact⟨a,H7,y.unpinned,z⟩
  |ret v=>obtain⟨x7,a,H7,y,r7,z⟩:=z;exact⟨x7,a,H7,y.unpinned,r7,z⟩
end
abbrev R2:=V->V->Hp->VK->Prop
def OpR(X:Cx)(f:ŋ->ŋ->Sem ŋ)(r:R2):Prop:=
 ∀(pins:B5)(s:Ŋ)(σ:St)(H:Hp)(x y:V)(v u:ŋ)(Q:VK),Inv X pins σ H s->RelV x v->RelV y u->r x y H Q->
  wpAny (model X.prog X.w) X.A (f v u) (EP X pins σ Q) X.xe s
def UnR(X:Cx)(f:ŋ->Sem ŋ)(r:V->Hp->VK->Prop):Prop:=
 ∀(pins:B5)(s:Ŋ)(σ:St)(H:Hp)(x:V)(v:ŋ)(Q:VK),Inv X pins σ H s->RelV x v->r x H Q->
  wpAny (model X.prog X.w) X.A (f v) (EP X pins σ Q) X.xe s
def CallR(X:Cx)(f:ŋ)(r:List V->Hp->VK->Prop):Prop:=
 ∀(pins:B5)(s:Ŋ)(σ:St)(H:Hp)(xs:List V)(us:A0)(Q:VK),Inv X pins σ H s->Vals xs us->r xs H Q->
  wpAny (model X.prog X.w) X.A (call f us) (EP X pins σ Q) X.xe s
def TruR(X:Cx)(r:V->Hp->(Bool->Hp->Prop)->Prop):Prop:=
 ∀(pins:B5)(s:Ŋ)(σ:St)(H:Hp)(x:V)(v:ŋ)(Q:Bool->Hp->Prop),Inv X pins σ H s->RelV x v->r x H Q->
  wpAny (model X.prog X.w) X.A (truthy v) (TP X pins σ Q) X.xe s
def Zv(r:R2)(ta tb:TE):TE:=λσ H Q=>ta σ H λx H1=>tb σ H1 λy a=>r x y a Q
def tUn(r:V->Hp->VK->Prop)(ta:TE):TE:=λσ H Q=>ta σ H λx H1=>r x H1 Q
def rI(C:Int->Int->Prop)(g:Int->Int->V):R2:=λx y H Q=> ∃i j,x=.int i/\y=.int j/\C i j/\Q (g i j) H
def Gb(g:Int->Int->V):R2:=λx y H Q=> ∃i j,x=.int i/\y=.int j/\Q (g i j) H
def rU(g:Int->V):V->Hp->VK->Prop:=λx H Q=> ∃i,x=.int i/\Q (g i) H
section
variable{X:Cx}{a b:Expr}{ta tb:TE}{pos:Pos}
def Ov(k:PE X a ta)(p:PE X b tb){s:Ŋ}{R:V->V->Hp->Prop}(I:↑2)
  (h:ta σ H λx H1=>tb σ H1 λy c=>R x y c) {Q:VP} {f:ŋ->ŋ->Sem ŋ}
  (hf: ∀v u e x y c,Inv X pins σ c e->RelV x v->RelV y u->R x y c->wpAny (model X.prog X.w) X.A (f v u) Q X.xe e):
  wpAny (model X.prog X.w) X.A (eval a X.env) (λv d=>wpAny (model X.prog X.w) X.A (eval b X.env) (λu s₂=>wpAny (model X.prog X.w) X.A (f v u) Q X.xe s₂) X.xe d) X.xe s:=by
 refine jI (k pins s σ H _ I h) λv m ⟨x,H1,I1,i,j⟩=>?_;refine jI (p pins m σ H1 _ I1 j) λu e ⟨y,c,o,q,n⟩=>?_;exact hf v u e x y c o i q n
def Wv{c:Operator}{r:R2}(ho:OpR X (binaryOp c) r)(i:PE X a ta)(m:PE X b tb):PE X (.BinOp a c b pos) (Zv r ta tb):=by intro pins s σ H Q I h;exact wpAny_BinOp (Ov i m I h λv u n x y j k e d q=>ho pins n σ j x y v u Q k e d q)
def Ww{b:UnaryOp}{r:V->Hp->VK->Prop}(ho:UnR X (unaryOp b) r)(i:PE X a ta):PE X (.UnaryOp b a pos) (tUn r ta):=by intro pins s σ H Q I h;exact UnaryOp_ (jI (i pins s σ H _ I h) λv d ⟨x,H1,I1,c,e⟩=>ho pins d σ H1 x v Q I1 c e)
def Zw{f:ŋ->ŋ->Sem ŋ}{C:Int->Int->Prop}{g:Int->Int->Int}
  (rule: ∀(i j:Int)(t u:Tok)(s:Ŋ)(Q:VP)(E:VP),C i j->Q (.int (g i j) s.toks) {s with toks:=s.toks+1}->wpAny (model X.prog X.w) X.A (f (.int i t) (.int j u)) Q E s):
  OpR X f (rI C λi j=>.int (g i j)):=by
 intro pins s σ H x y v u Q I b a h;obtain⟨i,j,rfl,rfl,c,q⟩:=h;obtain⟨t,rfl⟩:=b;obtain⟨t',rfl⟩:=a;exact rule i j t t' s _ _ c ⟨.int _,H,I.tok _,⟨_,rfl⟩,q⟩
def Gc{f:ŋ->ŋ->Sem ŋ}{g:Int->Int->Int}
  (rule: ∀(i j:Int)(t u:Tok)(s:Ŋ)(Q:VP)(E:VP),Q (.int (g i j) s.toks) {s with toks:=s.toks+1}->wpAny (model X.prog X.w) X.A (f (.int i t) (.int j u)) Q E s):
  OpR X f (Gb λi j=>.int (g i j)):=by
 intro pins s σ H x y v u Q I b a h;obtain⟨i,j,rfl,rfl,q⟩:=h;obtain⟨t,rfl⟩:=b;obtain⟨t',rfl⟩:=a;exact rule i j t t' s _ _ ⟨.int _,H,I.tok _,⟨_,rfl⟩,q⟩
def opB0{f:ŋ->ŋ->Sem ŋ}{g:Int->Int->Bool}
  (rule: ∀(i j:Int)(t u:Tok)(s:Ŋ)(Q:VP)(E:VP),Q (.bool (g i j)) s->wpAny (model X.prog X.w) X.A (f (.int i t) (.int j u)) Q E s):
  OpR X f (Gb λi j=>.bl (g i j)):=by
 intro pins s σ H x y v u Q I b a h;obtain⟨i,j,rfl,rfl,q⟩:=h;obtain⟨t,rfl⟩:=b;obtain⟨t',rfl⟩:=a;exact rule i j t t' s _ _ ⟨.bl _,H,I,rfl,q⟩
def CMul(i j:Int):Prop:=(-(2 ^ 64)<i/\i<2 ^ 64)\/(-(2 ^ 64)<j/\j<2 ^ 64)
def CMul.ok{i j:Int}(h:CMul i j):IntMulOk i j:=by
 rcases h with⟨h1,h2⟩|⟨h1,h2⟩
 .exact .of_left (intBits_le_64 h1 h2)
 .exact .of_right (intBits_le_64 h1 h2)
def Ow:OpR X (binaryOp .Add) (Gb λi j=>.int (i+j)):=Gc λ_ _ _ _ _ _ _ q=>add_int q
def Ox:OpR X (binaryOp .Sub) (Gb λi j=>.int (i - j)):=Gc λ_ _ _ _ _ _ _ q=>sub_int q
theorem Oy:OpR X (binaryOp .Mod) (rI (λ_ j=>0<j) λi j=>.int (i % j)):=Zw λi j _ _ _ _ _ a q=>by have h1:_<j:=a;exact mod_int' #[0] (by rw[Int.fmod_eq_emod_of_nonneg i #[0]];exact q)
def Oz:OpR X (binaryOp .BitAnd) (Gb λi j=>.int (Builtin.bitAnd i j)):=Gc λ_ _ _ _ _ _ _ q=>and_int q
def Wx:OpR X (binaryOp .BitOr) (Gb λi j=>.int (Builtin.bitOr i j)):=Gc λ_ _ _ _ _ _ _ q=>or_int q
def unI{f:ŋ->Sem ŋ}{g:Int->Int}
  (rule: ∀(i:Int)(t:Tok)(s:Ŋ)(Q:VP)(E:VP),Q (.int (g i) s.toks) {s with toks:=s.toks+1}->wpAny (model X.prog X.w) X.A (f (.int i t)) Q E s):
  UnR X f (rU λi=>.int (g i)):=by
 intro pins s σ H x v Q I a h;obtain⟨i,rfl,q⟩:=h;obtain⟨t,rfl⟩:=a;exact rule i t s _ _ ⟨.int (g i),H,I.tok _,⟨_,rfl⟩,q⟩
def Pa:UnR X (unaryOp .USub) (rU λi=>.int (-i)):=unI λ_ _ _ _ _ q=>neg_int q
end
section
variable{X:Cx}{a b:Expr}{ta tb:TE}{pos:Pos}
def QQ{s:Ŋ}{Q:VK}{k k':Bool}(I:↑2)(q:Q (.bl k) H)(e:k=k'):EP X pins σ Q (.bool k') s:=by subst e;exact⟨.bl k,H,I,rfl,q⟩
def Wy:OpR X (compareOp .Gt) (Gb λi j=>.bl (decide (j<i))):=opB0 λ_ _ _ _ _ _ _ q=>gt_int q
def WN:OpR X (compareOp .In) (λx y H Q=> ∃i j,x=.str i/\y=.str j/\Q (.bl (!(Builtin.Str.occurrences j i 0 j.length 1).isEmpty)) H):=by intro pins s σ H x y v u Q I b a h;obtain⟨i,j,rfl,rfl,q⟩:=h;obtain⟨t,rfl⟩:=b;obtain⟨t',rfl⟩:=a;exact in_str (QQ I q rfl)
def Gd:OpR X (compareOp .IsNot) (λx y H Q=>y=.non/\Q (.bl (!decide (x=.non))) H):=by
 intro pins s σ H x y v u Q I a b h;obtain⟨rfl,q⟩:=h;cases b;refine isnot_none_gen (QQ I q ?_)
 cases x<;>first
  |(cases a;rfl)
  |(obtain⟨t,rfl⟩:=a;rfl)
def JD:OpR X (compareOp .NotIn) (λx y H Q=> ∃i j,x=.str i/\y=.str j/\Q (.bl (!(!(Builtin.Str.occurrences j i 0 j.length 1).isEmpty))) H):=by intro pins s σ H x y v u Q I b a h;obtain⟨i,j,rfl,rfl,q⟩:=h;obtain⟨t,rfl⟩:=b;obtain⟨t',rfl⟩:=a;exact notIn_str (QQ I q rfl)
def OpR.or{f:ŋ->ŋ->Sem ŋ}{r a:R2}(h:OpR X f r)(h':OpR X f a):OpR X f (λx y H Q=>r x y H Q\/a x y H Q):=by
 intro pins s σ H x y v u Q I c b q;rcases q with q|q
 .exact h pins s σ H x y v u Q I c b q
 .exact h' pins s σ H x y v u Q I c b q
def ZW(b:Expr){a:CmpOp}(h:a≠.In:=by decide)(d:a≠.NotIn:=by decide):behindInMarks a b=false:=by
 have e:(a==CmpOp.In)=false:=by cases a<;>first |rfl|exact absurd rfl h
 have c:(a==CmpOp.NotIn)=false:=by cases a<;>first |rfl|exact absurd rfl d
 cases b<;>simp[behindInMarks,e,c]
def Ge{c:CmpOp}{r:R2}(ho:OpR X (compareOp c) r)(i:PE X a ta)(n:PE X b tb)(m:behindInMarks c b=false):PE X (.Compare a [c] [b] pos) (Zv r ta tb):=by intro pins s σ H Q I h;exact wpAny_Compare1 (Ov i n I h λv u o x y j k e d q=>ho pins o σ j x y v u Q k e d q) m
def Wz(t:TE):TT:=λσ H Q=>t σ H λx H'=> ∃k,x=.bl k/\Q k H'
def Gf{d:CmpOp}{r:R2}(ho:OpR X (compareOp d) r)(n:PE X a ta)(E:PE X b tb)(D:behindInMarks d b=false):PT X (.Compare a [d] [b] pos) (Wz (Zv r ta tb)):=by
 intro pins s σ H Q I h
 refine wpAny_isTrue_Compare1 (jI (n pins s σ H _ I h) λv q ⟨x,H1,I1,i,j⟩=>jI (E pins q σ H1 _ I1 j) λu G ⟨y,o,C,F,w⟩=>
  jI (ho pins G σ o x y v u _ C i F w) λc J ⟨z,A,p,m,k,e,B⟩=>?_) D
 subst e;cases m;exact Ķ ⟨A,p,B⟩
def Pb(K:B9)(x:V)(H:Hp)(k:Bool):Prop:=
 match x with
 |.non=>k=false
 |.bl b=>k=b
 |.int i=>k=(i !=0)
 |.str y=>y.length<=sizeLine/\k=((y.length:Int) !=0)
 |.byt y=>y.size<=sizeLine/\k=((y.size:Int) !=0)
 |.ref p=>(∃xs,SqL K H p xs/\k= !xs.isEmpty)\/(∃xs,SqT K H p xs/\k= !xs.isEmpty)\/ ∃kvs,H p=some (.dK kvs)/\k= !kvs.isEmpty
 |_=>False
theorem QR{a:Type}{kvs:List (a×V)}{vs:List (a×ŋ)}(r:KV kvs vs):(!vs.isEmpty)= !kvs.isEmpty:=by cases r<;>rfl
def DR{xs:List V}{its:A0}(r:Vals xs its):(!its.toArray.isEmpty)= !xs.isEmpty:=by cases r<;>simp
def sO:(sizeLine:Nat)<2 ^ 63:=by rw[Ĕ];decide
theorem Pc:TruR X (λx H Q=> ∃k,Pb X.K x H k/\Q k H):=by
 intro pins s σ H x v Q I d h;obtain⟨k,e,q⟩:=h;have w:=sO;have hs:=Ĕ
 cases x with
 |non=>
  cases d;have a:=e;subst a;exact truthy_none ⟨H,I,q⟩
 |bl b=>
  cases d;have a:=e;subst a;exact Ķ ⟨H,I,q⟩
 |int i=>
  obtain⟨t,rfl⟩:=d;have a:k=_:=e;subst a;exact PySem.P.truthy_int ⟨H,I,q⟩
 |str y=>
  obtain⟨t,rfl⟩:=d;obtain⟨u,a⟩:y.length<=sizeLine/\k=_:=e;subst a;exact PySem.P.truthy_str #[0] ⟨H,I.tok _,q⟩
 |byt y=>
  obtain⟨t,rfl⟩:=d;obtain⟨u,a⟩:y.size<=sizeLine/\k=_:=e;subst a;exact PySem.W.truthy_bytes #[0] ⟨H,I.tok _,q⟩
 |ref p=>
  cases d;have a:_\/_\/ ∃kvs,H p=some (.dK kvs)/\k= !kvs.isEmpty:=e;rcases a with⟨xs,hx,a⟩|⟨xs,hx,a⟩|⟨kvs,hx,a⟩
  .subst a;obtain⟨its,r,j,n⟩:=I.list hx;have c:=r.length;exact wpAny_truthy_list j.isList (by simp only[sA0];lia) ⟨H,I.tok _,by rw[DR r];exact q⟩
  .subst a;obtain⟨its,r,j,n⟩:=I.tuple hx;have c:=r.length;exact truthy_tuple j (by simp only[sA0];lia) ⟨H,I.tok _,by rw[DR r];exact q⟩
  .subst a;obtain⟨n,o,vs,r,m⟩:kvs.length<=sizeLine/\_=false/\ ∃vs,KV kvs vs/\s.heap.DictOf _ p vs:=I.hok p _ hx;have c:kvs.length=vs.length:=Paired.length r;exact wpAny_truthy_dict o m #[0] ⟨H,I.tok _,by rw[QR r];exact q⟩
 |_=>exact e.elim
def ZX(i:PE X a ta)(d: ∀b,isTrue a X.env b=(do let v <-b;standAt a.pos;holding [v] (truthy v))):
  PT X a (λσ H Q=>ta σ H λx H'=> ∃k,Pb X.K x H' k/\Q k H'):=by
 intro pins s σ H Q I h;exact isTrue_plain (jI (i pins s σ H _ I h) λv j ⟨x,H1,I1,c,e⟩=>Pc pins j σ H1 x v Q I1 c e) (d _)
def QS:OpR X (binaryOp .Add) (λx y H Q=> ∃i j,x=.str i/\y=.str j/\i.length+j.length<=sizeLine/\Q (.str (i++j)) H):=by intro pins s σ H x y v u Q I b a h;obtain⟨i,j,rfl,rfl,c,q⟩:=h;obtain⟨t,rfl⟩:=b;obtain⟨t',rfl⟩:=a;exact add_str (λt' d=>⟨.str _,H,I.tok _,⟨_,rfl⟩,q⟩) c
def vals1{x:V}(r:Vals [x] us): ∃u,us=[u]/\RelV x u:=by
 cases r with
 |cons r1 r2=>cases r2;exact⟨_,rfl,r1⟩
def vals2{x y:V}(r:Vals [x,y] us): ∃u a,us=[u,a]/\RelV x u/\RelV y a:=by
 cases r with
 |cons r1 r2=>
  cases r2 with
  |cons r3 r4=>cases r4;exact⟨_,_,rfl,r1,r3⟩
def WO:CallR X (.type "int") (λxs H Q=>(∃i,xs=[.int i]/\Q (.int i) H)\/ ∃k,xs=[.bl k]/\Q (.int (if k then 1 else 0)) H):=by
 intro pins s σ H xs us Q I r h;rcases h with⟨i,rfl,q⟩|⟨k,rfl,q⟩
 .obtain⟨u,rfl,t,rfl⟩:=vals1 r;exact call_int_int ⟨.int i,H,I,⟨_,rfl⟩,q⟩
 .obtain⟨u,rfl,a⟩:=vals1 r;cases a;exact call_int_bool ⟨.int (if k then 1 else 0),H,I.tok _,⟨_,rfl⟩,q⟩
end
structure Cls(K:B9)(C:Addr):Prop where
 pg:PySem.W.plainGet K C Str.empty=true
 hd:PySem.W.hasDictIn K C=true
 po:PySem.W.plainOver K C=true
 sa:PySem.W.findIn K (.ref C) "__setattr__"=some (some (.builtin "object.__setattr__"))
section
variable{H:Hp}
inductive rP(K:B9)(H:Hp):V->ŋ->Prop where
 |non:rP K H .non (.type "NoneType")
 |bl (x:Bool):rP K H (.bl x) (.type "bool")
 |int (i:Int):rP K H (.int i) (.type "int")
 |str (x:Str):rP K H (.str x) (.type "str")
 |flt (x:UInt64):rP K H (.flt x) (.type "float")
 |lst {a:Addr} {xs:List V} (e:H a=some (.lst xs)):rP K H (.ref a) (.type "list")
 |frz {a:Addr} {o:Obj} {xs:List V} (e:H a=some (.frz o (.lst xs))):rP K H (.ref a) (.type "list")
 |tup {a:Addr} {xs:List V} (e:H a=some (.tup xs)):rP K H (.ref a) (.type "tuple")
 |dK {a:Addr} {kvs:List (Key×V)} (e:H a=some (.dK kvs)):rP K H (.ref a) (.type "dict")
 |dT {a:Addr} {kvs:List (List Key×V)} (e:H a=some (.dT kvs)):rP K H (.ref a) (.type "dict")
 |ins {a C dx:Addr} {fs:List (Str×V)} (e:H a=some (.ins C dx fs)) (cl:Cls K C) (ha:PySem.W.findIn K (.ref C) "__class__"=some (some (.builtin "object.__class__")))
   (hn:PySem.W.specialIn K (.builtin "object.__class__") "__get__"=some (some (.builtin "getset_descriptor.__get__"))) (htk:PySem.W.takesIn K (.builtin "object.__class__")=some true)
   (hm:PySem.W.mroIn K C (.type "object")=some true):rP K H (.ref a) (.ref C)
end
structure Room(k:Nat)(A:Ō):Prop where
 hd:A.handled=none
 dp:A.depth+3 * k+5<recursionLimit
 un:A.units+16 * k+200<cLine
theorem Room.mono{j k:Nat}{A:Ō}(r:Room k A)(h:j<=k):Room j A:=⟨r.hd,by have:=r.dp;lia,by have:=r.un;lia⟩
theorem Room.deeper{k:Nat}{A:Ō}(r:Room (k+1) A)(a:Env):Room k (A.deeper a):=
 ⟨r.hd,by have:=r.dp;show A.depth+1+3 * k+5<_;lia,by have:=r.un;show A.units+3+16 * k+200<_;lia⟩
theorem Room.in1{k:Nat}{A:Ō}(r:Room (k+1) A):Room k A.in1:=
 ⟨r.hd,by have:=r.dp;show A.depth+3 * k+5<_;lia,by have:=r.un;show A.units+1+16 * k+200<_;lia⟩
def Room.depth{k:Nat}{A:Ō}(r:Room k A):A.depth<recursionLimit:=by have:=r.dp;omega
def Room.units{k:Nat}{A:Ō}(r:Room k A):A.units+64<cLine:=by have:=r.un;omega
def tNil:TA:=λ_ H Q=>Q [] H
def Xa(ta:TE)(tr:TA):TA:=λσ H Q=>ta σ H λx H1=>tr σ H1 λxs a=>Q (x::xs) a
section
variable{X:Cx}{e:Expr}{es:B8}{te:TE}{t:TA}{pos:Pos}
def Pd:PA X [] tNil:=λ_ _ _ _ H Q I h=>Calls.spliced_nil ⟨[],H,I,.nil,h⟩
abbrev q9(X:Cx)(e:Expr)(es:List Expr):Prop:=starEach (e::es) X.env=(false,eval e X.env)::starEach es X.env
def Gg(d:PE X e te)(b:PA X es t)(hs:q9 X e es:=by rfl):PA X (e::es) (Xa te t):=by intro pos pins s σ H Q I h;rw[hs];show wpAny _ _ _ _ _ s;refine Calls.spliced_cons (jI (d pins s σ H _ I h) λu j ⟨x,H1,I1,a,c⟩=>?_);exact jI (b pos pins j σ H1 _ I1 c) λus o ⟨xs,i,m,n,k⟩=>⟨_,i,m,.cons a n,k⟩
def tTup(t:TA):TE:=λσ H Q=>t σ H λxs H1=>xs.length<=sizeLine/\ ∀p,H1 p=none->Q (.ref p) (xU H1 p (.tup xs))
def tLst(t:TA):TE:=λσ H Q=>t σ H λxs H1=>xs.length<=sizeLine/\ ∀p,H1 p=none->Q (.ref p) (xU H1 p (.lst xs))
def Pe{x1}(h:PA X es t):PE X (.Tuple es x1 pos) (tTup t):=by intro pins s σ H Q I c;refine wpAny_Tuple_spliced (jI (h pos pins s σ H _ I c) λus d ⟨xs,H1,I1,r,z,q⟩=>⟨by rw[<-r.length];exact z,?_⟩);have a:=I1.hok.fresh (à _);refine⟨.ref d.heap.objs.size,_,I1.laid (λb u e=>hP0 _ e) (à _) ?_,rfl,q _ a⟩;exact⟨z,us,r,⟨_,ã _ rfl,rfl,_,rfl⟩⟩
def Pf(h:PA X es t):PE X (.List es pos) (tLst t):=by intro pins s σ H Q I c;refine wpAny_List_spliced (jI (h pos pins s σ H _ I c) λus d ⟨xs,H1,I1,r,z,q⟩=>⟨by rw[<-r.length];exact z,?_⟩);have a:=I1.hok.fresh (à _);refine⟨.ref d.heap.objs.size,_,I1.laid (λb u e=>hP0 _ e) (à _) ?_,rfl,q _ a⟩;exact⟨z,us,0,r,ã _ rfl⟩
end
abbrev Sp:=List V->Hp->VK->XK->Prop
abbrev WP:=List Env->Hp->Shared->XK->VP
structure Env0(P:ō)(w:World)(K:B9)(mg:B3)(base:Heap)(A:Ō)(outer:List Env)(s:Ŋ)(H:Hp):Prop where
 frames:A.frames=some outer
 mod:Mod K mg base
 bs: ∀b o,base.get? b=some o->s.heap.get? b=some o/\H b=none
 bsz:base.objs.size<=↑0
 funs:s.heap.FunFrames base outer
 frf: ∀b∈WK outer,H b=none
 hok:HOk P w H s.heap
 bare:AllBare s.gens
def CE(a:List Env)(P:ō)(w:World)(H:Hp)(s:Ŋ)(Q:VK)(u:ŋ)(s':Ŋ):Prop:=
 ∃v H',s'.os=s.os/\AllBare s'.gens/\Un (WK a) [] H H' s.heap s'.heap/\HOk P w H' s'.heap/\RelV v u/\Q v H'
def CR(CX:WP)(a:List Env)(P:ō)(w:World)(H:Hp)(s:Ŋ)(Q:VK)(E:XK)(r:Result)(s':Ŋ):Prop:=
 match r with
 |.ok (.ret u)=>CE a P w H s Q u s'
 |.ok _=>False
 |.error e=>CX a H s E e s'
structure FnOk(P:ō)(w:World)(K:B9)(mg:B3)(base:Heap)(CX:WP)(k:Nat)(f:Addr)(fd:FuncData)(ps:B0)(sp:Sp):Prop where
 len: ∀vs H Q E,sp vs H Q E->vs.length=ps.length
 run: ∀(A:Ō)(outer:List Env)(s:Ŋ)(H:Hp)(args:Args)(us:A0)(vs:List V)(Q:VK)(E:XK),Room k A->Env0 P w K mg base A outer s H->BindsTo s fd args (ps.zip us)->Vals vs us->sp vs H Q E->
  codeAny (model P w) A (.call (.ref f) args) (CR CX outer P w H s Q E) s
def FnOk.imp{P:ō}{w:World}{K:B9}{mg:B3}{base:Heap}{CX:WP}{k:Nat}{f:Addr}{fd:FuncData}{ps:B0}{sp c:Sp}(F:FnOk P w K mg base CX k f fd ps sp)
  (h: ∀vs H Q E,c vs H Q E->sp vs H Q E):FnOk P w K mg base CX k f fd ps c:=
 ⟨λvs H Q E q=>F.len vs H Q E (h _ _ _ _ q),λA a s H b us vs Q E d e j i hs=>F.run A a s H b us vs Q E d e j i (h _ _ _ _ hs)⟩
def Env0.in1{P:ō}{w:World}{K:B9}{mg:B3}{base:Heap}{A:Ō}{a:List Env}{s:Ŋ}(e:Env0 P w K mg base A a s H):
  Env0 P w K mg base A.in1 a s H:=⟨e.frames,e.mod,e.bs,e.bsz,e.funs,e.frf,e.hok,e.bare⟩
section
variable{X:Cx}{pins:B5}{σ:St}{H:Hp}{s s':Ŋ}
def Inv.env0(I:↑2):Env0 X.prog X.w X.K X.mg X.base X.A X.stack s H:=
 ⟨I.ok.frames,I.ok.mod,I.bs,õ I.ok.bsz I.sz,I.stack,I.stkFree,I.hok,I.bare⟩
def Inv.after{Q:VK}{u:ŋ}(I:↑2)(h:CE X.stack X.prog X.w H s Q u s'):EP X pins σ Q u s':=by obtain⟨v,H',i,a,un,e,r,q⟩:=h;obtain⟨j,g,d,t,c⟩:=s';obtain rfl:c=s.os:=i;exact⟨v,H',I.call un e a (λb z=>absurd z (by simp)),r,q⟩
end
def Xb(sp:Sp)(dvs:List V)(E:XK)(t:TA):TE:=λσ H Q=>t σ H λvs H1=>sp (vs++dvs) H1 Q E
def Binds(K:B9)(fd:FuncData)(ps:B0)(ds:A0):Prop:=
 ∀(s:Ŋ)(us:A0),K.In s.heap->(us++ds).length=ps.length->BindsTo s fd ⟨us,[]⟩ (ps.zip (us++ds))
def Binds.all{K:B9}{fd:FuncData}{ps:B0}(h: ∀us:List ŋ,us.length=ps.length->bindArgs fd ⟨us,[]⟩=pure (ps.zip us)):Binds K fd ps []:=λs us _ a=>by rw[aN]at a ⊢;exact .of_eq (h us a)
def QT(CX:WP)(X:Cx)(E:XK):Prop:= ∀(pins:B5)(σ:St)(H:Hp)(s:Ŋ)(e:ŋ)(s':Ŋ),Inv X pins σ H s->CX X.stack H s E e s'->X.xe e s'
section
variable{X:Cx}{CX:WP}{k:Nat}{f:Addr}{fd:FuncData}{ps:B0}{sp:Sp}{dvs:List V}{ds:A0}{E:XK}{x:Str}{p pos:Pos}{e:Expr}{es:B8}{t:TA}
def Pg{s:Ŋ}{Q:VK}{vs:List V}(F:FnOk X.prog X.w X.K X.mg X.base CX k f fd ps sp)(d:Room k X.A)(i:Binds X.K fd ps ds)(hd:Vals dvs ds)(j:QT CX X E)
  (I:↑2) (r:Vals vs us) (h:sp (vs++dvs) H Q E):wpAny (model X.prog X.w) X.A (call (.ref f) us) (EP X pins σ Q) X.xe s:=by
 have b:Vals _ _:=r.append hd;have c:(us++ds).length=ps.length:=by rw[<-b.length];exact F.len _ _ _ _ h
 refine wpAny_call (codeAny_mono (F.run X.A X.stack s H ⟨us,[]⟩ _ _ Q E d I.env0 (i s us I.kIn c) b h) λr s' a=>?_)
 cases r with
 |error e=>exact j pins σ H s e s' I a
 |ok fl=>
  cases fl with
  |ret u=>exact I.after a
  |next=>exact False.elim a
  |brk=>exact False.elim a
  |cont=>exact False.elim a
abbrev Q0(X:Cx)(p:Pos)(es:List Expr):Prop:=(backTo p (starEach es X.env)).any (·.1)=false
def Gh(F:FnOk X.prog X.w X.K X.mg X.base CX k f fd ps sp)(b:Room k X.A)(a:Gl X x)(i:X.mg x=some (.ref f))(d:PySem.W.keepIn X.K (.ref f)=true)(j:Binds X.K fd ps ds)(hd:Vals dvs ds)(c:QT CX X E)
  (ha:PA X (e::es) t) (hdb:(x==("__debug__":Str))=false:=by decide) (he:q9 X e es:=by rfl) (hpl:Q0 X pos es:=by rfl):
  PE X (.Call (.Name x p) (e::es) [] pos) (Xb sp dvs E t):=by
 intro pins s σ H Q I h;refine wpAny_Call_Name_kw (JC I a i ?_ hdb);refine PySem.W.callWith_K I.ok.mod.kin d (jI (ha pos pins s σ H _ I h) λus m ⟨vs,H1,I1,r,q⟩=>⟨I1.kIn,?_⟩) he hpl;exact Pg F b j hd c I1 r q
end
structure FnScope(N P:B0)(sc:Scope):Prop where
 kind:sc.kind=.function
 co:sc.isCoroutine=false
 gen:sc.isGenerator=false
 nd:N.Nodup
 pre:N.take P.length=P
 par: ∀x∈P,sc.names.lookup x=some .local\/sc.names.lookup x=some .cell
 nofree: ∀y∈sc.names,y.2≠.free
theorem HA{a:Str->Option NameKind}{x:Str}: ∀{binds:List (Str×ŋ)}{m:B3},(∀v,(x,v)∉binds)->bindL a binds m x=m x
 |[],_,_=>rfl
 |(n,v)::r,m,h=>by
  unfold bindL;rw[HA λw hw=>h w (mO _ hw)];split
  .have:x≠n:=by rintro rfl;exact h v mF0
   simp[this]
  .rfl
theorem HB{a:Str->Option NameKind}{x:Str}: ∀{binds:List (Str×ŋ)}{m:B3},(∀v,(x,v)∉binds)->bindC a binds m x=m x
 |[],_,_=>rfl
 |(n,v)::r,m,h=>by
  unfold bindC;rw[HB λw hw=>h w (mO _ hw)];split
  .rfl
  .have:x≠n:=by rintro rfl;exact h v mF0
   simp[this]
theorem HC{a:Str->Option NameKind}{x:Str}{v:ŋ}: ∀{P:B0}{vs:A0}{i:Nat}{m:B3},P.Nodup->P[i]? =some x->vs[i]? =some v->a x=some .local->
  bindL a (P.zip vs) m x=some v
 |[],_,_,_,_,h,_,_=>by simp at h
 |_::_,[],_,_,_,_,h,_=>by simp at h
 |p::P,w::vs,0,m,nd,h1,h2,hk=>by simp at h1 h2;subst h1;subst h2;show bindL a (_::P.zip vs) m p=_;unfold bindL;rw[HA λv b=>(nodup_cons.mp nd).1 (of_mem_zip b).1,iP hk];simp
 |p::P,w::vs,i+1,m,nd,h1,h2,hk=>by show bindL a _ m x=_;unfold bindL;exact HC (nodup_cons.mp nd).2 (by simpa using h1) (by simpa using h2) hk
theorem HD{a:Str->Option NameKind}{x:Str}{v:ŋ}: ∀{P:B0}{vs:A0}{i:Nat}{m:B3},P.Nodup->P[i]? =some x->vs[i]? =some v->a x≠some .local->
  bindC a (P.zip vs) m x=some v
 |[],_,_,_,_,h,_,_=>by simp at h
 |_::_,[],_,_,_,_,h,_=>by simp at h
 |p::P,w::vs,0,m,nd,h1,h2,hk=>by simp at h1 h2;subst h1;subst h2;show bindC a (_::P.zip vs) m p=_;unfold bindC;rw[HB λv b=>(nodup_cons.mp nd).1 (of_mem_zip b).1,iN hk];simp
 |p::P,w::vs,i+1,m,nd,h1,h2,hk=>by show bindC a _ m x=_;unfold bindC;exact HD (nodup_cons.mp nd).2 (by simpa using h1) (by simpa using h2) hk
noncomputable def start(N:B0)(vs:List V):St:=vs.map some++List.replicate (N.length - vs.length) none
noncomputable def JE(CX:WP)(P:ō)(w:World)(K:B9)(mg:B3)(base:Heap)(N:B0)(qual:Str)(scope:Scope)(f:Addr)(cd:ŋ)(A:Ō)(outer:List Env)(s:Ŋ)(H:Hp)(E:XK):Cx where
 prog:=P
 w:=w
 K:=K
 mg:=mg
 base:=base
 A:=A.deeper (envOfC qual scope ↑0 f cd)
 N:=N
 s₀:=s
 H₀:=H
 env:=envOfC qual scope ↑0 f cd
 outer:=outer
 stack:=envOfC qual scope ↑0 f cd::outer
 ex:=[]
 calm:=true
 fn:=λ_=>true
 pn:=[]
 xe:=λe s'=>wpAny (model P w) (A.deeper (envOfC qual scope ↑0 f cd)) (leaving (envOfC qual scope ↑0 f cd) e) (λ_ s''=>CX outer H s E e s'') (λe' s''=>CX outer H s E e' s'') s'
def MZ{sc:Scope}{n:Nat}{x:Str}(h:sc.names.lookup x=some .cell): ∃c,(cellsFrom n sc.names []).lookup x=some c:=by have q:=PySem.W.cellsFrom_some sc.names n [] (.inl h);exact ï.mp q
theorem WQ{CX:WP}{P:ō}{w:World}{K:B9}{mg:B3}{base:Heap}{N ps:B0}{qual:Str}{d:Scope}{f:Addr}{cd:ŋ}{A:Ō}{j:List Env}{s G:Ŋ}{E:XK}{vs:List V}
  (S:FnScope N ps d) (hd:A.handled=none) (e0:Env0 P w K mg base A j s H) (hl:vs.length=ps.length) (r:Vals vs us)
  (x:InCallC s ↑0 (bindL (envOfC qual d ↑0 f cd).kindOf (ps.zip us) λ_=>none) (cellsFrom (↑0+1) d.names []) (bindC (envOfC qual d ↑0 f cd).kindOf (ps.zip us) λ_=>none) G):
  Inv (JE CX P w K mg base N qual d f cd A j s H E) [] (start N vs) H G:=by
 have L:=by have:=congrArg List.length S.pre;rw[lT]at this;omega
 obtain⟨h1,M,rfl,D⟩:=x.done;have n: ∀b:Addr,b∉(JE CX P w K mg base N qual d f cd A j s H E).ex:=λb z=>absurd (show b∈([]:A9)from z) (by simp)
 refine⟨⟨e0.mod,S.kind,rfl,rfl,à _,λy z c h1 m=>?_,λy o=>?_,λy c _ h=>?_,λ_=>hd,Around.frames_deeper e0.frames,.inr ⟨rfl,rfl⟩,λb z=>absurd z (n b),e0.bs,e0.bsz,λb _ _=>n b,λb z=>absurd z (n b),e0.funs,e0.frf⟩,
  rfl,e0.bare,Un.kept D,⟨_,x.toInCall.ns,λi y v h1 m O=>?_⟩,λy c h=>⟨_,x.cell y c h⟩,e0.hok.fresh (à _),λy c h=>?_,λp B=>absurd (show p∈([]:List _)from B) (by simp),e0.hok.kept D,?_⟩
 .exact name_of_addr x.apart (PySem.mem_of_lookup h1) (PySem.mem_of_lookup m)
 .have o:=o;rcases o with o|o
  .exact MZ o
  .exact absurd rfl (S.nofree _ (PySem.mem_of_lookup o))
 .exact le_of_lt (x.above y c (PySem.mem_of_lookup h))
 .have hi:i<vs.length:=by
   unfold start at m;by_cases hi:i<vs.length
   .exact hi
   .rw[æ (by simpa using hi)]at m;rw[List.getElem?_replicate]at m;split at m<;>cases m
  have J:vs[i]? =some v:=by
   unfold start at m;rw[á (by simpa using hi),ö]at m
   cases e:vs[i]? with
   |none=>rw[e]at m;cases m
   |some a=>rw[e]at m;cases m;rfl
  obtain⟨u,F,I⟩:=r.get J;have B:ps[i]? =some y:=by rw[<-S.pre,Ī (by omega)];exact h1
  have C:ps.Nodup:=by rw[<-S.pre];exact S.nd.sublist (List.take_sublist _ _)
  refine⟨u,I,?_⟩;rcases S.par y (è B)with k|k
  .exact .inl ⟨k,HC C B F k⟩
  .obtain⟨c,e⟩:=MZ k;refine .inr ⟨.inl k,c,e,?_⟩;have q:=x.cell y c e;rw[HD C B F (by show d.names.lookup y≠_;rw[k];decide)]at q;exact q
 .exact e0.hok.fresh (le_of_lt (x.above y c (PySem.mem_of_lookup h)))
 .unfold start;show _=N.length;rw[lA,lM,Ċ]
  lia
def fn_of{CX:WP}{P:ō}{w:World}{K:B9}{mg:B3}{base:Heap}{k:Nat}{f:Addr}{name qual:Str}{h:Arguments}{body:List Stmt}{a:Scope}{F kV m G d ct oc:ŋ}{M od:Option Addr}
  {osl:Array (Option ŋ)} {N ps:B0} {sp:Sp} (lk:K.lookup f=some ⟨oc,od,.func (PySem.W.fnOf name qual h body a F kV m G M d ct),osl⟩) (hcd:PySem.W.codeIn K d qual=true) (S:FnScope N ps a)
  (len: ∀vs H Q E,sp vs H Q E->vs.length=ps.length)
  (hbody: ∀(A:Ō)(c:List Env)(s:Ŋ)(H:Hp)(vs:List V)(Q:VK)(E:XK),Room k (A.deeper (envOfC qual a ↑0 f d))->sp vs H Q E->
   ∃t,PSs (JE CX P w K mg base N qual a f d A c s H E) body t/\t {nx:=λ_ H'=>Q .non H',rt:=Q} (start N vs) H):
  FnOk P w K mg base CX (k+1) f (PySem.W.fnOf name qual h body a F kV m G M d ct) ps sp:=by
 refine⟨len,λA c s H L us vs Q E C p U r z=>?_⟩;have hl:=len _ _ _ _ z;have KX:=p.mod.kin.keeps λb o e=>(p.bs b o e).1;have D:=p.mod.nolimit.keeps λb o e=>(p.bs b o e).1
 have j: ∀y∈ps.zip us,a.names.lookup y.1=some .local\/(a.names.lookup y.1=some .cell/\((cellsFrom (↑0+1) a.names []).lookup y.1).isSome=true):=λ⟨n,v⟩ hy=>by
  rcases S.par n (of_mem_zip hy).1 with q|q
  .exact .inl q
  .exact .inr ⟨q,PySem.W.cellsFrom_some _ _ _ (.inl q)⟩
 refine codeAny_call_function C.depth (KX _ _ lk) rfl S.co S.gen rfl (PySem.W.codeRec_of KX hcd) (U _ _ _ _ ?_);refine wpAny_newFunctionEnv_cells S.kind j λX Y O x=>?_;subst Y;refine⟨D.keeps x.toInCall.keep,codeAny_func ?_⟩;obtain⟨t,ht,Z⟩:=hbody A c s H vs Q E (C.deeper _) z;have I:Inv (JE CX P w K mg base N qual a f d A c s H E) [] _ H O:=WQ S C.hd p hl r x;refine û (ht [] O _ H _ I Z) (λT s' hs=>?_) λe s' hs=>hs
 have fin: ∀{i:St}{H':Hp}{v:V}{u:ŋ},Inv (JE CX P w K mg base N qual a f d A c s H E) [] i H' s'->RelV v u->Q v H'->CE c P w H s Q u s':=
  λ{i H' v u} J B q=>⟨v,H',J.os,J.bare,J.base,J.hok,B,q⟩
 cases T with
 |ret u=>
  obtain⟨v,i,H',J,B,q⟩:=hs;exact fin J B q
 |next=>
  obtain⟨i,H',J,q⟩:=hs;exact fin (v:=V.non) J rfl q
 |brk=>
  obtain⟨_,_,_,q⟩:=hs;exact False.elim q
 |cont=>
  obtain⟨_,_,_,q⟩:=hs;exact False.elim q
section
variable{X:Cx}{x:Str}{p pos:Pos}{e:Expr}{es:B8}{t:TA}{id T:String}{r:List V->Hp->VK->Prop}
def tCB(r:List V->Hp->VK->Prop)(t:TA):TE:=λσ H Q=>t σ H λvs H1=>r vs H1 Q
def ZY(k:CallR X (.builtin id) r)(c:Gl X x)(n:X.mg x=none)(m:bootBuiltins x=some (.builtin id))(i:PA X (e::es) t)(o:x≠"__name__":=by decide)(a:(x==("__debug__":Str))=false:=by decide)
  (he:q9 X e es:=by rfl) (hpl:Q0 X pos es:=by rfl):PE X (.Call (.Name x p) (e::es) [] pos) (tCB r t):=by
 intro pins s σ H Q I h;refine wpAny_Call_Name_kw (mQ I c n m ?_ o a);exact PyProof.Rows.callWith_builtin1 (jI (i pos pins s σ H _ I h) λus j ⟨vs,H1,I1,b,d⟩=>k pins j σ H1 vs us Q I1 b d) he hpl
def WR(k:CallR X (.type T) r)(c:Gl X x)(n:X.mg x=none)(m:bootBuiltins x=some (.type T))(i:PA X (e::es) t)(o:x≠"__name__":=by decide)(a:(x==("__debug__":Str))=false:=by decide)
  (he:q9 X e es:=by rfl) (hpl:Q0 X pos es:=by rfl):PE X (.Call (.Name x p) (e::es) [] pos) (tCB r t):=by
 intro pins s σ H Q I h;refine wpAny_Call_Name_kw (mQ I c n m ?_ o a);exact Č (jI (i pos pins s σ H _ I h) λus j ⟨vs,H1,I1,b,d⟩=>k pins j σ H1 vs us Q I1 b d) he hpl
end
end L2
namespace HT
open PySem PyProof.Rows
section
variable{prog:ō}{w:World}{A:Ō}{E:VP}{s:Ŋ}
def cat_tup{t b:Addr}{vs ws:A0}{Q:VP}(u:IsTup s.heap t vs.toArray)(q:IsTup s.heap b ws.toArray)(p:vs≠[])
  (h1:ws=[]->Q (.ref t) s) (h2:ws≠[]->Q (.ref ↑0) {s with heap:=s.heap.push {cls:=.type "tuple",data:=.seq (vs++ws).toArray}})
  (hsz:vs.length+ws.length<=sizeLine):wpAny (model prog w) A (binaryOp .Add (.ref t) (.ref b)) Q E s:=by
 obtain⟨⟨cls,k,data,sl⟩,h,r,n,hd⟩:=id u;obtain⟨⟨m,c,_,d⟩,a,i,o,j⟩:=id q;subst r hd i j;have e:vs.toArray++ws.toArray=(vs++ws).toArray:=by simp
 by_cases hw:ws=[]
 .exact concat_meets ⟨_,h,rfl⟩ ⟨_,a,rfl⟩ noFill_tuple_add seq_tuple_add PySem.F.slot_tuple_add PySem.F.entry_tuple_add (PySem.F.args_tuple_add_2 _ _)
   (tuple_addW1 t b vs.toArray ws.toArray n o k c sl d (by simpa using p) (by simp[hw])) ⟨h,a,h1 hw⟩
 .refine concat_meets ⟨_,h,rfl⟩ ⟨_,a,rfl⟩ noFill_tuple_add seq_tuple_add PySem.F.slot_tuple_add PySem.F.entry_tuple_add (PySem.F.args_tuple_add_2 _ _)
   (tuple_addW2 t b vs.toArray ws.toArray n o k c sl d (by simpa using p) (by simpa using hw) (by rw[sA0];exact hsz)) ⟨h,a,?_⟩
  rw[e];exact h2 hw
noncomputable def sIx(n d:Nat):Option Int->Nat
 |none=>d
 |some v=>if v<0 then(v+(n:Int)).toNat else min v.toNat n
theorem sIx_nat(n d k:Nat):sIx n d (some (k:Int))=min k n:=by show(if(k:Int)<0 then((k:Int)+(n:Int)).toNat else min (k:Int).toNat n)=min k n;rw[iN #[0],Ď]
theorem sIx_le(n d:Nat)(hd:d<=n)(o:B7):sIx n d o<=n:=by
 cases o with
 |none=>exact hd
 |some v=>
  show(if v<0 then(v+_).toNat else min v.toNat n)<=n;by_cases a:v<0
  .rw[iP a];lia
  .rw[iN a];exact Nat.min_le_right _ _
theorem SY(v:Int)(n d:Nat):(if v<0 then max (v+(n:Int)) 0 else min v (n:Int))=((sIx n d (some v):Nat):Int):=by
 show _=(((if v<0 then(v+_).toNat else min v.toNat n):Nat):Int)
 by_cases a:v<0
 .simp only[iP a];lia
 .simp only[iN a];lia
theorem QU(lo hi:B7)(n:Nat):Builtin.Slice.sliceAdjust lo hi 1 (n:Int)=(((sIx n 0 lo:Nat):Int),((sIx n n hi:Nat):Int)):=by
 have h1: ¬((1:Int)<0):=by lia
 unfold Builtin.Slice.sliceAdjust;refine Prod.ext ?_ ?_
 .cases lo with
  |none=>rfl
  |some v=>exact SY v n 0
 .cases hi with
  |none=>rfl
  |some v=>exact SY v n n
theorem QV(i j:Nat):Builtin.Slice.slicePlaces (i:Int) (j:Int) 1=j - i:=by
 unfold Builtin.Slice.slicePlaces;have h1:(1:Int)>0:=by lia
 split<;>lia
def DS{v:ŋ}{o:B7}{Q:Option Int->Ŋ->Prop}(p:IsPart v o)(h:Q o s):wpAny (model prog w) A (Builtin.Slice.slicePartIndex v) Q E s:=by
 cases p with
 |none=>exact slicePart_none h
 |int i t=>exact slicePart_int h
def sliceApplied_gen{sl:Addr}{c d:ŋ}{lo hi:B7}{n:Nat}{Q:Int×Int×Nat->Ŋ->Prop}(hs:s.heap.IsSliceOf sl c d .none)(j:IsPart c lo)(i:IsPart d hi)
  (h:Q (((sIx n 0 lo:Nat):Int),1,sIx n n hi - sIx n 0 lo) s):wpAny (model prog w) A (Builtin.Slice.sliceApplied (.ref sl) (pure (n:Int))) Q E s:=by
 obtain⟨k,b,e,a⟩:=id hs;refine wB (wB (ñ b a rfl (wB (ñ b a rfl (wB (ñ b a rfl (wP ?_)))))));refine wB (slicePart_none ?_);show wpAny _ _ _ _ _ s;refine wB (DS j (wB (DS i (wB (wP ?_)))));show wpAny _ _ (match Builtin.Slice.sliceAdjust lo hi 1 _ with |(lo,hi)=>pure (lo,_,Builtin.Slice.slicePlaces lo hi 1)) _ _ s;rw[QU lo hi n];show wpAny _ _ (pure _) _ _ s;rw[QV];exact wP h
theorem ZZ(xs:A7)(i k:Nat):((List.range k).filterMap λ(m:Nat)=>xs[((i:Int)+(m:Int) * 1).toNat]?).toArray=((xs.toList.drop i).take k).toArray:=by
 have e:(λ(m:Nat)=>xs[((i:Int)+(m:Int) * 1).toNat]?)=λm=>xs[i+m]? :=by
  funext m;have:((i:Int)+(m:Int) * 1).toNat=i+m:=by lia
  rw[this]
 rw[e];have:=pick_run xs i k;rw[filterMap_map]at this;have a:((λx=>xs[x]?)∘λx=>i+x)=λm=>xs[i+m]? :=rfl;rw[a]at this;rw[this]
def getItem_tuple_cut{t sl:Addr}{items:A7}{k j:ŋ}{lo hi:B7}{Q:VP}(b:IsTup s.heap t items)(hs:s.heap.IsSliceOf sl k j .none)(o:IsPart k lo)(n:IsPart j hi)
  (hw: ¬(sIx items.size 0 lo=0/\sIx items.size items.size hi=items.size))
  (h:Q (.ref ↑0) {s with heap:=s.heap.push {cls:=.type "tuple",data:=.seq ((items.toList.drop (sIx items.size 0 lo)).take (sIx items.size items.size hi - sIx items.size 0 lo)).toArray}})
  (hsz:items.size<=sizeLine):wpAny (model prog w) A (getItem (.ref t) (.ref sl)) Q E s:=by
 have a:sizeOk (.seq ((items.toList.drop (sIx items.size 0 lo)).take (sIx items.size items.size hi - sIx items.size 0 lo)).toArray):=by show((items.toList.drop (sIx items.size 0 lo)).take _).toArray.size<=sizeLine;rw[sA0,lT,þ,í];omega
 have r:sIx items.size items.size hi<=items.size:=sIx_le _ _ (à _) hi;obtain⟨p,e,i,m⟩:=id hs;have d:s.TypeIs (.ref sl) "slice":=⟨p,e,i⟩
 unfold getItem
 try with_reducible refine ù ?_
 first |refine wB (wP ?_)|skip
 refine wB (wpAny_sequenceKey b.typeIs (by decide) ?_)
 refine wB (î b.typeIs ģ
  (ì ģ b.typeIs entry_tuple_getitem ?_ (args_tuple_getitem _ _)))
 show wpAny _ _ (Builtin.Tuple.tupleItemsOf (.ref t) >>= _) _ _ s;refine wB (tupleItemsOf_ b ?_);refine wB (Ğ d ?_);rw[iP (by decide)];refine wB (sliceApplied_gen hs o n ?_);have c: ¬((((sIx items.size 0 lo:Nat):Int)==0&&(1:Int)==1&&(sIx items.size items.size hi - sIx items.size 0 lo)==items.size)=true):=by intro q;rw[aE,aE]at q;have u:((sIx items.size 0 lo:Nat):Int)=0:=eq_of_beq q.1.1;have v:sIx items.size items.size hi - sIx items.size 0 lo=items.size:=eq_of_beq q.2;exact hw ⟨by omega,by omega⟩
 show wpAny _ _ (if _=true then _ else _) _ _ s;rw[iN c,ZZ]
 first
  |exact wB (ć (wP ⟨_,rfl,wP h⟩) a)
  |exact wB _
  |exact wB _
  |exact wB _
end
end HT
namespace L2
open PySem PySem.Spec PyProof.Rows
variable{xs:List V}{α:Type}
abbrev TO:=St->Hp->(Option Int->Hp->Prop)->Prop
def PO(X:Cx)(e:Option Expr)(t:TO):Prop:=
 ∀(pins:B5)(s:Ŋ)(σ:St)(H:Hp)(Q:Option Int->Hp->Prop),Inv X pins σ H s->t σ H Q->
  wpAny (model X.prog X.w) X.A (evalPart e X.env) (λu s'=> ∃o H',Inv X pins σ H' s'/\IsPart u o/\Q o H') X.xe s
def Gi:TO:=λ_ H Q=>Q none H
def Xc(t:TE):TO:=λσ H Q=>t σ H λx H1=> ∃i,x=.int i/\Q (some i) H1
section
variable{X:Cx}{e:Expr}{te:TE}{lo hi:Option Expr}{tl th:TO}{pos p2:Pos}
def Gj:PO X none Gi:=by intro pins s σ H Q I h;exact wP ⟨none,H,I,.none,h⟩
def Gk(h:PE X e te):PO X (some e) (Xc te):=by intro pins s σ H Q I hw;refine jI (h pins s σ H _ I hw) λu c ⟨x,H1,I1,a,b⟩=>?_;obtain⟨i,rfl,q⟩:=b;obtain⟨t,rfl⟩:=a;exact⟨_,H1,I1,.int i t,q⟩
def SlR(X:Cx)(r:V->Option Int->Option Int->Hp->VK->Prop):Prop:=
 ∀(pins:B5)(s:Ŋ)(σ:St)(H:Hp)(x:V)(v a b:ŋ)(lo hi:B7)(sl:Addr)(Q:VK),Inv X pins σ H s->RelV x v->s.heap.IsSliceOf sl a b .none->IsPart a lo->IsPart b hi->r x lo hi H Q->
  ∃T id,typeLookup (.type T) "__getitem__"=pure (some (.builtin id))/\s.TypeIs v T/\wpAny (model X.prog X.w) X.A (getItem v (.ref sl)) (EP X pins σ Q) X.xe s
def SlR.or{r c:V->Option Int->Option Int->Hp->VK->Prop}(h:SlR X r)(h':SlR X c):SlR X (λx lo hi H Q=>r x lo hi H Q\/c x lo hi H Q):=by
 intro pins s σ H x v d b lo hi sl Q I a hs i e q;rcases q with q|q
 .exact h pins s σ H x v d b lo hi sl Q I a hs i e q
 .exact h' pins s σ H x v d b lo hi sl Q I a hs i e q
def tSl(r:V->Option Int->Option Int->Hp->VK->Prop)(te:TE)(tl th:TO):TE:=λσ H Q=>te σ H λx H1=>tl σ H1 λl b=>th σ b λu a=>r x l u a Q
def Aa{r:V->Option Int->Option Int->Hp->VK->Prop}(j:SlR X r)(J:PE X e te)(K:PO X lo tl)(w:PO X hi th):PE X (.Subscript e (.Slice lo hi none p2) pos) (tSl r te tl th):=by intro pins s σ H Q I h;refine Subscript_ (jI (J pins s σ H _ I h) λv L ⟨x,H1,I1,E,k⟩=>?_);refine wpAny_Slice (jI (K pins L σ H1 _ I1 k) λd D ⟨l,m,z,B,o⟩=>jI (w pins D σ m _ z o) λc a ⟨u,i,n,y,p⟩=>?_);refine wP ?_;have G:Inv X pins σ i {a with heap:=a.heap.push {cls:=.type "slice",data:=.fields #[d,c,.none]}}:=n.kept λb N q=>hP0 _ q;obtain⟨T,id,C,M,F⟩:=j pins {a with heap:=a.heap.push {cls:=.type "slice",data:=.fields #[d,c,.none]}} σ i x v d c l u a.heap.objs.size Q G E (Heap.IsSliceOf.new ..) B y p;show wpAny _ X.A _ _ X.xe {a with heap:=a.heap.push {cls:=.type "slice",data:=.fields #[d,c,.none]}};exact tail_any M C F (by with_unfolding_all rfl)
def WS(xs:List V)(lo hi:B7):List V:=(xs.drop (HT.sIx xs.length 0 lo)).take (HT.sIx xs.length xs.length hi - HT.sIx xs.length 0 lo)
theorem BC(xs:List V)(lo hi:B7):(WS xs lo hi).length<=xs.length:=by
 unfold WS;rw[lT,þ]
 lia
def rSlT(K:B9):V->Option Int->Option Int->Hp->VK->Prop:=λx lo hi H Q=> ∃a xs,x=.ref a/\SqT K H a xs/\
 ¬(HT.sIx xs.length 0 lo=0/\HT.sIx xs.length xs.length hi=xs.length)/\ ∀p,H p=none->Q (.ref p) (xU H p (.tup (WS xs lo hi)))
def Ph:SlR X (rSlT X.K):=by
 intro pins s σ H x v o n lo hi sl Q I i hs m k h;obtain⟨a,xs,rfl,j,hw,q⟩:=h;cases i;obtain⟨its,r,e,d⟩:=I.tuple j;have c:its.toArray.size=xs.length:=by rw[sA0];exact r.length.symm
 refine⟨_,_,PyProof.Rows.slot_tuple_getitem.lookup,e.typeIs,?_⟩;refine HT.getItem_tuple_cut e hs m k (by rw[c];exact hw) ?_ (by rw[c];exact d);rw[c];refine⟨.ref ↑0,_,I.laid (λb p q=>hP0 _ q) (à _) ?_,rfl,q _ (I.hok.fresh (à _))⟩;exact⟨õ (BC xs lo hi) d,_,(r.drop _).take _,IsTup.new _ _⟩
def Xd(K:B9):R2:=λx y H Q=> ∃a b xs ys,x=.ref a/\y=.ref b/\SqT K H a xs/\SqT K H b ys/\xs≠[]/\xs.length+ys.length<=sizeLine/\
 (ys=[]->Q (.ref a) H)/\(ys≠[]-> ∀p,H p=none->Q (.ref p) (xU H p (.tup (xs++ys))))
def Vals.nil_iff{us:A0}(r:Vals xs us):us=[]↔xs=[]:=by
 cases r with
 |nil=>simp
 |cons _ _=>simp
def Gn:OpR X (binaryOp .Add) (Xd X.K):=by intro pins s σ H x y v u Q I o n h;obtain⟨a,b,xs,ys,rfl,rfl,p,m,r,i,j,k⟩:=h;cases o;cases n;obtain⟨its,d,p1,_⟩:=I.tuple p;obtain⟨e,c,p2,_⟩:=I.tuple m;refine HT.cat_tup p1 p2 (λz=>r (d.nil_iff.mp z)) (λz=>⟨.ref a,H,I,rfl,j (c.nil_iff.mp z)⟩) (λz=>?_) (by rw[<-d.length, <-c.length];exact i);refine⟨.ref ↑0,_,I.laid (λb A q=>hP0 _ q) (à _) ?_,rfl,k (λw=>z (c.nil_iff.mpr w)) _ (I.hok.fresh (à _))⟩;exact⟨by rw[lA];exact i,_,d.append c,IsTup.new _ _⟩
end
noncomputable def JF(n:Nat)(i:Int):Option Nat:=if 0<=i then(if i<n then some i.toNat else none)else if -(n:Int)<=i then some (i+n).toNat else none
def tI(xs:List α)(i:Int):Option α:=(JF xs.length i).bind λj=>xs[j]?
theorem JG{n:Nat}{i:Int}{j:Nat}(h:JF n i=some j):seqIndex? i n=some j/\j<n/\ -(n:Int)<=i/\i<n:=by
 unfold JF at h;by_cases a:0<=i
 .rw[iP a]at h;by_cases h1:i<n
  .rw[iP h1]at h;have e:=å h;exact⟨by rw[seqIndex_of a h1,e],by lia,by lia,h1⟩
  .rw[iN h1]at h;cases h
 .rw[iN a]at h;by_cases h1: -(n:Int)<=i
  .rw[iP h1]at h;have e:=å h;exact⟨by rw[seqIndex_neg #[0] h1,e],by lia,h1,by lia⟩
  .rw[iN h1]at h;cases h
def JH{xs:List α}{i:Int}{v:α}(h:tI xs i=some v): ∃j,seqIndex? i xs.length=some j/\xs[j]? =some v/\j<xs.length/\ -(xs.length:Int)<=i/\i<xs.length:=by
 unfold tI at h
 cases e:JF xs.length i with
 |none=>rw[e]at h;cases h
 |some j=>
  rw[e]at h;obtain⟨h1,b,c,a⟩:=JG e;exact⟨j,h1,h,b,c,a⟩
theorem atI_nat{xs:List α}{j:Nat}{v:α}(h:xs[j]? =some v):tI xs (j:Int)=some v:=by
 have a:=(gS.mp h).1;have e:JF xs.length (j:Int)=some j:=by unfold JF;rw[iP #[0],iP #[0]];simp
 unfold tI;rw[e];exact h
def CQ(b:Expr):Prop:= ∀o i,subscripted b false o i=operate [o,i] (getItem o i)
def IxR(X:Cx)(r:R2):Prop:=
 ∀(b a:Expr)(pins:B5)(s:Ŋ)(σ:St)(H:Hp)(x y:V)(v u:ŋ)(Q:VK),Inv X pins σ H s->RelV x v->RelV y u->r x y H Q->
  subscripted a false v u=operate [v,u] (getItem v u)->wpAny (model X.prog X.w) X.A (subscriptTail b a v u) (EP X pins σ Q) X.xe s
def Gp(X:Cx)(id:String)(r:V->List V->Hp->VK->Prop):Prop:=
 ∀(pins:B5)(s:Ŋ)(σ:St)(H:Hp)(x:V)(xs:List V)(v:ŋ)(us:A0)(Q:VK),Inv X pins σ H s->RelV x v->Vals xs us->r x xs H Q->
  wpAny (model X.prog X.w) X.A (call (.builtin id) (v::us)) (EP X pins σ Q) X.xe s
section
variable{X:Cx}{a b:Expr}{ta tb:TE}{pos:Pos}
def IxR.or{r e:R2}(h:IxR X r)(h':IxR X e):IxR X (λx y H Q=>r x y H Q\/e x y H Q):=by
 intro a b pins s σ H x y v u Q I d c q hs;rcases q with q|q
 .exact h a b pins s σ H x y v u Q I d c q hs
 .exact h' a b pins s σ H x y v u Q I d c q hs
def Xe{r:R2}(d:IxR X r)(i:PE X a ta)(m:PE X b tb)(hs:CQ b):PE X (.Subscript a b pos) (Zv r ta tb):=by intro pins s σ H Q I h;exact Subscript_ (Ov i m I h λv u n x y j k e c q=>d a b pins n σ j x y v u Q k e c q (hs _ _))
def Xf(K:B9):R2:=λx y H Q=> ∃p xs i v,x=.ref p/\y=.int i/\SqL K H p xs/\tI xs i=some v/\Q v H
def Xg(K:B9):R2:=λx y H Q=> ∃p xs i v,x=.ref p/\y=.int i/\SqT K H p xs/\tI xs i=some v/\Q v H
def Xh:R2:=λx y H Q=> ∃z i c,x=.str z/\y=.int i/\z.length<=sizeLine/\tI z.cps.toList i=some c/\Q (.str ⟨#[c]⟩) H
theorem Gq:IxR X (Xf X.K):=by
 intro e c pins s σ H x y v u Q I B A h hs;obtain⟨p,xs,i,z,rfl,rfl,D,C,q⟩:=h;cases B;obtain⟨t,rfl⟩:=A;obtain⟨its,r,d,G⟩:=I.list D;obtain⟨j,h1,n,J,E,o⟩:=JH C;obtain⟨w,m,b⟩:=r.get n;have F:=r.length;have L:=sO;have fin:EP X pins σ Q w s:=⟨z,H,I,b,q⟩
 by_cases k:0<=i
 .have a:=by rw[seqIndex_of k o]at h1;exact å h1
  exact item_listR d.isList k #[0] (by rw[a];simpa using m) fin hs
 .have a:(i+(its.toArray.size:Int)).toNat=j:=by rw[seqIndex_neg #[0] E]at h1;rw[sA0, <-F];exact å h1
  exact subscriptTail_builtinR d.isList.typeIs slot_list_getitem.lookup
   (wpAny_getItem_list_neg d.isList #[0] (by rw[sA0]<;>lia) #[0] (by rw[a];simpa using m) ⟨rfl,fin⟩) hs
theorem Pi:IxR X (Xg X.K):=by
 intro c b pins s σ H x y v u Q I n m h hs;obtain⟨p,xs,i,z,rfl,rfl,A,o,q⟩:=h;cases n;obtain⟨t,rfl⟩:=m;obtain⟨its,r,d,C⟩:=I.tuple A;obtain⟨j,h1,e,E,F,D⟩:=JH o;obtain⟨w,k,a⟩:=r.get e;have B:=r.length;have G:=sO;have fin:EP X pins σ Q w s:=⟨z,H,I,a,q⟩
 exact subscriptTail_builtinR d.typeIs slot_tuple_getitem.lookup
  (getItem_tuple d #[0] #[0] (by rw[sA0, <-B];exact h1) (by simpa using k) ⟨rfl,fin⟩) hs
theorem ix_str:IxR X Xh:=by
 intro b a pins s σ H x y v u Q I o n h hs;obtain⟨z,i,c,rfl,rfl,A,p,q⟩:=h;obtain⟨t,rfl⟩:=o;obtain⟨t',rfl⟩:=n;obtain⟨j,h1,e,B,r,m⟩:=JH p;have w:z.cps.toList.length=z.length:=by simp[Str.length]
 rw[w]at h1 r m;have C:=sO;exact tail_any (typeIs_str s z t) slot_str_getitem.lookup (getItem_str (by have k:decide (i< -(2 ^ 63:Int))=false:=dF0 #[0];have d:decide (i>=2 ^ 63)=false:=dF0 #[0];rw[k,d,Bool.or_false]) (by rw[h1];simpa using e) ⟨.str ⟨#[c]⟩,H,I.tok _,⟨_,rfl⟩,q⟩) hs
def rIx(K:B9):R2:=λx y H Q=>Xf K x y H Q\/Xg K x y H Q\/Xh x y H Q
def Pj:IxR X (rIx X.K):=Gq.or (Pi.or ix_str)
def QW(its:A0)(n j:Nat)(u:ŋ):Obj.mapSeq (·.setIfInBounds j u) {cls:=.type "list",data:=.seq its.toArray n}={cls:=.type "list",data:=.seq (its.set j u).toArray n}:=by simp[Obj.mapSeq]
def Inv.lst{pins:B5}{σ:St}{H:Hp}{s:Ŋ}{p:Addr}(I:↑2)(h:H p=some (.lst xs)):
  ∃(its:A0)(n:Nat),Vals xs its/\s.heap.get? p=some {cls:=.type "list",data:=.seq its.toArray n}/\xs.length<=sizeLine:=by
 obtain⟨z,its,n,r,e⟩:=I.hok p _ h;exact⟨its,n,r,e,z⟩
def Inv.lstUpd{pins:B5}{σ:St}{H:Hp}{s:Ŋ}{p:Addr}{ys:List V}{its its':A0}{n a:Nat}{f:Obj->Obj}(I:↑2)(h:H p=some (.lst xs))
  (ho:s.heap.get? p=some {cls:=.type "list",data:=.seq its.toArray n}) (hf:f {cls:=.type "list",data:=.seq its.toArray n}={cls:=.type "list",data:=.seq its'.toArray a}) (r:Vals ys its') (hz:ys.length<=sizeLine) (t:Nat):
  Inv X pins σ (xU H p (.lst ys)) {s with heap:=s.heap.update p f,toks:=t}:=by
 have e:(s.heap.update p f).get? p=some {cls:=.type "list",data:=.seq its'.toArray a}:=by rw[Heap.get?_update_self f ho (by rw[hf]<;>rfl),hf]
 refine I.write (by rw[h];trivial) (.inl rfl) (λb u c q=>(ý _ _ (Ne.symm c)).trans q) ⟨_,e⟩ ?_;exact⟨hz,its',a,r,e⟩
def Xi:V->V->V->Hp->(Hp->Prop)->Prop:=λo i v H Q=> ∃p xs k j,o=.ref p/\i=.int k/\H p=some (.lst xs)/\JF xs.length k=some j/\Q (xU H p (.lst (xs.set j v)))
theorem set_list:Fz X Xi:=by
 intro pins s σ H o i v ov F u Q I D B z h;obtain⟨p,xs,k,j,rfl,rfl,w,A,q⟩:=h;cases D;obtain⟨t,rfl⟩:=B;obtain⟨its,n,r,b,C⟩:=I.lst w;obtain⟨h1,E,m,y⟩:=JG A;have c:=r.length;have G:=sO
 have e:Inv X pins σ _ {s with heap:=s.heap.update p _}:=
  I.lstUpd w b (QW its n j u) (r.set z j) (by rw[Ą];exact C) s.toks
 by_cases d:0<=k
 .have a:=by rw[seqIndex_of d y]at h1;exact å h1
  exact PySem.W.ki_setAt b d #[0] (by rw[sA0, <-c];exact y) (by rw[a];exact⟨_,e,q⟩)
 .have a:(k+(its.toArray.size:Int)).toNat=j:=by rw[seqIndex_neg #[0] m]at h1;rw[sA0, <-c];exact å h1
  exact PySem.W.ki_setBack b #[0] (by rw[sA0, <-c];exact m) #[0] (by rw[a];exact⟨_,e,q⟩)
theorem JK(lo hi:B7)(n:Nat):(sliceBounds lo hi none n).1=((HT.sIx n 0 lo:Nat):Int)/\(sliceBounds lo hi none n).2.1=((HT.sIx n n hi:Nat):Int)/\(sliceBounds lo hi none n).2.2=1:=by
 refine⟨?_,?_,rfl⟩
 .cases lo with
  |none=>simp[sliceBounds,HT.sIx]
  |some i=>
   simp only[sliceBounds,HT.sIx,Option.getD_none,if_true];by_cases h:i<0
   .simp only[h,if_true]<;>lia
   .simp only[h,iF]<;>lia
 .cases hi with
  |none=>simp[sliceBounds,HT.sIx]
  |some i=>
   simp only[sliceBounds,HT.sIx,Option.getD_none,if_true];by_cases h:i<0
   .simp only[h,if_true]<;>lia
   .simp only[h,iF]<;>lia
theorem GC(its:A0)(lo hi:B7):slicePick its.toArray lo hi none=((its.drop (HT.sIx its.length 0 lo)).take (HT.sIx its.length its.length hi - HT.sIx its.length 0 lo)).toArray:=by obtain⟨h1,a,b⟩:=JK lo hi its.toArray.size;unfold slicePick;rw[h1,a,b];simp only[sliceRange_one,pick_run]<;>rfl
def rSlL(K:B9):V->Option Int->Option Int->Hp->VK->Prop:=λx lo hi H Q=> ∃a xs,x=.ref a/\SqL K H a xs/\ ∀p,H p=none->Q (.ref p) (xU H p (.lst (WS xs lo hi)))
theorem Gr:SlR X (rSlL X.K):=by intro pins s σ H x v o n lo hi sl Q I i hs m k h;obtain⟨a,xs,rfl,j,q⟩:=h;cases i;obtain⟨its,r,d,e⟩:=I.list j;have c:=r.length;refine⟨_,_,slot_list_getitem.lookup,d.isList.typeIs,?_⟩;refine wpAny_getItem_list_slice d.isList hs m k .none (by simp) ?_ (by rw[sA0]<;>lia);rw[GC, <-c];refine⟨.ref ↑0,_,I.laid (λb p q=>hP0 _ q) (à _) ?_,rfl,q _ (I.hok.fresh (à _))⟩;exact⟨õ (BC xs lo hi) e,_,0,(r.drop _).take _,ã _ rfl⟩
noncomputable def lU:V->Bool
 |.non=>true
 |.bl _=>true
 |.int _=>true
 |.str _=>true
 |_=>false
noncomputable def Gu:V->V->Bool
 |.non,.non=>true
 |.bl a,.bl b=>a==b
 |.bl a,.int b=>(if a then 1 else 0)==b
 |.int a,.bl b=>a==(if b then 1 else 0)
 |.int a,.int b=>a==b
 |.str a,.str b=>a==b
 |_,_=>false
def Pk{A:Ō}{s:Ŋ}{y x:V}{u v:ŋ}(e:RelV y u)(c:RelV x v)(h:lU y=true)(d:lU x=true):SeqAt.EqAt A s u v (Gu y x):=by
 cases y with
 |non=>
  cases e
  cases x with
  |non=>cases c;exact SeqAt.EqAt.same _
  |bl b=>cases c;exact SeqAt.EqAt.none_bool b
  |int b=>obtain⟨t,rfl⟩:=c;exact SeqAt.EqAt.none_int b t
  |str b=>obtain⟨t,rfl⟩:=c;exact SeqAt.EqAt.none_str b t
  |_=>exact absurd d xF0
 |bl a=>
  cases e
  cases x with
  |non=>cases c;exact SeqAt.EqAt.bool_none a
  |bl b=>cases c;exact SeqAt.EqAt.bool_bool a b
  |int b=>obtain⟨t,rfl⟩:=c;exact SeqAt.EqAt.bool_int a b t
  |str b=>obtain⟨t,rfl⟩:=c;exact SeqAt.EqAt.bool_str a b t
  |_=>exact absurd d xF0
 |int a=>
  obtain⟨t',rfl⟩:=e
  cases x with
  |non=>cases c;exact SeqAt.EqAt.int_none a t'
  |bl b=>cases c;exact SeqAt.EqAt.int_bool a t' b
  |int b=>obtain⟨t,rfl⟩:=c;exact SeqAt.EqAt.int_int a t' b t
  |str b=>obtain⟨t,rfl⟩:=c;exact SeqAt.EqAt.int_str a t' b t
  |_=>exact absurd d xF0
 |str a=>
  obtain⟨t',rfl⟩:=e
  cases x with
  |non=>cases c;exact SeqAt.EqAt.str_none a t'
  |bl b=>cases c;exact SeqAt.EqAt.str_bool a t' b
  |int b=>obtain⟨t,rfl⟩:=c;exact SeqAt.EqAt.str_int a t' b t
  |str b=>obtain⟨t,rfl⟩:=c;exact SeqAt.EqAt.str_str a t' b t
  |_=>exact absurd d xF0
 |_=>exact absurd h xF0
theorem JL:CallR X (.builtin "len") (λxs H Q=> ∃p ys,xs=[.ref p]/\(SqL X.K H p ys\/SqT X.K H p ys)/\Q (.int ys.length) H):=by
 intro pins s σ H xs us Q I r h;obtain⟨p,ys,rfl,b,q⟩:=h;obtain⟨u,rfl,i⟩:=vals1 r;cases i;have j:=sO;rcases b with b|b
 .obtain⟨its,c,d,e⟩:=I.list b;have a:=c.length;exact Calls.call_len_list d.isList (by simp only[sA0]<;>lia) ⟨.int ys.length,H,I.tok _,⟨_,by rw[sA0,a]⟩,q⟩
 .obtain⟨its,c,d,e⟩:=I.tuple b;have a:=c.length;exact len_tuple d (by simp only[sA0]<;>lia) ⟨.int ys.length,H,I.tok _,⟨_,by rw[sA0,a]⟩,q⟩
theorem JM:CallR X (.builtin "len") (λxs H Q=> ∃z,xs=[.str z]/\z.length<=sizeLine/\Q (.int z.length) H):=by intro pins s σ H xs us Q I r h;obtain⟨z,rfl,a,q⟩:=h;obtain⟨u,rfl,t,rfl⟩:=vals1 r;have b:=sO;exact len_str #[0] ⟨.int z.length,H,I.tok _,⟨_,rfl⟩,q⟩
def CallR.or{f:ŋ}{r a:List V->Hp->VK->Prop}(h:CallR X f r)(h':CallR X f a):CallR X f (λxs H Q=>r xs H Q\/a xs H Q):=by
 intro pins s σ H xs us Q I rs q;rcases q with q|q
 .exact h pins s σ H xs us Q I rs q
 .exact h' pins s σ H xs us Q I rs q
theorem JN:CallR X (.type "list") (λxs H Q=> ∃p ys,xs=[.ref p]/\(SqL X.K H p ys\/SqT X.K H p ys)/\ ∀l,H l=none->Q (.ref l) (xU H l (.lst ys))):=by
 intro pins s σ H xs us Q I r h;obtain⟨p,ys,rfl,i,q⟩:=h;obtain⟨u,rfl,y⟩:=vals1 r;cases y
 have fin: ∀(its:A0),Vals ys its->ys.length<=sizeLine-> ∀(h':Heap)(a:Nat),_->
   h'.get? ↑0=some {cls:=.type "list",dict:=none,data:=.seq its.toArray a,slots:=#[]}->EP X pins σ Q _ {s with heap:=h'}:=λits b d h' a j e=>
  ⟨.ref ↑0,_,I.laid j (à _) (show ObjOk X.prog X.w _ h' _ (.lst ys)from⟨d,its,a,b,e⟩),rfl,q _ (I.hok.fresh (à _))⟩
 rcases i with i|i
 .obtain⟨its,b,k,d⟩:=I.list i;have c:=b.length;obtain⟨o,v,m,n,hd⟩:=k.isList;exact call_list_seq p (.inl rfl) v m hd (λh' a j e=>fin its b d h' a j e) (by simp only[sA0]<;>lia)
 .obtain⟨its,b,k,d⟩:=I.tuple i;have c:=b.length;obtain⟨o,v,m,n,hd⟩:=k;exact call_list_seq p (.inr rfl) v m hd (λh' a j e=>fin its b d h' a j e) (by simp only[sA0]<;>lia)
theorem GD:CallR X (.type "tuple") (λxs H Q=> ∃p ys,xs=[.ref p]/\((SqL X.K H p ys/\ ∀l,H l=none->Q (.ref l) (xU H l (.tup ys)))\/(SqT X.K H p ys/\Q (.ref p) H))):=by
 intro pins s σ H xs us Q I r h;obtain⟨p,ys,rfl,h⟩:=h;obtain⟨u,rfl,j⟩:=vals1 r;cases j;rcases h with⟨hq,q⟩|⟨hq,q⟩
 .obtain⟨its,a,c,i⟩:=I.list hq;have d:=a.length;refine call_tuple_list c.isList (λh' m=>?_) (by simp only[sA0]<;>lia);have I1:Inv X pins σ H {s with heap:=h'}:=I.kept m
  have k:Inv X pins σ (xU H h'.objs.size (.tup ys)) {s with heap:=h'.push {cls:=.type "tuple",data:=.seq its.toArray}}:=
   I1.laid (λb o e=>hP0 _ e) (à _) (⟨i,its,a,IsTup.new _ _⟩)
  exact⟨.ref h'.objs.size,_,k,rfl,q _ (I1.hok.fresh (à _))⟩
 .obtain⟨its,a,c,i⟩:=I.tuple hq;exact call_tuple_same c ⟨.ref p,H,I,rfl,q⟩
def tyV(K:B9)(T:String)(x:V)(H:Hp):Prop:=match x with
 |.str _=>T="str"
 |.int _=>T="int"
 |.ref p=>(T="list"/\ ∃xs,SqL K H p xs)\/(T="tuple"/\ ∃o,K.lookup p=some o/\o.cls=.type "tuple"/\o.dict=none)\/
   (T="dict"/\((∃kvs,H p=some (.dK kvs))\/ ∃kvs,H p=some (.dT kvs)))\/(T="set"/\ ∃S n,H p=some (.set S n))
 |_=>False
def Pl{pins:B5}{σ:St}{H:Hp}{s:Ŋ}{T:String}{x:V}{v:ŋ}(I:↑2)(r:RelV x v)(b:tyV X.K T x H):
  s.TypeIs v T/\ ∀a,v=.ref a-> ∃h,s.heap.get? a=some h/\h.dict=none:=by
 cases x with
 |str z=>
  obtain⟨t,rfl⟩:=r;cases b;exact⟨typeIs_str s z t,λ_ e=>nomatch e⟩
 |int i=>
  obtain⟨t,rfl⟩:=r;cases b;exact⟨typeIs_int s i t,λ_ e=>nomatch e⟩
 |ref p=>
  cases r;rcases b with⟨rfl,xs,hq⟩|⟨rfl,o,hk,hc,hd⟩|⟨rfl,hk⟩|⟨rfl,S,n,hk⟩
  .obtain⟨its,_,j,_⟩:=I.list hq;refine⟨j.isList.typeIs,λa e=>?_⟩;cases e;obtain⟨o,n,e,c,hd,_⟩:=j;exact⟨o,e,hd⟩
  .refine⟨⟨o,I.kIn p o hk,hc⟩,λa e=>?_⟩;cases e;exact⟨o,I.kIn _ o hk,hd⟩
  .have z: ∃o,s.heap.get? p=some o/\o.ExactDict:=by
    rcases hk with⟨kvs,hk⟩|⟨kvs,hk⟩
    .obtain⟨_,_,_,_,o,_,_,e,ex,_⟩:=I.hok p _ hk;exact⟨o,e,ex⟩
    .obtain⟨_,_,_,_,o,_,_,e,ex,_⟩:=I.hok p _ hk;exact⟨o,e,ex⟩
   obtain⟨o,e,ex⟩:=z;refine⟨⟨o,e,ex.1⟩,λa d=>?_⟩;cases d;exact⟨o,e,ex.2.1⟩
  .obtain⟨o,_,_,_,e,ex,_⟩:=I.hok p _ hk;refine⟨⟨o,e,ex.1⟩,λa d=>?_⟩;cases d;exact⟨o,e,ex.2.1⟩
 |_=>exact False.elim b
def tBM(K:B9)(T:String)(r:V->List V->Hp->VK->Prop)(to:TE)(t:TA):TE:=λσ H Q=>to σ H λx H1=>tyV K T x H1/\t σ H1 λxs a=>r x xs a Q
variable{o e:Expr}{es:B8}{to:TE}{t:TA}{name:Str}{apos cpos:Pos}{T id:String}{r:V->List V->Hp->VK->Prop}
def Xj(y:PlainAttrs T)(a:Slot T name id)(b:typeOf (.builtin id)=pure (.type "method_descriptor"))(w:Gp X id r)(ho:PE X o to)(k:PA X (e::es) t)
  (hbase:attributeBase o name X.env (eval o X.env)=eval o X.env:=by rfl)
  (hfew:((backTo cpos (starEach (e::es) X.env)).all (λx=>!x.1)&&(backToKw cpos (keywordEach [] X.env)).all (λx=>x.1.isSome)
   &&decide ((e::es).length+([]:List Keyword).length+(if([]:List Keyword).isEmpty then 0 else 1)<30))=true:=by rfl)
  (hline:(apos.endLine==cpos.line)=true:=by rfl) (hs:q9 X e es:=by rfl) (hplain:(backTo cpos (starEach es X.env)).any (·.1)=false:=by rfl):
  PE X (.Call (.Attribute o name apos) (e::es) [] cpos) (tBM X.K T r to t):=by
 intro pins s σ H Q I h;refine wpAny_Call_method_late hbase hfew hline rfl (jI (ho pins s σ H _ I h) λv n ⟨x,H1,I1,c,u,j⟩=>?_);obtain⟨h1,i⟩:=Pl I1 c u;refine⟨T,id,y,a,b,h1,i,?_⟩;have d:=k cpos pins n σ H1 _ I1 j;rw[hs]at d ⊢;refine Calls.callWith_builtin (by show(false || (backTo cpos _).any (·.1))=false;rw[hplain]<;>rfl) (Calls.evalArgs_plain ?_);exact jI d λus A ⟨vs,m,q,z,p⟩=>w pins A σ m x vs v us Q q c z p
end
def MtM(X:Cx)(id:String)(r:V->List V->Hp->VK->Prop):Prop:=
 ∀(pins:B5)(s:Ŋ)(σ:St)(H:Hp)(x:V)(xs:List V)(v:ŋ)(us:A0)(Q:VK),Inv X pins σ H s->RelV x v->Vals xs us->r x xs H Q->
  wpAny (model X.prog X.w) X.A (call (.builtin id) (v::us)) (EP X pins σ Q) X.xe s
def Vals.one: ∀{x:V}{us:A0},Vals [x] us-> ∃u,us=[u]/\RelV x u
 |_,_,.cons r .nil=>⟨_,rfl,r⟩
theorem Vals.zero: ∀{us:A0},Vals [] us->us=[]
 |_,.nil=>rfl
theorem Vals.eraseIdx: ∀{xs:List V}{us:A0}(i:Nat),Vals xs us->Vals (xs.eraseIdx i) (us.eraseIdx i)
 |_,_,_,.nil=>.nil
 |_,_,0,.cons _ t=>t
 |_,_,i+1,.cons r t=>.cons r (Vals.eraseIdx i t)
theorem Vals.rep{us:A0}(h:Vals xs us): ∀k:Nat,Vals (List.replicate k xs).flatten (List.replicate k us).flatten
 |0=>.nil
 |k+1=>by exact Vals.append h (Vals.rep h k)
theorem HE{α:Type}: ∀(l:List α)(i:Nat),(l.eraseIdx i).length<=l.length
 |[],_=>à _
 |_::_,0=>le_succ _
 |_::r,i+1=>Nat.succ_le_succ (HE r i)
theorem foldl_rep(its:A0): ∀(k:Nat)(a:A0),
  List.foldl (λc d=>c++d) a.toArray (List.replicate k its.toArray)=(a++(List.replicate k its).flatten).toArray
 |0,a=>by simp
 |k+1,a=>by
  have e:a.toArray++its.toArray=(a++its).toArray:=by simp
  have b:(a++its)++(List.replicate k its).flatten=a++(List.replicate (k+1) its).flatten:=by rw[ĭ,flatten_cons,aA]
  rw[<-b, <-foldl_rep its k _, <-e,ĭ,ě]
section
variable{X:Cx}{pins:B5}{σ:St}{H:Hp}{s:Ŋ}{l:Addr}{xs ys:List V}
def Inv.lset{its its':A0}{n:Nat}{f:Array ŋ->Array ŋ}{t':Nat}(I:↑2)(b:H l=some (.lst xs))
  (e:s.heap.get? l=some {cls:=.type "list",data:=.seq its.toArray n}) (hf:f its.toArray=its'.toArray) (hv:Vals ys its') (hz:ys.length<=sizeLine):
  Inv X pins σ (xU H l (.lst ys)) {s with heap:=s.heap.update l (Obj.mapSeq f),toks:=t'}:=by
 have q:=PySem.IsL.update e f;rw[hf]at q;refine I.write (by rw[b];exact trivial) (.inl rfl) (λd u c a=>(ý s.heap _ (Ne.symm c)).trans a) ⟨_,q⟩ ?_;exact⟨hz,its',_,hv,q⟩
def Inv.lnew{its:A0}{t':Nat}(I:↑2)(a:Vals ys its)(hz:ys.length<=sizeLine):
  Inv X pins σ (xU H ↑0 (.lst ys)) {s with heap:=s.heap.push {cls:=.type "list",data:=.seq its.toArray},toks:=t'}:=
 I.laid (λ_ _ q=>hP0 _ q) (à _) ⟨hz,its,0,a,ã _ rfl⟩
def Inv.fresh(I:↑2):H ↑0=none:=I.hok.fresh (à _)
def Inv.lstM(I:↑2)(a:H l=some (.lst xs)):xs.length<=sizeLine/\ ∃(its:A0)(n:Nat),Vals xs its/\xs.length=its.length/\s.heap.get? l=some {cls:=.type "list",data:=.seq its.toArray n}:=by obtain⟨z,its,n,r,e⟩:=I.hok l _ a;exact⟨z,its,n,r,r.length,e⟩
theorem NA{n:Nat}(h:n<=sizeLine):Builtin.List.listTooLong n=false:=by exact dF0 #[0]
end
section
variable{X:Cx}
def SZ:V->List V->Hp->VK->Prop:=λx vs H Q=> ∃l xs y,x=.ref l/\vs=[y]/\H l=some (.lst xs)/\xs.length<sizeLine/\Q .non (xU H l (.lst (xs++[y])))
theorem WT:MtM X "list.append" SZ:=by
 intro pins s σ H x vs v us Q I c b h;obtain⟨l,xs,y,rfl,rfl,a,j,q⟩:=h;cases c;obtain⟨u,rfl,d⟩:=b.one;obtain⟨z,its,n,r,i,e⟩:=I.lstM a;refine Ĺ F.slot_list_append ⟨_,e,rfl⟩ F.entry_list_append (F.args_list_append_2 _ _) (PySem.list_append l its.toArray n u (by rw[sA0];lia)) ⟨e,?_⟩;refine⟨.non,_,I.lset a e (by simp) (r.append (.cons d .nil)) ?_,rfl,q⟩;rw[lA,lS]
 lia
def TB:V->List V->Hp->VK->Prop:=λx vs H Q=> ∃l b xs a,x=.ref l/\vs=[.ref b]/\H l=some (.lst xs)/\H b=some (.lst a)/\xs.length+a.length<=sizeLine/\Q .non (xU H l (.lst (xs++a)))
theorem WU:MtM X "list.extend" TB:=by
 intro pins s σ H x vs v us Q I o j h;obtain⟨l,b,xs,C,rfl,rfl,i,p,B,q⟩:=h;cases o;obtain⟨u,rfl,w⟩:=j.one;cases w;obtain⟨z,its,n,r,D,e⟩:=I.lstM i;obtain⟨E,a,y,A,m,k⟩:=I.lstM p;have d:its.toArray.size+a.toArray.size<=sizeLine:=by rw[sA0,sA0];lia
 have c: ¬(!its.toArray.isEmpty&&Builtin.List.listTooLong (its.toArray.size+a.toArray.size))=true:=by rw[NA d,Bool.and_false];exact xF0
 refine Ĺ F.slot_list_extend ⟨_,e,rfl⟩ F.entry_list_extend (F.args_list_extend_2 _ _)
  (AutoSeq1.list_extend_list_list_0 l its.toArray n b a.toArray y c (by rw[sA0];lia) #[0]) ⟨e,k,?_⟩
 refine⟨.non,_,I.lset i e (by simp) (r.append A) ?_,rfl,q⟩;rw[lA]
 lia
def Ab:V->List V->Hp->VK->Prop:=λx vs H Q=> ∃l xs i k y,x=.ref l/\vs=[.int i]/\H l=some (.lst xs)/\ -(2 ^ 63)<=i/\i<2 ^ 63/\seqIndex? i xs.length=some k/\xs[k]? =some y/\Q y (xU H l (.lst (xs.eraseIdx k)))
def Ac:MtM X "list.pop" Ab:=by
 intro pins s σ H x vs v us Q I m c h;obtain⟨l,xs,i,k,y,rfl,rfl,b,h1,d,j,A,q⟩:=h;cases m;obtain⟨u,rfl,p⟩:=c.one;obtain⟨t,rfl⟩:=p;obtain⟨z,its,n,r,o,e⟩:=I.lstM b;obtain⟨w,hw,a⟩:=r.get A
 refine Ĺ F.slot_list_pop ⟨_,e,rfl⟩ F.entry_list_pop (F.args_list_pop_2 _ _)
  (MeetsSeq.list_pop_at l its.toArray n i t k w (fitsIndex_both h1 d) (by rw[sA0, <-o];exact j) (by rw[<-ò];exact hw) (by rw[sA0];omega)) ⟨e,?_⟩
 refine⟨y,_,I.lset (its':=its.eraseIdx k) b e ?_ (r.eraseIdx k) ?_,a,q⟩
 .show its.toArray.eraseIdxIfInBounds k=(its.eraseIdx k).toArray;rw[List.eraseIdxIfInBounds_toArray]
 .have:=HE xs k;omega
def rCat:R2:=λx y H Q=> ∃l b xs a,x=.ref l/\y=.ref b/\H l=some (.lst xs)/\H b=some (.lst a)/\xs.length+a.length<=sizeLine/\ ∀p,H p=none->Q (.ref p) (xU H p (.lst (xs++a)))
theorem Pm:OpR X (binaryOp .Add) rCat:=by
 intro pins s σ H x y v u Q I k j h;obtain⟨l,b,xs,A,rfl,rfl,d,m,w,q⟩:=h;cases k;cases j;obtain⟨z,its,n,r,B,e⟩:=I.lstM d;obtain⟨D,a,C,p,i,c⟩:=I.lstM m;refine PySem.P.add_list e c ?_ (by rw[sA0,sA0];lia);have o:its.toArray++a.toArray=(its++a).toArray:=by simp
 rw[o];exact⟨.ref _,_,I.lnew (r.append p) (by rw[lA];lia),rfl,q _ I.fresh⟩
def rRep:R2:=λx y H Q=> ∃l k xs,x=.ref l/\y=.int k/\H l=some (.lst xs)/\ -(2 ^ 63)<=k/\k<2 ^ 63/\xs.length * k.toNat<=sizeLine/\
 ∀p,H p=none->Q (.ref p) (xU H p (.lst (List.replicate k.toNat xs).flatten))
def len_rep(xs:List α)(k:Nat):(List.replicate k xs).flatten.length=k * xs.length:=by
 induction k with
 |zero=>simp
 |succ k ih=>rw[ĭ,flatten_cons,lA,ih,Nat.succ_mul,Nat.add_comm]
theorem Pn:OpR X (binaryOp .Mult) rRep:=by
 intro pins s σ H x y v u Q I D C h;obtain⟨l,k,xs,rfl,rfl,B,h1,A,w,q⟩:=h;cases D;obtain⟨t,rfl⟩:=C;obtain⟨z,its,n,r,G,e⟩:=I.lstM B;have d:its.toArray.size * k.toNat<=sizeLine:=by rw[sA0, <-G];exact w
 have i: ¬its.toArray.size * k.toNat>(2 ^ 63 - 1) / 8:=by
  have:(sizeLine:Nat)<=(2 ^ 63 - 1) / 8:=by decide
  lia
 have c: ¬(!Builtin.List.listFitsIndex k)=true:=by rw[fitsIndex_both h1 A];exact xF0
 have b: ¬Builtin.List.listTooLong (its.toArray.size * k.toNat)=true:=by rw[NA d];exact xF0
 have j:List.foldl (λo p=>o++p) #[] (List.replicate (if its.toArray.isEmpty=true then 0 else k.toNat) its.toArray)=(List.replicate k.toNat its).flatten.toArray:=by
  have E: ∀m:Nat,List.foldl (λo p=>o++p) #[] _=(List.replicate m its).flatten.toArray:=λm=>by have:=foldl_rep its m [];exact this
  rw[E]
  cases its with
  |nil=>simp
  |cons a r'=>rw[iN (by simp)]
 refine wpAny_binaryOp_repeat_ref (by decide) ⟨_,e,rfl⟩ (λs'=>typeIs_int s' k t) noFill_list_mul F.fills_int_mul F.slot_int_rmul repeat_list F.slot_int_index.lookup
  (Ĺ F.slot_int_rmul (typeIs_int s k t) F.entry_int_rmul (F.args_int_rmul_2 _ _) (int___rmul___int_list k t l its.toArray n)
   ⟨e,rfl,⟨_,e,rfl⟩,Ĺ F.slot_list_mul ⟨_,e,rfl⟩ F.entry_list_mul (F.args_list_mul_2 _ _) (AutoListH.list___mul___list_int_3 l its.toArray n k t c i b) ⟨e,?_⟩⟩)
 rw[j];exact⟨.ref _,_,I.lnew (r.rep k.toNat) (by rw[len_rep,Nat.mul_comm];exact w),rfl,q _ I.fresh⟩
end
end L2
namespace Att
open PySem PySem.W PySem.Calls PyProof.Rows
def CL{P:Params}{h:Heap}: ∀(c:Za)(vs:A0),WellAll P h vs (c.map WData.int)->IntsAre vs c:=by
 intro c
 induction c with
 |nil=>
  intro vs w;cases w;exact .nil
 |cons n c ih=>
  intro vs w
  cases w with
  |cons a b=>
   cases a;exact .cons _ _ (ih _ b)
theorem WV{l:OpenLaw}{n:Nat}(u:l.most=some n){P:Params}{h:Heap}{args:List WData}{b:A0}
  (hpre:l.row.toRowW.claim.pre args=true) (hwl:WellAll P h b args):
  ∃a vs c,b=[Value.ref a]/\args=[WData.list (c.map WData.int)]/\h.get? a=some {cls:=.type "list",data:=.seq vs.toArray}/\IntsAre vs c/\c.length<=n:=by
 have j:=(pre_splitW hpre).1;have s:l.pre.holds [] {args:=args}=true:=(pre_splitW hpre).2;obtain⟨d,r,rfl,h1,o⟩:=hasAllW_cons j;obtain rfl:=hasAllW_nil o;obtain⟨xs,rfl,p⟩:=hasW_list h1;obtain⟨c,rfl⟩:=items_int p
 have e:c.length<=n:=by
  have i:=by have i:=(holds_andW s).1;rw[u]at i;exact i
  have k:=condW_of i (w_not (w_lt w_lit (w_len_list (w_arg rfl))));refine Nat.le_of_not_lt λq=>?_;have m:=by omega
  first
   |(rw[dT0 m]at k;exact absurd k (by decide))
   |(simp at k;lia)
 cases hwl with
 |cons w1 w2=>
  cases w2
  cases w1 with
  |list ho hall=>exact⟨_,_,c,rfl,rfl,ho,CL c _ hall,e⟩
theorem WW(l:OpenLaw)(args:List WData):l.row.toRowW.claim.post args (.bool true) args=true:=
 postW_of
  (by first |rfl|decide|simp[WShape.has,WShape.arms,WShape.armsAll])
  (w_eq_bool (w_res rfl) w_lit) rfl
def attach_call{l:OpenLaw}{n:Nat}{q:ō}{e:B0}{E:(Str->Option ŋ)->Heap->Prop}{A:World->Heap->Prop}{d:DefRec}
  (hn:l.most=some n) (hdf:d.params.defaults=[])
  (call: ∀(w:World)(c b:Ŋ)(mg v:B3)(fa:Addr)(o:Obj)(y cd h:ŋ)(a:Addr)(vs:A0)(p:Za),
   Ground q e [] E w c mg v b.heap->A w b.heap->
   b.heap.get? fa=some o->o.data=.func (docDef d.name d.params d.body d.scope y cd h)->b.heap.CodeRec cd d.name->mg d.name=some (.ref fa)->
   b.heap.get? a=some {cls:=.type "list",data:=.seq vs.toArray}->IntsAre vs p->p.length<=n->b.gens=#[]->
   codeAny (model l.prog w) callerA (.call (.ref fa) ⟨[.ref a],[]⟩) (λr s'=>r=.ok (.ret (.bool true))/\OldK b.heap s'.heap/\s'.os=b.os/\AllBare s'.gens) b):
  WalkO q e E A l.row.toRowW d [] (λf vs=>PySem.call f vs):=by
 intro w c b mg v G Y fa o y cd h I kV Q hd u F s K C D as k B J z O;obtain rfl:I=.none:=Dflts.none F hdf;obtain rfl:kV=.none:=Dflts.noKw F;obtain⟨a,vs,p,rfl,rfl,j,i,m⟩:=WV hn k z;refine enter_call (codeAny_mono (call w c b mg v fa o y cd h a vs p G Y Q (fd_plain hd) u s j i m K) λr s' M=>?_);obtain⟨rfl,H,L,N⟩:=M;exact⟨.inl ⟨_,_,[],rfl,λ_=>rfl,.bool true,WW l _,λ_=>⟨List.Pairwise.nil,λ_ P=>(nomatch P)⟩⟩,H,L,N⟩
end Att
namespace L2
open PySem PySem.Spec PyProof.Rows
theorem HF: ∀{vs:A0}{a:Za},IntsAre vs a->Vals (a.map V.int) vs
 |_,_,.nil=>.nil
 |_,_,.cons n t h=>.cons ⟨t,rfl⟩ (HF h)
def Ad(H:Hp):Prop:= ∀b,H b=none\/ ∃o xs,H b=some (.frz o (.lst xs))
def Ae{P:ō}{w:World}{K:B9}{mg M:B3}{CX:WP}{k:Nat}{fa a:Addr}{fd:FuncData}{x:Str}{sp:Sp}{c:Ŋ}{vs:A0}{I:Za}
  (KX:K.In c.heap) (hns:c.heap.Ns mainGlobals mg) (j:c.heap.Ns builtinsNs M) (hbb: ∀x:Str,x≠"__name__"->M x=bootBuiltins x) (hlim:c.heap.NoLimit) (hg:c.gens=#[])
  (ha:c.heap.get? a=some {cls:=.type "list",data:=.seq vs.toArray}) (hi:IntsAre vs I) (hl:I.length<=sizeLine) (hr:Room k callerA)
  (F: ∀base:Heap,K.In base->base.Ns mainGlobals mg->FnOk P w K mg base CX k fa fd [x] sp) (hbind: ∀(s:Ŋ)(u:ŋ),BindsTo s fd ⟨[u],[]⟩ [(x,u)])
  (hsp: ∀H:Hp,Ad H->SqL K H a (I.map V.int)->sp [.ref a] H (λv _=>v=.bl true) λ_ _ _=>False)
  (hCX: ∀H e s',CX [] H c (λ_ _ _=>False) e s'->False):
  codeAny (model P w) callerA (.call (.ref fa) ⟨[.ref a],[]⟩) (λr s'=>r=.ok (.ret (.bool true))/\OldK c.heap s'.heap/\s'.os=c.os/\AllBare s'.gens) c:=by
 have O:=HF hi;have E:=hi.length
 have y: ∀H:Hp,Ad H->SqL K H a (I.map V.int)->HOk P w H c.heap->(∀b,H b≠none->b=a)->(H a≠none->K.lookup a=none)->
   codeAny (model P w) callerA (.call (.ref fa) ⟨[.ref a],[]⟩) (λr s'=>r=.ok (.ret (.bool true))/\OldK c.heap s'.heap/\s'.os=c.os/\AllBare s'.gens) c:=by
  intro H T U D S hK;have i: ∀{b:Addr}{o:Obj},c.heap.get? b=some o->H b=none->(WI c.heap H).get? b=some o:=λe n=>ZO e n
  have J: ∀{b:Addr}{o:Obj}{es:Array DictEntry}{ep:Nat},c.heap.get? b=some o->o.data=.dict es ep->H b=none:=λ{b o es ep} e d=>by
   cases q:H b with
   |none=>rfl
   |some u=>
    have N:b=a:=S b (by rw[q];simp);subst N;rw[ha]at e;cases e;have Z:Data.seq vs.toArray _=Data.dict es ep:=d;cases Z
  have p: ∀{b:Addr}{m:B3},c.heap.Ns b m->(WI c.heap H).Ns b m:=λ{b m} ⟨o,es,ep,e,d,r⟩=>⟨o,es,ep,i e (J e d),d,r⟩
  have G:K.In _:=λb o e=>i (KX b o e) (by
   cases q:H b with
   |none=>rfl
   |some u=>
    have N:b=a:=S b (by rw[q];simp);subst N;rw[hK (by rw[q];simp)]at e;cases e)
  have hM:Mod K mg _:=⟨G,p hns,⟨M,p j,hbb⟩,let ⟨mc,h1,W⟩:=hlim;⟨mc,p h1,W⟩⟩
  have Y:Env0 P w K mg _ callerA [] c H:=⟨rfl,hM,λb o e=>Fp e,le_of_eq (WJ _ _),trivial,λb j=>absurd (show b∈([]:A9)from j) (by simp),D,.of_eq hg⟩
  refine codeAny_mono ((F _ G (p hns)).run callerA [] c H ⟨_,[]⟩ [.ref a] [.ref a] _ _ hr Y (hbind c (.ref a)) (.cons rfl .nil) (hsp H T U)) λr s' h=>?_
  cases r with
  |error e=>exact(hCX H e s' h).elim
  |ok fl=>
   cases fl with
   |next=>exact False.elim h
   |brk=>exact False.elim h
   |cont=>exact False.elim h
   |ret u=>
    obtain⟨v,H',os,A,un,B,r',q⟩:=h;have q':v=.bl true:=q;subst q';obtain rfl:u=Value.bool true:=r';refine⟨rfl,OldK.of_keep λb o e=>?_,os,A⟩
    cases q:H b with
    |none=>exact un.keep b o e q (by intro z;exact absurd (show b∈([]:A9)from z) (by simp)) (by simp)
    |some u=>
     rcases T b with z|⟨ob,xs,z⟩
     .rw[q]at z;cases z
     .have z2:=un.frzs b ob _ z;obtain⟨Q,_⟩:=D b _ z;obtain⟨X,_⟩:=B b _ z2;rw[e]at Q;cases Q;exact X
 cases L:K.lookup a with
 |some o=>
  have e:=KX a o L;rw[ha]at e;cases e;refine y (λ_=>none) (λ_=>.inl rfl) (.inr ⟨_,_,_,L,rfl,rfl,rfl,by rw[sA0,E];exact hl,by simpa using O⟩) (λb u z=>by have C:_=some u:=z;cases C) (λb z=>absurd rfl z) λz=>absurd rfl z
 |none=>
  refine y (λb=>if b=a then some _ else none) (λb=>?_) (.inl (.inr ⟨{cls:=.type "list",data:=.seq vs.toArray},iP rfl⟩)) (λb u z=>?_) (λb z=>?_) λ_=>L
  .by_cases j:b=a
   .exact .inr ⟨_,_,iP j⟩
   .exact .inl (iN j)
  .by_cases j:b=a
   .have C:=(iP j).symm.trans z;cases C;subst j;exact⟨ha,by rw[lM];exact hl,vs,_,O,ha⟩
   .have C:=(iN j).symm.trans z;cases C
  .by_cases j:b=a
   .exact j
   .exact absurd (iN j) z
def walk_of{l:PySem.W.OpenLaw}{n k:Nat}{q:ō}{i:B0}{L:(Str->Option ŋ)->Heap->Prop}{z:World->Heap->Prop}{d:DefRec}{K:Params->PySem.W.Frag}{CX:World->WP}{sp:World->Sp}{x:Str}
  (hn:l.most=some n) (hn2:n<=sizeLine) (hdf:d.params.defaults=[]) (hr:Room k callerA)
  (hY: ∀(w:World)(h:Heap),z w h->(K w.params).In h)
  (F: ∀(w:World)(mg:B3)(fa:Addr)(h:Heap),(K w.params).In h->h.Ns mainGlobals mg->mg d.name=some (.ref fa)->
   ∃fd:FuncData,(∀(s:Ŋ)(u:ŋ),BindsTo s fd ⟨[u],[]⟩ [(x,u)])/\
    ∀base:Heap,(K w.params).In base->base.Ns mainGlobals mg->FnOk l.prog w (K w.params) mg base (CX w) k fa fd [x] (sp w))
  (hsp: ∀(w:World)(H:Hp)(a:Addr)(r:Za),r.length<=n->Ad H->SqL (K w.params) H a (r.map V.int)->sp w [.ref a] H (λv _=>v=.bl true) λ_ _ _=>False)
  (hCX: ∀(w:World)(H:Hp)(s:Ŋ)(e:ŋ)(s':Ŋ),CX w [] H s (λ_ _ _=>False) e s'->False):
  PySem.W.WalkO q i L z l.row.toRowW d [] (λf vs=>PySem.call f vs):=by
 refine Att.attach_call hn hdf λw A p mg N fa o O cd C a vs r G Y P hd E y m j c J=>?_;have KX:=hY w _ Y;obtain⟨fd,I,D⟩:=F w mg fa _ KX G.T.g y;exact Ae KX G.T.g G.T.b G.T.builtins G.T.nolimit J m j (õ c hn2) hr D I (λH M B=>hsp w H a r c M B) λH e s'=>hCX w H p e s'
noncomputable def mR(s:Stmt):Arguments:=match s with
 |.FunctionDef _ a _ _ _ _ _ _ _ _=>a
 |_=>{posonlyargs:=[],args:=[],vararg:=none,kwonlyargs:=[],kw_defaults:=[],kwarg:=none,defaults:=[]}
noncomputable def gQ(s:Stmt):List Stmt:=match s with
 |.FunctionDef _ _ b _ _ _ _ _ _ _=>b
 |_=>[]
noncomputable def zQ(s:Stmt):Scope:=match s with
 |.FunctionDef _ _ _ _ _ _ sc _ _ _=>sc
 |_=>{kind:=.function,names:=[],isGenerator:=false,isCoroutine:=false}
abbrev DT:WP:=λ_ _ _ _ _ _=>False
abbrev E0:XK:=λ_ _ _=>False
def Xk{X:Cx}:QT DT X E0:=λ_ _ _ _ _ _ _ h=>h.elim
structure Fun(K:B9)(x qual:Str)(st:Stmt)(f:Addr)(fd:FuncData):Prop where
 ex: ∃(oc:ŋ)(od:Option Addr)(kV doc pm:ŋ)(an:Option Addr)(cdv ct:ŋ)(osl:Array (Option ŋ)),
  fd=PySem.W.fnOf x qual (mR st) (gQ st) (zQ st) .none kV doc pm an cdv ct/\K.lookup f=some ⟨oc,od,.func fd,osl⟩/\PySem.W.codeIn K cdv qual=true
 kp:PySem.W.keepIn K (.ref f)=true
section
variable{P:ō}{w:World}{K:B9}{mg:B3}{base:Heap}
def Fun.ok{x qual:Str}{st:Stmt}{f:Addr}{fd:FuncData}{N ps:B0}{k:Nat}{sp:Sp}(F:Fun K x qual st f fd)(S:FnScope N ps (zQ st))(len: ∀vs H Q E,sp vs H Q E->vs.length=ps.length)
  (hbody: ∀(b:ŋ)(A:Ō)(a:List Env)(s:Ŋ)(H:Hp)(vs:List V)(Q:VK)(E:XK),Room k (A.deeper (envOfC qual (zQ st) ↑0 f b))->sp vs H Q E->
   ∃t,PSs (JE DT P w K mg base N qual (zQ st) f b A a s H E).nox (gQ st) t/\t {nx:=λ_ H'=>Q .non H',rt:=Q} (start N vs) H):FnOk P w K mg base DT (k+1) f fd ps sp:=by
 obtain⟨o,od,kV,i,r,n,b,p,j,rfl,m,d⟩:=F.ex;refine fn_of m d S len λA a s H vs Q E e c=>?_;obtain⟨t,h,q⟩:=hbody b A a s H vs Q E e c;exact⟨t,h.nox,q⟩
def Fun.binds{x qual:Str}{st:Stmt}{f:Addr}{fd:FuncData}{ps:B0}(F:Fun K x qual st f fd)
  (h: ∀(kV a d:ŋ)(c:Option Addr)(b ct:ŋ)(us:A0),us.length=ps.length->bindArgs (PySem.W.fnOf x qual (mR st) (gQ st) (zQ st) .none kV a d c b ct) ⟨us,[]⟩=pure (ps.zip us)):Binds K fd ps []:=by
 obtain⟨k,od,kV,a,d,c,b,ct,e,rfl,j,i⟩:=F.ex;exact .all (h kV a d c b ct)
def Po{x qual:Str}{st:Stmt}{f:Addr}{i:ŋ}{od e:Option Addr}{d:Array (Option ŋ)}{kV b h a ct:ŋ}(l:K.lookup f=some ⟨i,od,.func (PySem.W.fnOf x qual (mR st) (gQ st) (zQ st) .none kV b h e a ct),d⟩)
  (c:PySem.W.codeIn K a qual=true) (k:PySem.W.keepIn K (.ref f)=true):Fun K x qual st f (PySem.W.fnOf x qual (mR st) (gQ st) (zQ st) .none kV b h e a ct):=⟨⟨i,od,kV,b,h,e,a,ct,d,rfl,l,c⟩,k⟩
end
section
variable{X:Cx}
def pv(i:Nat){x:Str}{pos:Pos}(b:X.N[i]? =some x:=by rfl)(a:Wh X.env.scope x:=by first |exact Or.inl rfl|exact Or.inr (Or.inl rfl)|exact Or.inr (Or.inr rfl))(hd:(x==("__debug__":Str))=false:=by decide)
  (hcd:(x==("__classdict__":Str))=false:=by decide):PE X (.Name x pos) (Wi i):=Oe b a hd hcd
end
end L2
set_option maxHeartbeats 4000000
namespace L2
open PySem PySem.Spec PyProof.Rows
variable{sc:Scope}{elt iter:Expr}{ifs:B8}{pos:Pos}
noncomputable def pU(a:Env)(l:List (Str×NameKind))(cs:List (Str×Addr)):List (Str×Addr):=
 l.foldl (λc y=>if y.2==.free then(y.1,(a.cells.lookup y.1).getD 0)::c else c) cs
def JO{α β:Type}{l:List α}{f:α->β->Sem (ForInStep β)}{g:β->α->β}: ∀(c:β),(∀x∈l, ∀c,f x c=pure (.yield (g c x)))->
  forIn l c f=pure (l.foldl g c):=by
 induction l with
 |nil=>intro c _;rfl
 |cons x l ih=>
  intro c h;rw[forIn_cons,h x mF0];exact ih _ λy a=>h y (mO _ a)
def GE{b:Scope}{d:Env}(h: ∀y∈b.names,y.2=.free-> ∃c,d.cells.lookup y.1=some c):closureFor b d=pure (pU d b.names []):=by
 unfold closureFor pU;dsimp only;rw[JO [] ?_]
 .rfl
 .intro y m c;obtain⟨n,k⟩:=y;by_cases j:k=.free
  .subst j;obtain⟨a,o⟩:=h _ m rfl;have i:=o;simp[cellOf,i]
  .have e:=by simpa using j
   simp[e]
theorem BD{a:Env}: ∀(l:List (Str×NameKind))(cs:List (Str×Addr)),(∀y∈l,y.2=.free-> ∃c,a.cells.lookup y.1=some c)->(∀p∈cs,a.cells.lookup p.1=some p.2)->
  ∀p∈pU a l cs,a.cells.lookup p.1=some p.2
 |[],_,_,h=>h
 |(n,k)::l,cs,hl,h=>by
  refine BD l _ (λy j=>hl y (mO _ j)) λp d=>?_;by_cases i:k=.free
  .subst i;obtain⟨c,m⟩:=hl _ mF0 rfl;have e:=m;have b:p∈_::cs:=d;rcases mC.mp b with rfl|d
   .show a.cells.lookup n=some _;rw[e];rfl
   .exact h p d
  .have b:p∈(if _=true then _::cs else cs):=d;rw[iN (by simpa using i)]at b;exact h p b
theorem DU{a:Env}: ∀(l:List (Str×NameKind))(cs:List (Str×Addr))(p:Str×Addr),p∈cs->p∈pU a l cs
 |[],_,_,h=>h
 |_::l,cs,p,h=>by
  refine DU l _ p ?_;show p∈(if _=true then _::cs else cs);split
  .exact mO _ h
  .exact h
theorem pV{a:Env}: ∀(l:List (Str×NameKind))(cs:List (Str×Addr))(n:Str),(n,NameKind.free)∈l-> ∃c,(n,c)∈pU a l cs
 |[],_,_,h=>nomatch h
 |(m,k)::l,cs,n,h=>by
  rcases mC.mp h with e|h
  .have d:=congrArg Prod.fst e;have b:=congrArg Prod.snd e;subst d b;exact⟨_,DU l _ _ mF0⟩
  .exact pV l _ n h
theorem jK{β:Type}: ∀{l:List (Str×β)}{n:Str},(∃c,(n,c)∈l)-> ∃c,l.lookup n=some c
 |[],_,h=>let ⟨_,z⟩:=h;nomatch z
 |(m,b)::l,n,h=>by
  by_cases e:n=m
  .subst e;exact⟨b,by simp[ň]⟩
  .obtain⟨c,a⟩:=h;rcases mC.mp a with z|z
   .cases z;exact absurd rfl e
   .obtain⟨d,h'⟩:=jK ⟨c,z⟩;refine⟨d,?_⟩;have i:(n==m)=false:=by simpa using e
    simp[ň,i,h']
noncomputable def Af(a b:Scope):List (Str×NameKind):=a.names.map λ(n,k)=>if(k==.free&&b.kind==.function&&b.names.lookup n==some .cell)then(n,.cell)else(n,k)
noncomputable def rS(a:Scope)(N:B0)(sc:Scope)(idx:Db):Bool:=
 decide (sc.kind=.function)&&sc.names.all (λy=>decide (sc.names.lookup y.1=some y.2))&&
 sc.names.all (λy=>decide (y.2≠.free) || decide (a.names.lookup y.1=some .cell) || decide (a.names.lookup y.1=some .free))&&
 idx.all (λi=>match N[i]? with
  |some y=>(decide (a.names.lookup y=some .cell) || decide (a.names.lookup y=some .free))&&decide (sc.names.lookup y=some .free)
  |none=>false)
abbrev ZK(a:Env)(sc:Scope)(C:Addr):List (Str×Addr):=cellsFrom (C+1) sc.names (pU a sc.names [])
theorem xL: ∀(l:List (Str×NameKind))(n:Nat)(a:List (Str×Addr)),cellsFrom n l a=cellsFrom n l []++a
 |[],n,a=>rfl
 |_::l,n,a=>by
  unfold cellsFrom;split
  .rw[xL l _ _,xL l _ [_],aA];rfl
  .exact xL l n a
theorem tK: ∀(l:List (Str×NameKind))(n:Nat){x:Str}{c:Addr},(x,c)∈cellsFrom n l []->(x,NameKind.cell)∈l/\n<=c
 |[],n,x,c,h=>nomatch h
 |(y,k)::l,n,x,c,h=>by
  unfold cellsFrom at h;split at h
  .rename_i d;rw[xL]at h;rcases é.mp h with h|h
   .obtain⟨h1,b⟩:=tK l _ h;exact⟨mO _ h1,by lia⟩
   .have e:=mS.mp h;cases e;have a:=by simpa using d
    subst a;exact⟨mF0,à _⟩
  .obtain⟨h1,b⟩:=tK l n h;exact⟨mO _ h1,b⟩
def sP{l:List (Str×NameKind)}{C:Nat}{x:Str}{c:Addr}(h:(x,c)∈cellsFrom (C+1) l []){n:Nat}(a:n<=C):n<c:=ŉ a (tK l _ h).2
theorem qW: ∀(l:List (Str×NameKind))(n:Nat){x:Str},(x,NameKind.cell)∈l-> ∃c,(x,c)∈cellsFrom n l []
 |[],n,x,h=>nomatch h
 |(y,k)::l,n,x,h=>by
  unfold cellsFrom;rcases mC.mp h with e|h
  .cases e;rw[xL];exact⟨n,ó _ mF0⟩
  .split
   .obtain⟨c,a⟩:=qW l _ h;rw[xL];exact⟨c,ă _ a⟩
   .exact qW l n h
theorem own_apart: ∀(l:List (Str×NameKind))(n:Nat),(cellsFrom n l []).Pairwise λx y=>x.2≠y.2
 |[],n=>List.Pairwise.nil
 |_::l,n=>by
  unfold cellsFrom;split
  .rw[xL];refine ê.mpr ⟨own_apart l _,List.pairwise_singleton _ _,λa c b d e=>?_⟩;rw[mS.mp d]at e;have:=(tK l _ c).2;exact ø this e
  .exact own_apart l n
theorem mT{β:Type}(x:Str): ∀(l m:List (Str×β)),(l++m).lookup x=(l.lookup x).or (m.lookup x)
 |[],m=>rfl
 |(y,b)::l,m=>by
  rw[Į,ň,ň]
  cases x==y with
  |true=>rfl
  |false=>exact mT x l m
theorem HG{β:Type}{x:Str}: ∀{l:List (Str×β)},(∀c,(x,c)∉l)->l.lookup x=none
 |[],_=>rfl
 |(y,b)::l,h=>by
  rw[ň]
  cases e:x==y with
  |true=>rw[beq_iff_eq.mp e]at h;exact absurd mF0 (h b)
  |false=>exact HG λc a=>h c (mO _ a)
def aW{a:Env}{C:Addr}{x:Str}{c:Addr}(e:(ZK a sc C).lookup x=some c):(x,c)∈cellsFrom (C+1) sc.names []\/(pU a sc.names []).lookup x=some c:=by
 unfold ZK at e;rw[xL,mT]at e
 cases z:(cellsFrom _ sc.names []).lookup x with
 |some c'=>rw[z]at e;cases e;exact .inl (PySem.mem_of_lookup z)
 |none=>rw[z]at e;exact .inr e
def Pp{a:Env}{C:Addr}{x:Str}{c:Addr}(h:(x,NameKind.cell)∈sc.names)(e:(ZK a sc C).lookup x=some c):(x,c)∈cellsFrom (C+1) sc.names []:=by unfold ZK at e;rw[xL,mT]at e;obtain⟨b,h'⟩:=jK (qW sc.names _ h);rw[h']at e;cases e;exact PySem.mem_of_lookup h'
theorem Gv{a:Env}{C:Addr}{x:Str}(h:(x,NameKind.cell)∉sc.names):(ZK a sc C).lookup x=(pU a sc.names []).lookup x:=by unfold ZK;rw[xL,mT,HG λc b=>h (tK _ _ b).1];rfl
noncomputable def vM(σ:St)(idx:Db):St:=idx.map λi=>(σ[i]?).join
def iB(σ:St)(idx:Db):(vM σ idx).length=idx.length:=by unfold vM;rw[lM]
def zM(X:Cx)(sc:Scope)(T:B0)(idx:Db)(C:Addr)(s₂:Ŋ)(H1:Hp)(fp:A9):Cx where
 prog:=X.prog
 w:=X.w
 K:=X.K
 mg:=X.mg
 base:=X.base
 A:=X.A
 N:=T++idx.map λi=>(X.N[i]?).getD Str.empty
 s₀:=s₂
 H₀:=H1
 env:=compEnvC sc (ZK X.env sc C) C X.env
 outer:=X.stack
 stack:=X.stack
 ex:=fp
 fn:=λx=>sc.names.lookup x==some .cell
 calm:=X.calm
 pn:=[]
 xe:=λ_ _=>False
def Ag(n:TI)(g:TG)(k:Addr->Ŋ->Hp->List Addr->TT)(te:Addr->Ŋ->Hp->List Addr->TE)(nt:Nat)(idx:Db):TE:=λσ H Q=>n σ H λJ H1=> ∃W:Nat->Nat->List V->Hp->Prop,(∃m,W 0 m [] H1)/\ ∀i m ys c,W i m ys c->ys.length<=sizeLine/\
 ((J.stop i c/\ ∀D,c D=none->Q (.ref D) (xU c D (.lst ys)))\/
   (J.go i c/\ys.length<sizeLine/\ ∀x h,J.yld i c x h-> ∀τ:St,τ.length=nt->g x (τ++vM σ idx) h λa j=>(∃d,a=d++vM σ idx/\d.length=nt)/\
    ∀C s₂ fp,k C s₂ H1 fp a j λb H5=>if b=true then te C s₂ H1 fp a H5 λy H6=> ∃e,e<m/\W (i+1) e (ys++[y]) H6 else∃e,e<m/\W (i+1) e ys H5))
section
variable{prog:ō}{w:World}{A:Ō}{R:Result->Ŋ->Prop}{s:Ŋ}
def JP{a:Expr}{q:Scope}{it D:ŋ}{d:Env}(I:Nat->Ŋ->Prop)
  (turn: ∀n s,I n s->wpAny (model prog w) A (pyNext it) (λr b=>match r with
   |none=>R (.ok .next) b
   |some v=>wpAny (model prog w) A (letOwnedTupleGo a it v) (λ_ i=>wpAny (model prog w) A (assign a d v) (λ_ s₂=>
     wpAny (model prog w) A (forIn ifs true λc r=>if r=true then do let ok <-isTrue c d (eval c d);pure (ForInStep.yield ok)else pure (ForInStep.yield r)) (λok e=>
      if ok=true then wpAny (model prog w) A (eval elt d) (λx o=>
       wpAny (model prog w) A (call (.builtin "list.append") [D,x]) (λ_ j=> ∃m,m<n/\I m j) (λ_ _=>False) o) (λ_ _=>False) e
      else∃m,m<n/\I m e) (λ_ _=>False) s₂) (λ_ _=>False) i) (λ_ _=>False) b) (λ_ _=>False) s)
  (n:Nat) (h:I n s):codeAny (model prog w) A (.compLoop (.ListComp elt [⟨a,iter,ifs,0⟩] q pos) 0 it D d) R s:=by
 refine codeAny_loop rfl I (λn s F=>?_) n h;show wpAny _ A _ _ _ s;refine wpAny_noted ?_;have y: ∀{G:VP}(v:ŋ)(s':Ŋ),False->G v s':=λ_ _ z=>z.elim;refine wB (wpAny_standAt (wB (û (turn n s F) (λr b p=>?_) (y))))
 cases r with
 |none=>exact wP p
 |some v=>
  refine wB (û p (λ_ i u=>wB (û u (λ_ s₂ C=>wB (û C (λok e k=>?_) y)) y)) y)
  cases ok with
  |false=>exact wP ⟨rfl,k⟩
  |true=>
   exact wB (wB (û k (λx o B=>wB (û B (λ_ j E=>wP (wP ⟨rfl,E⟩)) y)) y))
end
def WX(X:Cx)(ifs:B8)(t:TT):Prop:=
 ∀(pins:B5)(s:Ŋ)(σ:St)(H:Hp)(Q:Bool->Hp->Prop),Inv X pins σ H s->t σ H Q->
  wpAny (model X.prog X.w) X.A (forIn ifs true λc r=>if r=true then do let ok <-isTrue c X.env (eval c X.env);pure (ForInStep.yield ok)else pure (ForInStep.yield r)) (TP X pins σ Q) X.xe s
def Xl:TT:=λ_ H Q=>Q true H
def Ah{X:Cx}:WX X [] Xl:=λ_ _ _ H _ I h=>wpAny_tests_nil ⟨H,I,h⟩
def Ai{X:Cx}{c:Expr}{t:TT}(h:PT X c t):WX X [c] t:=λpins s σ H Q I q=>wpAny_tests_one (h pins s σ H Q I q)
structure CompF(osc:Scope)(N:B0)(sc:Scope)(idx:Db):Prop where
 kind:sc.kind=.function
 uni: ∀y∈sc.names,sc.names.lookup y.1=some y.2
 frees: ∀y∈sc.names,y.2=.free->osc.names.lookup y.1=some .cell\/osc.names.lookup y.1=some .free
 cap: ∀i∈idx, ∃y,N[i]? =some y/\(osc.names.lookup y=some .cell\/osc.names.lookup y=some .free)/\sc.names.lookup y=some .free
def CompF.locs{a:Scope}{N:B0}{idx:Db}(F:CompF a N sc idx): ∀y∈sc.names,y.2=.local->sc.names.lookup y.1=some .local:=λy b e=>by rw[F.uni y b,e]
def Gw{a:Scope}{N:B0}{idx:Db}(h:rS a N sc idx=true):CompF a N sc idx:=by
 unfold rS at h;simp only[aE,ą,decide_eq_true_eq,Bool.or_eq_true]at h;obtain⟨⟨⟨h1,d⟩,c⟩,j⟩:=h;refine⟨h1,λy b=>d y b,λy b e=>?_,λi hi=>?_⟩
 .rcases c y b with(z|z)|z
  .exact absurd e z
  .exact .inl z
  .exact .inr z
 .have q:=j i hi
  cases e:N[i]? with
  |none=>rw[e]at q;cases q
  |some y=>
   rw[e]at q;simp only[aE,decide_eq_true_eq,Bool.or_eq_true]at q;exact⟨y,rfl,q.1,q.2⟩
def Aj{a:Scope}{x:Str}(h:(Af sc a).lookup x=some .cell\/(Af sc a).lookup x=some .free):(x,NameKind.free)∈sc.names\/(x,NameKind.cell)∈sc.names:=by
 have b: ∀c,(c=.cell\/c=.free)->(x,c)∈Af sc a->(x,NameKind.free)∈sc.names\/(x,NameKind.cell)∈sc.names:=by
  intro c d m;obtain⟨⟨n,k⟩,i,e⟩:=mM.mp m;dsimp only at e;split at e
  .rename_i j;cases e;rw[aE,aE]at j;have:=by simpa using j.1.1
   subst this;exact .inl i
  .cases e;rcases d with rfl|rfl
   .exact .inr i
   .exact .inl i
 rcases h with h|h
 .exact b _ (.inl rfl) (PySem.mem_of_lookup h)
 .exact b _ (.inr rfl) (PySem.mem_of_lookup h)
theorem HI{a:Scope}{x:Str}: ∀{l:List (Str×NameKind)},l.lookup x=some .free->(l.map λ(n,k)=>if(k==NameKind.free&&a.kind==.function&&a.names.lookup n==some .cell)then(n,NameKind.cell)else(n,k)).lookup x=some .cell\/(l.map λ(n,k)=>if(k==NameKind.free&&a.kind==.function&&a.names.lookup n==some .cell)then(n,NameKind.cell)else(n,k)).lookup x=some .free
 |[],h=>by simp at h
 |(n,k)::l,h=>by
  have c:=@HI a x l;rw[ň]at h;rw[ä];by_cases d:(k==NameKind.free&&a.kind==.function&&a.names.lookup n==some .cell)=true
  .dsimp only;rw[iP d,ň]
   cases b:x==n with
   |true=>exact .inl rfl
   |false=>rw[b]at h;exact c h
  .dsimp only;rw[iN d,ň]
   cases b:x==n with
   |true=>rw[b]at h;exact .inr h
   |false=>rw[b]at h;exact c h
section
variable{X:Cx}{pins:B5}{σ:St}{H1:Hp}{s₂:Ŋ}{sc:Scope}{T:B0}{idx:Db}{C:Addr}{fp:A9}
def NB(I:Inv X pins σ H1 s₂)(F:CompF X.env.scope X.N sc idx): ∀y∈sc.names,y.2=.free-> ∃c,X.env.cells.lookup y.1=some c:=
 λy a e=>I.ok.has y.1 (F.frees y a e)
def kT(I:Inv X pins σ H1 s₂)(F:CompF X.env.scope X.N sc idx){x:Str}{c:Addr}(e:(pU X.env sc.names []).lookup x=some c):X.env.cells.lookup x=some c:=
 BD sc.names [] (NB I F) (λ_ z=>nomatch z) _ (PySem.mem_of_lookup e)
def Gx(I:Inv X pins σ H1 s₂)(F:CompF X.env.scope X.N sc idx){x:Str}{c:Addr}(a:(x,NameKind.free)∈sc.names)(e:X.env.cells.lookup x=some c):(pU X.env sc.names []).lookup x=some c:=by obtain⟨b,h'⟩:=jK (pV sc.names [] x a);rw[h'];rw[kT I F h']at e;exact e
def WY(I:Inv X pins σ H1 s₂)(F:CompF X.env.scope X.N sc idx)(hC:s₂.heap.objs.size<=C)(hfp: ∀b∈fp,pP X pins H1 b)(hlt: ∀b∈fp,b<s₂.heap.objs.size):(zM X sc T idx C s₂ H1 fp).Ok where
 mod:=I.ok.mod
 kind:=F.kind
 glob:=I.ok.glob
 blt:=I.ok.blt
 above:=hC
 inj:=λx y c h1 h2=>by
  have low: ∀z,(pU X.env sc.names []).lookup z=some c->c<s₂.heap.objs.size:=λz h=>let ⟨v,q⟩:=I.cell z c (kT I F h);q.lt;rcases aW h1 with z1|z1<;>rcases aW h2 with z2|z2
  .exact PySem.name_of_addr (own_apart sc.names (C+1)) z1 z2
  .exact absurd (low y z2) (Nat.not_lt.mpr (le_of_lt (sP z1 hC)))
  .exact absurd (low x z1) (Nat.not_lt.mpr (le_of_lt (sP z2 hC)))
  .exact I.ok.inj x y c (kT I F z1) (kT I F z2)
 has:=λx hx=>by
  have hx':(Af sc X.env.scope).lookup x=some .cell\/(Af sc X.env.scope).lookup x=some .free:=hx;show∃c,(ZK X.env sc C).lookup x=some c;unfold ZK;rw[xL];rcases Aj hx' with z|z
  .obtain⟨c,hc⟩:=pV sc.names [] x z;exact jK ⟨c,ó _ hc⟩
  .obtain⟨c,hc⟩:=qW sc.names (C+1) z;exact jK ⟨c,ă _ hc⟩
 cab:=λx c h e=>by have h':sc.names.lookup x=some .cell:=beq_iff_eq.mp h;exact le_of_lt (sP (Pp (PySem.mem_of_lookup h') e) hC)
 hd:=I.ok.hd
 frames:=I.ok.frames
 stk:=.inl rfl
 exf:=λb hb=>⟨ë (ç (hlt b hb) hC),λx c e=>by
  rcases aW e with z|z
  .exact ø (lt_trans (hlt b hb) (sP z hC))
  .exact(hfp b hb).2.2.2.2.1 x c (kT I F z)⟩
 bs:=I.bs
 bsz:=õ I.ok.bsz I.sz
 noex:=λb o e hb=>by
  rcases (hfp b hb).2.2.2.1 with z|z
  .exact I.ok.noex b o e z
  .exact absurd (ç (â e) (õ I.ok.bsz z)) (ı _)
 exfs:=λb hb z=>by
  rcases mC.mp (I.stkSub b z)with e|e
  .exact(hfp b hb).2.1 e
  .exact(hfp b hb).2.2.1 e
 funs:=I.stack
 frf:=I.stkFree
theorem QX{d:Ŋ}{m:B3}(I:Inv X pins σ H1 s₂)(F:CompF X.env.scope X.N sc idx)(w:s₂.heap.objs.size<=C)(A: ∀b∈fp,pP X pins H1 b)(E: ∀b∈fp,b<s₂.heap.objs.size)
  (kp: ∀b o,s₂.heap.get? b=some o->d.heap.get? b=some o) (ho:d.os=s₂.os) (hg:d.gens=s₂.gens) (hn:d.heap.Ns C m) (hcl: ∀x c,(x,c)∈cellsFrom (C+1) sc.names []->d.heap.IsCell c none):
  Inv (zM X sc T idx C s₂ H1 fp) [] (T.map (λ_=>none)++vM σ idx) H1 d:=by
 have k: ∀c v,s₂.heap.IsCell c v->d.heap.IsCell c v:=λc v ⟨o,h1,K⟩=>⟨o,kp c o h1,K⟩
 refine⟨WY I F w A E,ho,by rw[hg];exact I.bare,Un.kept kp,⟨m,hn,λi x v L h U=>?_⟩,λx c e=>?_,I.hok.fresh w,λx c e=>?_,λp Q=>absurd (show p∈([]:List _)from Q) (by simp),I.hok.kept kp,?_⟩
 .have n:(T++idx.map λi=>(X.N[i]?).getD Str.empty)[i]? =some x:=L;by_cases hi:i<T.length
  .rw[á (by simpa using hi),ö]at h
   cases z:T[i]? with
   |none=>rw[z]at h;cases h
   |some y=>rw[z]at h;cases h
  .rw[æ (by simpa using hi)]at h;rw[æ #[0]]at n;rw[lM]at h;unfold vM at h;rw[ö]at n h
   cases z:idx[i - T.length]? with
   |none=>rw[z]at h;cases h
   |some j=>
    rw[z]at n h;have J:=è z;obtain⟨y,H,k1,k2⟩:=F.cap j J;have ex:=by have q:(X.N[j]?).getD Str.empty=x:=å n;rw[H]at q;exact q
    subst ex
    have P:σ[j]? =some (some v):=by
     have q:(σ[j]?).join=some v:=å h
     cases G:σ[j]? with
     |none=>rw[G]at q;cases q
     |some a=>rw[G]at q;have M:a=some v:=q;rw[M]
    obtain⟨W,O,D⟩:=I.loc;have B:Wh X.env.scope y:=k1.elim (λz=>.inr (.inl z)) λz=>.inr (.inr z);obtain⟨u,r,l⟩:=D j y v H P B;refine⟨u,r,?_⟩;rcases l with⟨kl,_⟩|⟨_,c,hc,q⟩
    .have s:X.env.scope.names.lookup y=some .local:=kl;rcases k1 with z|z<;>rw[z]at s<;>cases s
    .have S:(y,NameKind.cell)∉sc.names:=λz=>by have:=F.uni _ z;rw[k2]at this;cases this
     refine .inr ⟨HI k2,c,?_,k c _ q⟩;show(ZK X.env sc C).lookup y=some c;rw[Gv S];exact Gx I F (PySem.mem_of_lookup k2) hc
 .rcases aW e with z|z
  .exact⟨none,hcl x c z⟩
  .obtain⟨v,q⟩:=I.cell x c (kT I F z);exact⟨v,k c v q⟩
 .rcases aW e with z|z
  .exact I.hok.fresh (le_of_lt (sP z w))
  .exact I.freeC x c (kT I F z)
 .show(T.map (λ_=>_)++vM σ idx).length=(T++idx.map λi=>(X.N[i]?).getD Str.empty).length;rw[lA,lA,lM,lM,iB]
def QY{m:St}{H':Hp}{s':Ŋ}{h':Heap}{D:Addr}{ys:List V}{its:A0}{n:Nat}(I:Inv X pins σ H1 s₂)(s:s₂.heap.objs.size<=C)(h: ∀b∈fp,pP X pins H1 b)
  (J:Inv (zM X sc T idx C s₂ H1 fp) [] m H' s') (hs:Heap.SameBut C s'.heap h') (hD:s₂.heap.objs.size<=D) (hDC:D≠C) (eD:s'.heap.get? D=some {cls:=.type "list",data:=.seq its.toArray n}) (nD:H' D=none) (r:Vals ys its) (hz:ys.length<=sizeLine):
  Inv X pins σ (xU H' D (.lst ys)) {s' with heap:=h'}:=by
 have old: ∀b o,s₂.heap.get? b=some o->b≠C/\b≠D:=λb o e=>⟨ë (ç (â e) s),ë (ç (â e) hD)⟩
 have d: ∀b u,H1 b=some u->b≠D:=λb u e=>ë (ç (I.hok.lt e) hD);have p:=J.free;have B:Un _ fp H1 H' s₂.heap s'.heap:=J.base;have j: ∀b o,b≠C->s'.heap.get? b=some o->h'.get? b=some o:=λb o a e=>(hs.2 b a).trans e;refine I.call' J.os ⟨λb o e q a i=>?_,λb o e q a i=>?_,λb o e q i=>?_,λb o e i=>?_,λb xs e=>?_,λb o u e=>?_,λb ps e=>?_⟩ ?_ J.bare λb a=>⟨(h b a).2.2.2.1,(h b a).2.1,(h b a).2.2.2.2.1,(h b a).2.2.2.2.2⟩
 .exact j b o (old b o e).1 (B.keep b o e q a i)
 .obtain⟨sl,z⟩:=B.slot b o e q a i;exact⟨sl,j b _ (old b o e).1 z⟩
 .rw[zH (old b o e).2];exact B.free b o e q i
 .obtain⟨o',z⟩:=B.there b o e i;exact⟨o',j b o' (old b o e).1 z⟩
 .rw[zH (d b _ e)];exact B.tups b xs e
 .rw[zH (d b _ e)];exact B.frzs b o u e
 .obtain⟨k,z⟩:=B.tbls b ps e;exact⟨k,by rw[zH (d b _ e)];exact z⟩
 .intro b u e;by_cases a:b=D
  .subst a;rw[zT]at e;cases e;exact⟨hz,its,n,r,j b _ hDC eD⟩
  .rw[zH a]at e;refine(J.hok b u e).stay (λc v w q=>j c v ?_ q) (λc q=>by rw[zH (zP q nD)];exact q) λc xs q=>by rw[zH (zP q nD)];exact q
   rcases w with z|z
   .rw[z];exact zP e p
   .exact zP z p
end
section
variable{X:Cx}
def GF{M:Model}{A:Ō}{E:VP}{s:Ŋ}{a:Scope}{c:Addr}{b:List (Str×Addr)}{qual:Str}{d:Env}{Q:Env->Ŋ->Prop}
  (hQ:Q (newEnv a ↑0 c (cellsFrom (↑0+1) a.names b) qual none .none (some d) builtinsNs) {s with heap:=pushCells (s.heap.push {cls:=.type "dict",data:=.dict #[]}) a.names}):
  wpAny M A (newFunctionEnv a c b [] qual none .none (some d)) Q E s:=by
 simp only[newFunctionEnv,Option.isSome_some,if_true];refine wB (wpAny_alloc ?_);refine wB (wpAny_layCells _ (λname kind e=>by cases h:kind==NameKind.cell<;>simp[h]) _ _ _ _ ?_);rw[show({s with heap:=s.heap.push {cls:=.type "dict",data:=.dict #[]}}:Ŋ).heap.objs.size=↑0+1 from į ..];exact wB (wP (wP hQ))
theorem NC{C:Cx->Prop}{tg:Expr}{wi:TI}{g:TG}{tc:Addr->Ŋ->Hp->List Addr->TT}{te:Addr->Ŋ->Hp->List Addr->TE}(T:B0)(idx:Db)
  (hi:Ws C X tg iter wi) (hCx: ∀c s₂ B fp pins σ,Inv X pins σ B s₂->C (zM X sc T idx c s₂ B fp)) (hB:rS X.env.scope X.N sc idx=true)
  (hg: ∀C s₂ H1 fp,PG (zM X sc T idx C s₂ H1 fp) tg g)
  (hc: ∀C s₂ H1 fp,WX (zM X sc T idx C s₂ H1 fp) ifs (tc C s₂ H1 fp))
  (he: ∀C s₂ H1 fp,PE (zM X sc T idx C s₂ H1 fp) elt (te C s₂ H1 fp))
  (hs: ∀x,foldedSetIterable iter X.env x=pure x:=by intro _;rfl)
  {pins:B5} {s:Ŋ} {σ:St} {H:Hp} {Q:VK} {use:Option (ŋ->Sem Unit)} {Q':VP} (I:↑2) (h:Ag wi g tc te T.length idx σ H Q)
  (fin: ∀(D C:Addr)(O:Ŋ)(H':Hp)(r:_),(∀h',Heap.SameBut C O.heap h'->Inv X pins σ H' {O with heap:=h'})->pP X pins H' C->(∃m,O.heap.Ns C m)->Q (.ref D) H'->
   compPost (model X.prog X.w) X.A X.xe use Q' (.ref D) C (.ok r) O):
  wpAny (model X.prog X.w) X.A (comprehension (.ListComp elt [⟨tg,iter,ifs,0⟩] sc pos) sc X.env (firstIterPos [⟨tg,iter,ifs,0⟩] pos) (newList []) false (eval iter X.env) use) Q' X.xe s:=by
 have cf:=Gw hB;refine wpAny_comprehension_free rfl hs (GE (NB I cf)) cf.kind cf.locs ?_;refine jI (hi pins s σ H _ I h) λv s1 h1=>jI h1 λa9 a h2=>?_;obtain⟨it,fp,tn,J,B,e,P,M,ai,f2,W,⟨m0,w0⟩,au⟩:=h2;subst e;have Z: ∀b∈fp,b<a.heap.objs.size:=λb j=>let ⟨o,e,_⟩:=M.obj _ _ ai b j;â e;refine ć (GF ?_);dsimp only;generalize ae:a.heap.push {cls:=.type "list",dict:=none,data:=.seq ([]:A0).toArray}=HH;generalize ab:pushCells (HH.push {cls:=.type "dict",data:=.dict #[]}) sc.names=h₁;have U:h₁.Ns HH.objs.size (λ_=>none):=ab▸(Heap.Ns.new HH (.type "dict")).keeps (pushCells_keeps _ _);have hC:HH.objs.size=a.heap.objs.size+1:=by rw[<-ae,į]
 have S:a.heap.objs.size≠HH.objs.size:=by rw[hC];exact ë (Nat.lt_succ_self _)
 have E:a.heap.objs.size<=HH.objs.size:=by rw[hC];exact le_succ _
 have aw: ∀b o,HH.get? b=some o->h₁.get? b=some o:=λb o e=>ab▸pushCells_keeps _ _ b o (hP0 _ e);have old: ∀b o,a.heap.get? b=some o->h₁.get? b=some o:=λb o e=>aw b o (ae▸hP0 _ e);have a3:h₁.get? a.heap.objs.size=some {cls:=.type "list",data:=.seq ([]:A0).toArray 0}:=aw _ _ (ae▸ã _ rfl);have az: ∀x c,(x,c)∈cellsFrom (HH.objs.size+1) sc.names []->h₁.IsCell c none:=λx c hm=>by have ok:=cellsFrom_ok sc.names (HH.push {cls:=.type "dict",data:=.dict #[]}) 0 [] ⟨λ_ _ hm=>(nomatch hm),List.Pairwise.nil⟩ (zero_le _);rw[į,ab]at ok;exact(ok.empty x c hm).1
 have a4:B a.heap.objs.size=none:=P.hok.fresh (à _)
 have cD: ∀x c,(ZK X.env sc HH.objs.size).lookup x=some c->c≠a.heap.objs.size:=λx c e=>by
  rcases aW e with z|z
  .exact ø (sP z E)
  .obtain⟨v,q⟩:=P.cell x c (kT P cf z);exact ë q.lt
 have Y: ∀O:Ŋ,O={a with heap:=h₁}->
   codeAny (model X.prog X.w) X.A (.compLoop (.ListComp elt [⟨tg,iter,ifs,0⟩] sc pos) 0 (.ref it) (.ref a.heap.objs.size) (compEnvC sc (ZK X.env sc HH.objs.size) HH.objs.size X.env))
    (compPost (model X.prog X.w) X.A X.xe use Q' (.ref a.heap.objs.size) HH.objs.size) O:=by
  rintro O rfl
  have J0:Inv (zM X sc T idx HH.objs.size a B fp) [] (T.map (λ_=>none)++vM σ idx) B {a with heap:=h₁}:=
   QX P cf E f2 Z old rfl rfl U az
  refine JP (λk s'=> ∃(i:Nat)(ys:List V)(its:A0)(n:Nat)(H':Hp)(τ:St),Inv (zM X sc T idx HH.objs.size a B fp) [] (τ++vM σ idx) H' s'/\τ.length=T.length/\tn i s'.heap/\(∀b∈fp,H' b=none)/\
   s'.heap.get? a.heap.objs.size=some {cls:=.type "list",data:=.seq its.toArray n}/\H' a.heap.objs.size=none/\Vals ys its/\W i k ys H') ?_ m0
   ⟨0,[],[],0,B,_,J0,by rw[lM],M.keep _ _ _ ai λb _ o e=>old b o e,λb j=>(f2 b j).1,a3,a4,.nil,w0⟩
  rintro k s3 ⟨i,ys,its,n,H3,τ,I3,ax,av,ao,a7,ag,r3,w3⟩;obtain⟨hz,a5⟩:=au i k ys H3 w3;have ar:a.heap.objs.size∉(zM X sc T idx HH.objs.size a B fp).fs:=λz=>by obtain⟨_,o,ho,_⟩:=P.stack.mem (show a.heap.objs.size∈WK X.stack from z);exact absurd (â ho) (ı _)
  have aq: ∀{H':Hp}{s':Ŋ},s'.heap.get? a.heap.objs.size=some {cls:=.type "list",data:=.seq its.toArray n}->H' a.heap.objs.size=none->
    ∀p∈[(a.heap.objs.size,({cls:=.type "list",data:=.seq its.toArray n}:Obj))],s'.heap.get? p.1=some p.2/\H' p.1=none/\p.1≠(zM X sc T idx HH.objs.size a B fp).env.locals/\p.1∉(zM X sc T idx HH.objs.size a B fp).fs/\ ∀v,p.2.data≠.cell v:=
   λ{H' s'} e1 e2 p K=>by
    have ep:p=(a.heap.objs.size,{cls:=.type "list",data:=.seq its.toArray n}):=by simpa using K
    subst ep;exact⟨e1,e2,S,ar,λv z=>by cases z⟩
  have P3:Inv (zM X sc T idx HH.objs.size a B fp) [_] (τ++vM σ idx) H3 s3:=I3.pins_of (aq a7 ag)
  have G: ∀{H':Hp},(∀b∈fp,H' b=none)-> ∀b∈fp,pP (zM X sc T idx HH.objs.size a B fp) [_] H' b:=λ{H'} hn b j=>by
   have aa:=Z b j;refine⟨hn b j,ë (ç aa E),I3.ok.exfs b j,.inl j,λx c e=>?_,λp K=>?_⟩
   .rcases aW e with z|z
    .exact ø (lt_trans aa (sP z E))
    .exact(f2 b j).2.2.2.2.1 x c (kT P cf z)
   have ep:p=(a.heap.objs.size,({cls:=.type "list",data:=.seq its.toArray n}:Obj)):=by simpa [zM]using K
   subst ep;exact ø aa
  rcases a5 with⟨stop,q⟩|⟨go,hl2,step⟩
  .refine jI (M.done (zM X sc T idx HH.objs.size a B fp) rfl rfl rfl (hCx _ _ _ _ _ _ P) i _ s3 _ H3 (λ_ _=>False) P3 (G ao) av stop) λr O ⟨hr,I4⟩=>?_;subst hr;obtain⟨m,hn,_⟩:=id I4.loc;have a0:=(I4.pin (a.heap.objs.size,{cls:=.type "list",data:=.seq its.toArray n}) (by simp)).1;exact fin _ _ O _ _ (λh' a6=>QY P E f2 (I4.pins_of (λp K=>nomatch K)) a6 (à _) S a0 ag r3 hz) (P.fpOk E (by rw[zH (Ne.symm S)];exact I4.free)) ⟨m,hn⟩ (q _ ag)
  .refine jI (M.item (zM X sc T idx HH.objs.size a B fp) rfl rfl rfl (hCx _ _ _ _ _ _ P) i _ s3 _ H3 (λ_ _=>False) P3 (G ao) av go) λr O ⟨u,hr,h4⟩=>?_;subst hr;refine jI h4 λ_ s5 ⟨x,H5,I5,r5,y5,L,aR⟩=>?_;have ay:=I5.pinned (G aR) (M.obj _ _ L);refine jI (hg HH.objs.size a B fp _ s5 _ H5 x u _ ay r5 (step x H5 y5 τ ax)) λ_ s6 ⟨a8,H6,I6,⟨aj,e6,l6⟩,q6⟩=>?_;subst e6;refine jI (hc HH.objs.size a B fp _ s6 _ H6 _ I6 (q6 HH.objs.size a fp)) λok s7 ⟨H7,I7,q7⟩=>?_
   have mD:(a.heap.objs.size,({cls:=.type "list",data:=.seq its.toArray n}:Obj))∈(zM X sc T idx HH.objs.size a B fp).pn++([(a.heap.objs.size,{cls:=.type "list",data:=.seq its.toArray n})]++sM fp s5.heap):=
    ó _ (ă _ (by simp))
   have mF: ∀b∈fp, ∀o,s5.heap.get? b=some o->(b,o)∈(zM X sc T idx HH.objs.size a B fp).pn++([(a.heap.objs.size,{cls:=.type "list",data:=.seq its.toArray n})]++sM fp s5.heap):=λb j o e=>
    ó _ (ó _ (sN j e))
   cases ok with
   |false=>
    rw[iN xF0]at q7 ⊢;obtain⟨m',af,w7⟩:=q7;refine⟨m',af,i+1,ys,its,n,H7,aj,I7.pins_of (λp K=>nomatch K),l6,M.keep _ _ _ L λb j o e=>(I7.pin _ (mF b j o e)).1,λb j=>?_,(I7.pin _ mD).1,(I7.pin _ mD).2.1,r3,w7⟩;obtain⟨o,e,d⟩:=M.obj _ _ L b j;exact(I7.pin _ (mF b j o e)).2.1
   |true=>
    rw[iP rfl]at q7 ⊢;refine jI (he HH.objs.size a B fp _ s7 _ H7 _ I7 q7) λy s8 ⟨yv,H8,I8,r8,m',af,w8⟩=>?_;have ah:=(I8.pin _ mD).1;have ak:=(I8.pin _ mD).2.1;have hl:=r3.length;have q:=PySem.IsL.update ah (λz=>z.push y);rw[show its.toArray.push y=(its++[y]).toArray by simp]at q;refine Ĺ PySem.F.slot_list_append ⟨_,ah,rfl⟩ PySem.F.entry_list_append (PySem.F.args_list_append_2 _ _) (PySem.list_append a.heap.objs.size its.toArray n y (by rw[sA0];lia)) ⟨ah,?_⟩;have I9:Inv (zM X sc T idx HH.objs.size a B fp) [] (aj++vM σ idx) H8 s8:=I8.pins_of (λp K=>nomatch K);have up: ∀b o,b≠a.heap.objs.size->s8.heap.get? b=some o->(s8.heap.update a.heap.objs.size (Obj.mapSeq λz=>z.push y)).get? b=some o:=λb o j e=>(ý s8.heap _ (Ne.symm j)).trans e;refine⟨m',af,i+1,_,_,_,H8,aj,I9.turned up ak S (.inr (à _)) cD (λp K=>nomatch K),l6,?_,λb j=>?_,q,ak,r3.append (.cons r8 .nil),w8⟩
    .exact M.keep _ _ _ L λb j o e=>up b o (ë (Z b j)) (I8.pin _ (mF b j o e)).1
    .obtain⟨o,e,d⟩:=M.obj _ _ L b j;exact(I8.pin _ (mF b j o e)).2.1
 exact codeAny_compStart_list (Y _ rfl) (M.self X.A 0 _ _ _ (M.keep _ _ _ ai λb _ o e=>old b o e) (Y _ rfl))
def Gy{C:Cx->Prop}{tg:Expr}{e:TI}{g:TG}{d:Addr->Ŋ->Hp->List Addr->TT}{te:Addr->Ŋ->Hp->List Addr->TE}(T:B0)(idx:Db)
  (hi:Ws C X tg iter e) (hCx: ∀c s₂ b fp pins σ,Inv X pins σ b s₂->C (zM X sc T idx c s₂ b fp)) (hB:rS X.env.scope X.N sc idx=true)
  (hg: ∀C s₂ H1 fp,PG (zM X sc T idx C s₂ H1 fp) tg g)
  (hc: ∀C s₂ H1 fp,WX (zM X sc T idx C s₂ H1 fp) ifs (d C s₂ H1 fp))
  (he: ∀C s₂ H1 fp,PE (zM X sc T idx C s₂ H1 fp) elt (te C s₂ H1 fp))
  (hs: ∀x,foldedSetIterable iter X.env x=pure x:=by intro _;rfl):
  PE X (.ListComp elt [⟨tg,iter,ifs,0⟩] sc pos) (Ag e g d te T.length idx):=by
 intro pins s σ H Q I h;exact NC T idx hi hCx hB hg hc he hs I h λD C j H' r J _ ⟨m,i⟩ q=>⟨m,i,λh' a=>⟨.ref D,H',J h' a,rfl,q⟩⟩
end
noncomputable def fX(x:Db):Str:=⟨x.toArray⟩
def gR(x:Db):(fX x).length=x.length:=by simp[fX,Str.length]
def Gz(x:Db):(fX x).cps.toList=x:=by simp[fX]
def tL{x y:Db}(h:fX x=fX y):x=y:=by have:=congrArg (λs=>s.cps.toList) h;simpa [fX]using this
def Ha(x y:Db):fX x++fX y=fX (x++y):=by show Str.append _ _=_;simp[Str.append,fX]
theorem Hb(c:Nat):(⟨#[c]⟩:Str)=fX [c]:=rfl
def fY{α:Type}(xs:List α)(lo hi:B7):List α:=(xs.drop (HT.sIx xs.length 0 lo)).take (HT.sIx xs.length xs.length hi - HT.sIx xs.length 0 lo)
theorem strIdx(lo hi:B7)(n:Nat):Builtin.Str.strSliceIndices lo hi 1 n=(List.range (HT.sIx n n hi - HT.sIx n 0 lo)).map (HT.sIx n 0 lo+·):=by
 have b:(match lo with |none=>(if(1:Int)>0 then(0:Int)else(n:Int) - 1)|some i=>if(1:Int)>0 then max 0 (min (if i<0 then i+(n:Int)else i) (n:Int))else max (-1) (min (if i<0 then i+(n:Int)else i) ((n:Int) - 1)))=((HT.sIx n 0 lo:Nat):Int):=by
  cases lo with
  |none=>simp[HT.sIx]
  |some i=>
   simp only[HT.sIx,show(1:Int)>0 by decide,if_true];by_cases h:i<0
   .simp only[h,if_true];lia
   .simp only[h,iF];lia
 have a:(match hi with |none=>(if(1:Int)>0 then(n:Int)else -1)|some i=>if(1:Int)>0 then max 0 (min (if i<0 then i+(n:Int)else i) (n:Int))else max (-1) (min (if i<0 then i+(n:Int)else i) ((n:Int) - 1)))=((HT.sIx n n hi:Nat):Int):=by
  cases hi with
  |none=>simp[HT.sIx]
  |some i=>
   simp only[HT.sIx,show(1:Int)>0 by decide,if_true];by_cases h:i<0
   .simp only[h,if_true];lia
   .simp only[h,iF];lia
 rw[<-sliceRange_one];unfold Builtin.Str.strSliceIndices;rw[<-b, <-a];cases lo<;>cases hi<;>rfl
theorem WZ(x:Db)(lo hi:B7):Txt.slice (fX x) lo hi=fX (fY x lo hi):=by
 unfold Txt.slice;rw[strIdx,gR];have c:=by have:=pick_run (fX x).cps (HT.sIx x.length 0 lo) (HT.sIx x.length x.length hi - HT.sIx x.length 0 lo);exact this
 rw[c];split
 .rename_i a;rw[aE]at a;have b:=by simpa using a.2
  have d:HT.sIx x.length x.length hi<=x.length:=HT.sIx_le _ _ (à _) _;have h:HT.sIx x.length 0 lo<=x.length:=HT.sIx_le _ _ (zero_le _) _;have e:HT.sIx x.length 0 lo=0:=by lia
  unfold fY;rw[b,e];simp
 .rfl
section
variable{X:Cx}
def rSlS:V->Option Int->Option Int->Hp->VK->Prop:=λx lo hi H Q=> ∃a,x=.str (fX a)/\a.length<=sizeLine/\Q (.str (fX (fY a lo hi))) H
def Pq:SlR X rSlS:=by
 intro pins s σ H x v w r lo hi sl Q I m hs p d h;obtain⟨n,rfl,e,q⟩:=h;obtain⟨t,rfl⟩:=m;have a:(Txt.slice (fX n) lo hi).length<=sizeLine:=õ (Txt.slice_le _ _ _) (by rw[gR];exact e);rw[<-WZ]at q;refine⟨"str",_,slot_str_getitem.lookup,typeIs_str _ _ _,?_⟩;obtain⟨o,c,b,hd⟩:=hs
 cases p with
 |none=>
  cases d with
  |none=>exact ł (l:=none) (u:=none) (st:=none) ⟨o,c,b,hd⟩ rfl (post_val_or_str ⟨a,λt' k=>⟨.str _,H,I.tok _,⟨_,rfl⟩,q⟩⟩)
  |int j uj=>exact ł (l:=none) (u:=some (j,uj)) (st:=none) ⟨o,c,b,hd⟩ rfl (post_val_or_str ⟨a,λt' k=>⟨.str _,H,I.tok _,⟨_,rfl⟩,q⟩⟩)
 |int i ui=>
  cases d with
  |none=>exact ł (l:=some (i,ui)) (u:=none) (st:=none) ⟨o,c,b,hd⟩ rfl (post_val_or_str ⟨a,λt' k=>⟨.str _,H,I.tok _,⟨_,rfl⟩,q⟩⟩)
  |int j uj=>exact ł (l:=some (i,ui)) (u:=some (j,uj)) (st:=none) ⟨o,c,b,hd⟩ rfl (post_val_or_str ⟨a,λt' k=>⟨.str _,H,I.tok _,⟨_,rfl⟩,q⟩⟩)
noncomputable def GH(cs:Db)(k:Int):List Nat:=(List.replicate k.toNat cs).flatten
theorem vN(cs:Db): ∀(k:Nat)(a:Db),List.foldl (λb c=>b++c) a.toArray (List.replicate k cs.toArray)=(a++(List.replicate k cs).flatten).toArray
 |0,a=>by simp
 |k+1,a=>by rw[ĭ,ĭ,flatten_cons, <-aA, <-vN cs k _];simp
theorem QZ:OpR X (binaryOp .Mult) (λx y H Q=> ∃a k,x=.str (fX a)/\y=.int k/\0<=k/\k<1000/\a.length<=1000/\Q (.str (fX (GH a k))) H):=by
 intro pins s σ H x y v u Q I A w h;obtain⟨a,k,rfl,rfl,F,h1,D,q⟩:=h;obtain⟨t,rfl⟩:=A;obtain⟨t',rfl⟩:=w;have hs:=Ĕ;have j:a.length * k.toNat<=1000 * 1000:=mul_le_mul D #[0];have e: ∀b,Q (.str b) H->b=fX (GH a k)->True:=λ_ _ _=>trivial;refine PySem.P.mul_str (by rw[dF0 #[0],dF0 #[0]];rfl) (λE _=>?_) (λ_ _=>?_) ?_
 .rw[gR];have o:1<=k:=by lia
  have:(1000:Int)<=(2 ^ 63 - 1) / k:=by
   rw[Int.le_ediv_iff_mul_le #[0]]
   lia
  lia
 .rw[gR];unfold PySem.Builtin.Str.tooLong;exact dF0 #[0]
 .have d: ∀(z:Str),z=fX _->z.length<=sizeLine->(Made.str z).post (EP X pins σ Q) s:=λz C r=>⟨r,by rw[C];exact⟨.str _,H,I.tok _,⟨_,rfl⟩,q⟩⟩
  have i:(GH a k).length=k.toNat * a.length:=by unfold GH;rw[len_rep]
  by_cases p:k<1
  .rw[iP p];have o:k.toNat=0:=by lia
   refine d _ ?_ (by decide);unfold GH;rw[o];rfl
  .rw[iN p];by_cases c:(k==1 || (fX a).length==0)=true
   .rw[iP c];refine⟨.str _,H,I,⟨_,rfl⟩,?_⟩
    have:GH a k=a:=by
     unfold GH;rw[Bool.or_eq_true]at c;rcases c with c|c
     .have:k=1:=by simpa using c
      subst this;simp
     .rw[gR]at c;have:a=[]:=by cases a with |nil=>rfl|cons _ _=>simp at c
      subst this;simp
    rw[this]at q;exact q
   .rw[iN c];refine d _ ?_ ?_
    .unfold GH fX;have:=vN a k.toNat [];rw[Ĝ]at this;exact congrArg Str.mk this
    .have B:(List.foldl (λm n=>m++n) #[] (List.replicate k.toNat (fX a).cps))=(GH a k).toArray:=by have:=vN a k.toNat [];rw[Ĝ]at this;exact this
     show(List.foldl (λm n=>m++n) #[] _).size<=sizeLine;rw[B,sA0,i,Nat.mul_comm]
     lia
end
section
variable{X:Cx}
def PU(X:Cx)(e:Expr)(t:TE):Prop:= ∀(i:Nat)(x:Str)(a pos:Pos),X.N.Nodup->X.N[i]? =some x->Loc X.env.scope x->(X.fn x=true\/X.env.scope.names.lookup x=some .local)->
 swapsWith e (some (.Name x a)) pos.line X.env=pure true->PS X (.Assign [.Name x a] e pos) (On t (ZS i))
def Hc{C:Cx->Prop}{tg:Expr}{A:TI}{g:TG}{z:Addr->Ŋ->Hp->List Addr->TT}{te:Addr->Ŋ->Hp->List Addr->TE}(T:B0)(idx:Db)
  (hi:Ws C X tg iter A) (hCx: ∀c s₂ y fp pins σ,Inv X pins σ y s₂->C (zM X sc T idx c s₂ y fp)) (hB:rS X.env.scope X.N sc idx=true)
  (hg: ∀C s₂ H1 fp,PG (zM X sc T idx C s₂ H1 fp) tg g)
  (hc: ∀C s₂ H1 fp,WX (zM X sc T idx C s₂ H1 fp) ifs (z C s₂ H1 fp))
  (he: ∀C s₂ H1 fp,PE (zM X sc T idx C s₂ H1 fp) elt (te C s₂ H1 fp))
  (hs: ∀x,foldedSetIterable iter X.env x=pure x:=by intro _;rfl):
  PU X (.ListComp elt [⟨tg,iter,ifs,0⟩] sc pos) (Ag A g z te T.length idx):=by
 intro i x B w Q p O J r pins s σ H D I h;rw[exec_Assign_Name_used _ _ _ _ r];refine wB (wpAny_standAt (wB ?_));refine wB (jI (NC T idx hi hCx hB hg hc he hs I h λK C M H' _ P d v q=>?_) λ_ s' L=>wP (wP L));have G:=P M.heap (Heap.SameBut.refl _ _);refine wpAny_assign_Name (GY G Q p O (show RelV (.ref K) _ from rfl) (λs' E ⟨a,u,j⟩=>?_) J);obtain⟨m,v⟩:=v
 have n:C≠a:=by
  rintro rfl;rcases j with j|j
  .exact d.2.1 j
  .exact d.2.2.2.2.1 x _ j rfl
 refine⟨m,v.sameBut u n,λh' k=>⟨_,H',?_,q⟩⟩;exact E.turned (λb o F e=>(k.2 b F).trans e) d.1 d.2.1 d.2.2.2.1 d.2.2.2.2.1 d.2.2.2.2.2
end
end L2
namespace L2
namespace M
open PySem PySem.Spec PyProof.Rows
variable{v:ŋ}
def Ak{A:Ō}{s:Ŋ}{y x:V}{u:ŋ}(e:RelV y u)(c:RelV x v)(h:lU y=true)(d:lU x=true):SeqAt.RcAt A s u v (Gu y x)/\SeqAt.RcNeAt A s u v (!Gu y x):=by
 cases y with
 |non=>
  cases e
  cases x with
  |non=>cases c;exact⟨.none_none,.none_none⟩
  |bl b=>cases c;exact⟨.none_bool b,.none_bool b⟩
  |int b=>obtain⟨t,rfl⟩:=c;exact⟨.none_int b t,.none_int b t⟩
  |str b=>obtain⟨t,rfl⟩:=c;exact⟨.none_str b t,.none_str b t⟩
  |_=>cases d
 |bl a=>
  cases e
  cases x with
  |non=>cases c;exact⟨.bool_none a,.bool_none a⟩
  |bl b=>cases c;exact⟨.bool_bool a b,.bool_bool a b⟩
  |int b=>obtain⟨t,rfl⟩:=c;exact⟨.bool_int a b t,.bool_int a b t⟩
  |str b=>obtain⟨t,rfl⟩:=c;exact⟨.bool_str a b t,.bool_str a b t⟩
  |_=>cases d
 |int a=>
  obtain⟨t',rfl⟩:=e
  cases x with
  |non=>cases c;exact⟨.int_none a t',.int_none a t'⟩
  |bl b=>cases c;exact⟨.int_bool a t' b,.int_bool a t' b⟩
  |int b=>obtain⟨t,rfl⟩:=c;exact⟨.int_int a t' b t,.int_int a t' b t⟩
  |str b=>obtain⟨t,rfl⟩:=c;exact⟨.int_str a t' b t,.int_str a t' b t⟩
  |_=>cases d
 |str a=>
  obtain⟨t',rfl⟩:=e
  cases x with
  |non=>cases c;exact⟨.str_none a t',.str_none a t'⟩
  |bl b=>cases c;exact⟨.str_bool a t' b,.str_bool a t' b⟩
  |int b=>obtain⟨t,rfl⟩:=c;exact⟨.str_int a t' b t,.str_int a t' b t⟩
  |str b=>obtain⟨t,rfl⟩:=c;exact⟨.str_str a t' b t,.str_str a t' b t⟩
  |_=>cases d
 |_=>cases h
abbrev Six(A:Around)(s:Shared)(u v:Value):Prop:=SeqAt.EqAt A s u v false/\SeqAt.EqAt A s v u false/\SeqAt.RcAt A s u v false/\SeqAt.RcAt A s v u false/\SeqAt.RcNeAt A s u v true/\SeqAt.RcNeAt A s v u true
def HK{A:Ō}{s:Ŋ}{x:V}{l:Addr}{items:A7}(d:RelV x v)(e:lU x=true)(a:s.heap.IsList l items)(c:A.units<cLine):Six A s (.ref l) v:=by
 cases x with
 |non=>cases d;exact⟨.list_none a c,.none_list a c,.list_none a c,.none_list a c,.list_none a c,.none_list a c⟩
 |bl b=>cases d;exact⟨.list_bool b a c,.bool_list b a c,.list_bool b a c,.bool_list b a c,.list_bool b a c,.bool_list b a c⟩
 |int b=>obtain⟨t,rfl⟩:=d;exact⟨.list_int b t a c,.int_list b t a c,.list_int b t a c,.int_list b t a c,.list_int b t a c,.int_list b t a c⟩
 |str b=>obtain⟨t,rfl⟩:=d;exact⟨.list_str b t a c,.str_list b t a c,.list_str b t a c,.str_list b t a c,.list_str b t a c,.str_list b t a c⟩
 |_=>cases e
def BE{A:Ō}{s:Ŋ}{x:V}{l:Addr}{items:A7}(d:RelV x v)(e:lU x=true)(a:s.heap.IsTuple l items)(c:A.units<cLine):Six A s (.ref l) v:=by
 cases x with
 |non=>cases d;exact⟨.tuple_none a c,.none_tuple a c,.tuple_none a c,.none_tuple a c,.tuple_none a c,.none_tuple a c⟩
 |bl b=>cases d;exact⟨.tuple_bool b a c,.bool_tuple b a c,.tuple_bool b a c,.bool_tuple b a c,.tuple_bool b a c,.bool_tuple b a c⟩
 |int b=>obtain⟨t,rfl⟩:=d;exact⟨.tuple_int b t a c,.int_tuple b t a c,.tuple_int b t a c,.int_tuple b t a c,.tuple_int b t a c,.int_tuple b t a c⟩
 |str b=>obtain⟨t,rfl⟩:=d;exact⟨.tuple_str b t a c,.str_tuple b t a c,.tuple_str b t a c,.str_tuple b t a c,.tuple_str b t a c,.str_tuple b t a c⟩
 |_=>cases e
def Al{y:V}(h:lU y=true):Gu y y=true:=by cases y<;>first |rfl|(simp[Gu];done)|exact absurd h xF0
abbrev K3:=Option Key
inductive NK where
 |key (k:K3)|tup (ks:List NK)
instance:DecidableEq NK:=λ_ _=>Classical.propDecidable _
section
variable{prog:ō}{w:World}(knd:KeyKind prog w K3)
mutual
def GI(h:Heap):NK->ŋ->Prop
 |.key k,v=>knd.is k v=true
 |.tup ks,v=> ∃a o b n,v=.ref a/\h.get? a=some o/\o.cls=.type "tuple"/\o.data=.seq b n/\pX h ks b.toList
def pX(h:Heap):List NK->List ŋ->Prop
 |[],vs=>vs=[]
 |k::ks,vs=> ∃v r,vs=v::r/\GI h k v/\pX h ks r
end
mutual
def tM:NK->Int
 |.key k=>knd.hash k
 |.tup ks=>reduceHash (Builtin.Tuple.tupleHashOf (DV ks))
def DV:List NK->List Int
 |[]=>[]
 |k::ks=>tM k::DV ks
end
mutual
def DW:NK->Nat
 |.key _=>1
 |.tup ks=>bU ks+1
def bU:List NK->Nat
 |[]=>0
 |k::ks=>DW k+bU ks
end
mutual
def aX:NK->Nat
 |.key _=>0
 |.tup ks=>rV ks+1
def rV:List NK->Nat
 |[]=>0
 |k::ks=>max (aX k) (rV ks)
end
variable{knd}
theorem xV{h:Heap}{k:K3}:GI knd h (.key k) v↔knd.is k v=true:=by unfold GI;exact Iff.rfl
def xI{h:Heap}{ks:List NK}:GI knd h (.tup ks) v↔ ∃a o b n,v=.ref a/\h.get? a=some o/\o.cls=.type "tuple"/\o.data=.seq b n/\pX knd h ks b.toList:=by
 conv=>lhs;unfold GI
theorem wD{h:Heap}{vs:A0}:pX knd h [] vs↔vs=[]:=by unfold pX;exact Iff.rfl
def yK{h:Heap}{k:NK}{ks:List NK}{vs:A0}:pX knd h (k::ks) vs↔ ∃v r,vs=v::r/\GI knd h k v/\pX knd h ks r:=by
 conv=>lhs;unfold pX
mutual
theorem JQ{h:Heap}: ∀{x y:NK}{v:ŋ},GI knd h x v->GI knd h y v->x=y
 |.key k,.key k',v,hx,hy=>by rw[knd.inj v k k' (xV.mp hx) (xV.mp hy)]
 |.key k,.tup ks,v,hx,hy=>by obtain⟨a,o,b,n,rfl,_⟩:=xI.mp hy;have:=knd.byValue _ _ (xV.mp hx);simp[carriedByValue]at this
 |.tup ks,.key k,v,hx,hy=>by obtain⟨a,o,b,n,rfl,_⟩:=xI.mp hx;have:=knd.byValue _ _ (xV.mp hy);simp[carriedByValue]at this
 |.tup ks,.tup ks',v,hx,hy=>by
  obtain⟨a,o,b,n,e,p,_,hd,hi⟩:=xI.mp hx;obtain⟨r,o',d,q,m,i,_,c,j⟩:=xI.mp hy;rw[e]at m;cases m;obtain rfl:o=o':=å (p.symm.trans i);rw[hd]at c;injection c with h1 _
  subst h1;rw[ND hi j]
theorem ND{h:Heap}: ∀{xs ys:List NK}{vs:A0},pX knd h xs vs->pX knd h ys vs->xs=ys
 |[],[],_,_,_=>rfl
 |[],y::ys,vs,hx,hy=>by obtain⟨v,r,e,_⟩:=yK.mp hy;rw[wD.mp hx]at e;cases e
 |x::xs,[],vs,hx,hy=>by obtain⟨v,r,e,_⟩:=yK.mp hx;rw[wD.mp hy]at e;cases e
 |x::xs,y::ys,vs,hx,hy=>by obtain⟨v,r,e,h1,d⟩:=yK.mp hx;obtain⟨j,i,c,a,b⟩:=yK.mp hy;rw[e]at c;cases c;rw[JQ h1 a,ND d b]
end
mutual
theorem DX{h h':Heap}(m: ∀a o b n,h.get? a=some o->o.data=.seq b n->h'.get? a=some o): ∀{x:NK}{v:ŋ},GI knd h x v->GI knd h' x v
 |.key k,v,hx=>xV.mpr (xV.mp hx)
 |.tup ks,v,hx=>by obtain⟨a,o,b,n,e,d,c,hd,hi⟩:=xI.mp hx;exact xI.mpr ⟨a,o,b,n,e,m a o b n d hd,c,hd,HL m hi⟩
theorem HL{h h':Heap}(m: ∀a o b n,h.get? a=some o->o.data=.seq b n->h'.get? a=some o): ∀{xs:List NK}{vs:A0},pX knd h xs vs->pX knd h' xs vs
 |[],vs,hx=>wD.mpr (wD.mp hx)
 |x::xs,vs,hx=>by obtain⟨v,r,e,h1,c⟩:=yK.mp hx;exact yK.mpr ⟨v,r,e,DX m h1,HL m c⟩
end
theorem DY: ∀a:List NK,DV knd a=a.map (tM knd)
 |[]=>by unfold DV;rfl
 |k::a=>by unfold DV;rw[DY a];rfl
def sQ:bU []=0:=by rw[bU]
def pY(k:NK)(ks:List NK):bU (k::ks)=DW k+bU ks:=by rw[bU]
def sR(k:NK)(ks:List NK):rV (k::ks)=max (aX k) (rV ks):=by rw[rV]
def aY(ks:List NK):aX (.tup ks)=rV ks+1:=by rw[aX]
theorem rW: ∀(xs ys:List NK),bU (xs++ys)=bU xs+bU ys
 |[],ys=>by rw[sQ,Ĝ,Ă]
 |x::xs,ys=>by rw[Į,pY,pY,rW xs ys];lia
def tN{s:Ŋ}{ks:List NK}{a:Addr}(h:GI knd s.heap (.tup ks) (.ref a)):s.TypeIs (.ref a) "tuple":=by obtain⟨d,o,_,n,e,c,b,_⟩:=xI.mp h;cases e;exact⟨o,c,b⟩
theorem NF: ∀(n:Nat){A:Ō}{E:VP}{s:Ŋ}{k:NK}{v:ŋ}{Q:Int->Ŋ->Prop},aX k<=n->A.units+n<cLine->GI knd s.heap k v->Q (tM knd k) {s with toks:=s.toks+DW k}->wpAny (model prog w) A (pyHash v) Q E s
 |n,A,E,s,.key k,v,Q,_,_,d,h=>knd.pyHash (xV.mp d) (by rw[tM,DW]at h;exact h)
 |0,A,E,s,.tup c,v,Q,hd,_,_,_=>by rw[aY]at hd;lia
 |n+1,A,E,s,.tup c,v,Q,hdep,hu,d,h=>by
  obtain⟨a,o,_,m,rfl,z,C,hd,hi⟩:=xI.mp d;have p:s.TypeIs (.ref a) "tuple":=⟨o,z,C⟩
  rw[aY]at hdep
  have y: ∀k∈c,aX k<=n:=by
   have: ∀c:List NK,rV c<=n-> ∀k∈c,aX k<=n:=by
    intro c
    induction c with
    |nil=>intro _ k d;simp at d
    |cons x xs ih=>
     intro D k d;rw[sR]at D;rcases mC.mp d with rfl|d
     .lia
     .exact ih #[0] k d
   exact this c #[0]
  rw[tM,DW,DY]at h;unfold pyHash
  first |unfold pyHashByItsType|skip
  first |refine wB (wpAny_cRoomFor_or (.inr #[0]) ?_)|skip
  refine wB (wpAny_specialOf p F.slot_tuple_hash.lookup ?_);show wpAny _ _ _ Q E s;rw[iN (by rw[beq_builtin_none];exact xF0)];refine wB (wpAny_specialOf p F.slot_tuple_hash.lookup ?_);show wpAny _ _ _ Q E s;refine wB (wpAny_callSpecialIfBoundUnlessNone?_slot p F.slot_tuple_hash (ì F.slot_tuple_hash p F.entry_tuple_hash ?_ (F.args_tuple_hash_1 _)));show wpAny _ _ (Builtin.Tuple.tupleItemsOf (.ref a) >>= _) _ _ s;refine wB (wpAny_tupleItemsOf z hd ?_);refine wB ?_;rw[<-Array.forIn_toList]
  refine wpAny_forIn_list _
   (λrest (b:Array Int) s'=> ∃done left,c=done++left/\pX knd s.heap left rest/\b.toList=done.map (tM knd)/\s'={s with toks:=s.toks+bU done})
   _ ?_ ?_ _ _ ⟨[],c,rfl,hi,rfl,by rw[sQ];rfl⟩
  .rintro x rest b s' ⟨done,left,rfl,i,u,rfl⟩
   cases left with
   |nil=>rw[wD]at i;cases i
   |cons k ks'=>
    obtain⟨v,r,e,h1,q⟩:=yK.mp i;cases e;refine wB (NF n (y k (by simp)) (show A.units+1+n<cLine by lia) h1 ?_);have B:bU (done++[k])=bU done+DW k:=by rw[rW,pY,sQ];rfl
    first
     |exact wP ⟨done++[k],ks',by simp,q,by simp[u],by simp[add_assoc,B]⟩
     |exact wB _
  .rintro b s' ⟨done,left,rfl,i,u,rfl⟩
   cases left with
   |cons k ks'=>obtain⟨v,r,e,_⟩:=yK.mp i;cases e
   |nil=>
    rw[aN]at h;show wpAny _ _ (retInt _) _ _ _;rw[u];refine wpAny_ret_mkInt ?_;show wpAny _ _ (if _=true then _ else _) Q E _;unfold reduceHash at h;by_cases j:(decide (-(2:Int) ^ 63<=Builtin.Tuple.tupleHashOf (done.map (tM knd)))&&decide (Builtin.Tuple.tupleHashOf (done.map (tM knd))<2 ^ 63))=true
    .rw[iP j];rw[iP j]at h;exact wP (by simpa [add_assoc]using h)
    .rw[iN j];rw[iN j]at h;exact wB (ĕ (wP (by simpa [add_assoc]using h)))
end
section
variable{prog:ō}{w:World}
def XA{A:Ō}{E:VP}{s:Ŋ}{Q:Int->Ŋ->Prop}(h:Q 0xFCA86420 {s with toks:=s.toks+1}):wpAny (model prog w) A (pyHash .none) Q E s:=by
 have a:[Value.none].any Value.onHeap=false:=rfl;refine wB ?_;rw[cRoomFor];refine wP ?_;refine wB (wpAny_specialOf (typeIs_none s) F.slot_NoneType_hash.lookup ?_);show wpAny _ _ _ Q E s;refine wB (wpAny_specialOf (typeIs_none s) F.slot_NoneType_hash.lookup ?_);show wpAny _ _ _ Q E s
 refine wB (wpAny_callSpecialIfBoundUnlessNone?_slot (typeIs_none s) F.slot_NoneType_hash
  (ì F.slot_NoneType_hash (typeIs_none s) F.entry_NoneType_hash
   (wpAny_ret_mkInt ?_) (F.args_NoneType_hash_1 _)))
 show wpAny _ _ (if _=true then _ else _) Q E _;exact wP h
def Xm:K3->ŋ->Bool
 |some k,v=>lR k v
 |none,v=>v==.none
def lV: ∀{k:K3}{v:ŋ},Xm k v=true->(∃i t,k=some (.inl i)/\v=Value.int i t)\/(∃x t,k=some (.inr x)/\v=Value.str x t)\/(k=none/\v=.none)
 |some k,v,h=>by
  rcases yB h with⟨i,t,rfl,e⟩|⟨x,t,rfl,e⟩
  .exact .inl ⟨i,t,rfl,e⟩
  .exact .inr (.inl ⟨x,t,rfl,e⟩)
 |none,v,h=>.inr (.inr ⟨rfl,eq_of_beq h⟩)
def mk(prog:ō)(w:World):KeyKind prog w K3 where
 is:=Xm
 hash:=λ|some k=>Wf w k|none=>0xFCA86420
 inj:=λv a b ha hb=>by rcases lV ha with⟨i,t,rfl,rfl⟩|⟨x,t,rfl,rfl⟩|⟨rfl,rfl⟩<;>rcases lV hb with⟨j,u,rfl,e⟩|⟨y,u,rfl,e⟩|⟨rfl,e⟩<;>first |(injection e with e1 _;rw[e1];done)|rfl|exact nomatch e
 byValue:=λk v h=>by rcases lV h with⟨i,t,rfl,rfl⟩|⟨x,t,rfl,rfl⟩|⟨rfl,rfl⟩<;>rfl
 pyHash:=λhv h=>by
  rcases lV hv with⟨i,t,rfl,rfl⟩|⟨x,t,rfl,rfl⟩|⟨rfl,rfl⟩
  .exact wpAny_pyHash_int h
  .exact wpAny_pyHash_str h
  .exact XA h
 eqBool:=λ{A} {E} {s} {a} {b} {u} {v} {Q} hu hv h=>by
  cases a with
  |some a=>
   cases b with
   |some b=>exact(xH prog w).eqBool hu hv (by rw[show decide (some a=some b)=decide (a=b)from by simp]at h;exact h)
   |none=>
    cases eq_of_beq hv;rw[show decide (some a=none)=false from dF0 λz=>nomatch z]at h;rcases yB (show lR a u=true from hu)with⟨i,t,rfl,rfl⟩|⟨x,t,rfl,rfl⟩
    .exact SeqAt.EqAt.int_none i t _ _ _ _ h
    .exact SeqAt.EqAt.str_none x t _ _ _ _ h
  |none=>
   cases eq_of_beq hu
   cases b with
   |some b=>
    rw[show decide (none=some b)=false from dF0 λz=>nomatch z]at h;rcases yB (show lR b v=true from hv)with⟨i,t,rfl,rfl⟩|⟨x,t,rfl,rfl⟩
    .exact SeqAt.EqAt.none_int i t _ _ _ _ h
    .exact SeqAt.EqAt.none_str x t _ _ _ _ h
   |none=>
    cases eq_of_beq hv;rw[show decide ((none:K3)=none)=true from dT0 rfl]at h;exact SeqAt.EqAt.same _ _ _ _ _ h
 «strs»:=λk x t v h=>by
  rcases lV h with⟨i,u,rfl,e⟩|⟨y,u,rfl,e⟩|⟨rfl,e⟩
  .exact nomatch e
  .injection e with e1 _
   subst e1;cases v<;>rfl
  .exact nomatch e
def Hd(a b:K3):decide (NK.key a=NK.key b)=decide (a=b):=by
 by_cases h:a=b
 .subst h;simp
 .rw[dF0 h,dF0 λz=>h (NK.key.inj z)]
def Pr(a:K3)(b:List NK):decide (NK.key a=NK.tup b)=false:=dF0 λz=>nomatch z
def Ps(a:K3)(b:List NK):decide (NK.tup b=NK.key a)=false:=dF0 λz=>nomatch z
def Pt(a b:List NK):decide (NK.tup a=NK.tup b)=decide (a=b):=by
 by_cases h:a=b
 .subst h;simp
 .rw[dF0 h,dF0 λz=>h (NK.tup.inj z)]
def NG{k:K3}(h:(mk prog w).is k v=true): ∃x:V,RelV x v/\lU x=true:=by
 rcases lV h with⟨i,t,rfl,rfl⟩|⟨x,t,rfl,rfl⟩|⟨rfl,rfl⟩
 .exact⟨.int i,⟨t,rfl⟩,rfl⟩
 .exact⟨.str x,⟨t,rfl⟩,rfl⟩
 .exact⟨.non,rfl,rfl⟩
def XB{A:Ō}{E:VP}{s:Ŋ}{x y:List NK}{a b:Addr}{P:Fin->Ŋ->Prop}
  (he: ∀k1∈x, ∀k2 u v (Q:Bool->Ŋ->Prop),GI (mk prog w) s.heap k1 u->GI (mk prog w) s.heap k2 v->Q (decide (k1=k2)) s->wpAny (model prog w) A (eqBool u v) Q E s)
  (hx:GI (mk prog w) s.heap (.tup x) (.ref a)) (hy:GI (mk prog w) s.heap (.tup y) (.ref b)) (h:P (.done (.ret (.bool (decide (x=y))))) s):
  wpAny (model prog w) A (Builtin.«tuple.__eq__» ⟨[.ref a,.ref b],[]⟩) P E s:=by
 have K:=tN hy;obtain⟨_,oa,xs,na,e,M,_,L,T⟩:=xI.mp hx;cases e;obtain⟨_,Z,ys,nb,e,N,_,O,S⟩:=xI.mp hy;cases e;show wpAny _ _ (isInstance _ _ >>= _) _ _ s;refine wB (Ġ K isSubtype_tuple_tuple ?_);simp only[Ņ,fT,iF];refine wB (wpAny_tupleItemsOf M L ?_);refine wB (wpAny_tupleItemsOf N O ?_);refine wB ?_
 refine wpAny_forIn_list _
  (λrest r s'=>r.1=none/\s'=s/\ ∃F C j o,rest=List.zip j o/\(∀k∈F,k∈x)/\pX _ s.heap F j/\pX _ s.heap C o/\decide (F=C)=decide _/\(j.length==o.length)=(xs.size==ys.size))
  _ ?_ ?_ _ _ ⟨rfl,rfl,x,y,_,_,rfl,λk D=>D,T,S,rfl,by simp⟩
 .rintro⟨u,v⟩ rest r s' ⟨I,rfl,F,C,j,o,z,U,p,c,d,m⟩
  cases F with
  |nil=>rw[wD.mp p]at z;simp at z
  |cons k1 x''=>
   cases C with
   |nil=>rw[wD.mp c]at z;simp at z
   |cons k2 y''=>
    obtain⟨Y,q,rfl,h1,B⟩:=yK.mp p;obtain⟨W,i,rfl,J,n⟩:=yK.mp c;simp only[ğ,List.cons.injEq,Prod.mk.injEq]at z;obtain⟨⟨rfl,rfl⟩,rfl⟩:=z;refine wB (he k1 (U k1 mF0) k2 _ _ _ h1 J ?_);by_cases D:k1=k2
    .subst D;rw[dT0 rfl];simp only[Ņ,fT,iF];refine wP ⟨rfl,rfl,x'',y'',q,i,rfl,λk D=>U k (mO _ D),B,n,?_,by simpa using m⟩;rw[<-d];by_cases G:x''=y''
     .simp[G]
     .simp[G]
    .rw[dF0 D];simp only[Bool.not_false,if_true];have X:decide (x=y)=false:=by rw[<-d];simp[D]
     rw[X]at h;exact wB (wP (wP (wP h)))
 .rintro⟨r1,r2⟩ s' ⟨I,rfl,F,C,j,o,z,U,p,c,d,m⟩;simp only at I;subst I;refine wP ?_
  have H:(xs.size==ys.size)=decide (x=y):=by
   rw[<-d, <-m]
   cases F with
   |nil=>
    rw[wD.mp p]
    cases C with
    |nil=>rw[wD.mp c];simp
    |cons k2 y''=>obtain⟨W,i,rfl,J,n⟩:=yK.mp c;simp
   |cons k1 x''=>
    obtain⟨Y,q,rfl,h1,B⟩:=yK.mp p
    cases C with
    |nil=>rw[wD.mp c];simp
    |cons k2 y''=>obtain⟨W,i,rfl,J,n⟩:=yK.mp c;simp at z
  show P (.done (.ret (.bool _))) s';rw[H];exact h
theorem DZ{n:Nat}: ∀{ks:List NK},rV ks<=n-> ∀k∈ks,aX k<=n
 |[],_,k,hk=>by simp at hk
 |x::xs,hx,k,hk=>by
  rw[sR]at hx;rcases mC.mp hk with rfl|hk
  .lia
  .exact DZ #[0] k hk
theorem NH: ∀(n:Nat){A:Ō}{E:VP}{s:Ŋ}{x y:NK}{u v:ŋ}{Q:Bool->Ŋ->Prop},aX x<=n->A.units+n<cLine->GI (mk prog w) s.heap x u->GI (mk prog w) s.heap y v->Q (decide (x=y)) s->wpAny (model prog w) A (eqBool u v) Q E s
 |n,A,E,s,.key a,.key b,u,v,Q,_,_,hx,hy,h=>(mk prog w).eqBool (xV.mp hx) (xV.mp hy) (by rw[Hd]at h;exact h)
 |n,A,E,s,.key a,.tup b,u,v,Q,_,hu,hx,hy,h=>by obtain⟨z,k,i⟩:=NG (xV.mp hx);obtain⟨l,o,_,m,rfl,p,j,hd,_⟩:=xI.mp hy;rw[Pr]at h;exact(BE k i ⟨o,p,j,m,hd⟩ #[0]).2.1 prog w E Q h
 |n,A,E,s,.tup a,.key b,u,v,Q,_,hu,hx,hy,h=>by obtain⟨z,k,i⟩:=NG (xV.mp hy);obtain⟨l,o,_,m,rfl,p,j,hd,_⟩:=xI.mp hx;rw[Ps]at h;exact(BE k i ⟨o,p,j,m,hd⟩ #[0]).1 prog w E Q h
 |0,A,E,s,.tup a,.tup b,u,v,Q,hd,_,hx,hy,h=>by rw[aY]at hd;lia
 |n+1,A,E,s,.tup x,.tup y,u,v,Q,hd,hu,hx,hy,h=>by
  obtain⟨a,_,_,_,B,_⟩:=xI.mp hx;obtain⟨b,_,_,_,C,_⟩:=xI.mp hy;subst B C;rw[aY]at hd;rw[Pt]at h;unfold eqBool
  try with_reducible refine ù ?_
  show wpAny _ _ _ Q E s;by_cases c:(Value.ref a==Value.ref b)=true
  .rw[iP c];have e:a=b:=by have:=eq_of_beq c;injection this
   subst e;have:x=y:=NK.tup.inj (JQ hx hy);subst this;exact wB (ĕ (wP (by simpa using h)))
  .rw[iN c]
   refine wB (wpAny_richCompare_same_room (tN hx) (tN hy) F.slot_tuple_eq
    (ì F.slot_tuple_eq (tN hx) F.entry_tuple_eq (XB (λk1 d k2 u v Q h1 q r=>NH n (DZ #[0] k1 d) (show A.units+1+n<cLine by lia) h1 q r) hx hy ⟨_,rfl,(λe=>nomatch e),Ķ h⟩) (F.args_tuple_eq_2 _ _)) #[0])
theorem TC: ∀(n m:Nat){A:Ō}{E:VP}{s:Ŋ}{x:NK}{u:ŋ}{Q:Bool->Ŋ->Prop},aX x<=n->n<m->GI (mk prog w) s.heap x u->Q true s->wpAny (model prog w) A (eqIsQuiet m u) Q E s
 |n,m,A,E,s,.key k,u,Q,_,_,hx,h=>by rw[eqIsQuiet_byValue m ((mk prog w).byValue _ _ (xV.mp hx))];exact wP h
 |0,m,A,E,s,.tup ks,u,Q,hd,_,hx,h=>by rw[aY]at hd;lia
 |n+1,0,A,E,s,.tup ks,u,Q,hd,hm,hx,h=>by lia
 |n+1,m+1,A,E,s,.tup ks,u,Q,hdp,hm,hx,h=>by
  obtain⟨a,o,_,j,rfl,q,z,hd,hi⟩:=xI.mp hx;have p:s.TypeIs (.ref a) "tuple":=⟨o,q,z⟩
  rw[aY]at hdp;unfold eqIsQuiet;refine wB (wpAny_specialOf p F.slot_tuple_eq.lookup ?_);show wpAny _ _ _ _ _ s;refine wB (Ġ p isSubtype_tuple_tuple ?_);refine wB (č q hd ?_);refine wB ?_;show wpAny _ _ _ _ _ s;rw[<-Array.forIn_toList];refine wpAny_forIn_list _ (λrest r s'=>r.1=none/\s'=s/\ ∃left,(∀k∈left,k∈ks)/\pX _ s.heap left rest) _ ?_ ?_ _ _ ⟨rfl,rfl,ks,λk c=>c,hi⟩
  .rintro v rest r s' ⟨i,rfl,left,b,d⟩
   cases left with
   |nil=>rw[wD]at d;cases d
   |cons k left=>
    obtain⟨D,C,e,h1,y⟩:=yK.mp d;cases e;refine wB (TC n m (DZ #[0] k (b k mF0)) #[0] h1 ?_);exact wP ⟨rfl,rfl,left,λk c=>b k (mO _ c),y⟩
  .rintro⟨B,G⟩ s' ⟨i,rfl,_⟩;subst i;exact wP h
end
def zV(prog:ō)(w:World):HeapKind prog w NK where
 is:=λh k a=>GI (mk prog w) h k (.ref a)/\aX k<=4
 hash:=tM (mk prog w)
 draws:=DW
 room:=λA=>A.units+4<cLine
 inj:=λhx hy=>JQ hx.1 hy.1
 keeps:=λx ho hd hs=>⟨DX (λa o' items n e q=>(hs.2 a λz=>by subst z;rw[ho]at e;cases e;rw[hd]at q;cases q).trans e) x.1,x.2⟩
 pyHash:=λhu hk h=>NF 4 hk.2 hu hk.1 h
 eqBool:=λhu hx hy h=>NH 4 hx.2 hu hx.1 hy.1 h
 quiet:=λhk h=>TC 4 8 hk.2 (by decide) hk.1 h
noncomputable def DN(P:ō)(w:World)(a:Addr)(xs:List (NK×Addr×ŋ)):HO:=
 .ext λh=>xs.length<=sizeLine/\(a==sysModules)=false/\ ∃o es ep,h.get? a=some o/\o.ExactDict/\o.data=.dict es ep/\es.toList=xs.map (entryOfKey (zV P w))/\(xs.map (·.1)).Nodup
end M
end L2
namespace L2
open PySem PySem.Spec PyProof.Rows
def Fly(h:Heap)(e T:Addr)(cls:ŋ)(d:Option Addr)(c:ŋ):Prop:=
 ∃a vs b ts,h.get? e=some a/\a.cls=cls/\a.dict=d/\a.data=.fields vs/\vs[1]? =some (.ref T)/\T≠e/\h.get? T=some b/\b.data=.fields ts/\ts[3]? =some c/\vs[2]? =some .none
structure Mvd(fs:A9)(e T:Addr)(h h':Heap):Prop where
 keep: ∀b o,b≠e->b≠T->b∉fs->h.get? b=some o->h'.get? b=some o
 slot: ∀b o,b≠e->b≠T->h.get? b=some o-> ∃sl,h'.get? b=some {o with slots:=sl}
 there: ∀b o,h.get? b=some o-> ∃o',h'.get? b=some o'
def Mvd.new{fs:A9}{e T k:Addr}{h h1 d:Heap}(a:Mvd fs e T h h1)(n:h.get? k=none)(b:Mvd fs e k h1 d):Mvd fs e T h d:=by
 have ne: ∀c o,h.get? c=some o->c≠k:=λc o q z=>by rw[z,n]at q;cases q
 exact⟨λc o h1 d m q=>b.keep c o h1 (ne c o q) m (a.keep c o h1 d m q),λc o h1 d q=>by obtain⟨sl,i⟩:=a.slot c o h1 d q;obtain⟨j,p⟩:=b.slot c _ h1 (ne c o q) i;exact⟨j,p⟩,λc o q=>let ⟨o',i⟩:=a.there c o q;b.there c o' i⟩
def CXe(P:ō)(w:World):WP:=λa H s E x s'=> ∃e T C d H',x=.ref e/\s'.os=s.os/\AllBare s'.gens/\Un (WK a) [] H H' s.heap s'.heap/\HOk P w H' s'.heap/\Fly s'.heap e T (.ref C) d .none/\
 s.heap.get? e=none/\s.heap.get? T=none/\H' e=none/\H' T=none/\E (.ref C) d H'
noncomputable abbrev Zx:List Value:=[.type "ValueError",.type "Exception",.type "BaseException",.type "object"]
noncomputable def qn:List Str:=["__class__","__getattribute__","__getattr__","__setattr__","place","number"]
end L2
namespace L2
namespace M
open PySem PySem.Spec PyProof.Rows
variable{H H' H0:Hp}{α α':A9}{v:V}{β γ τ:Type}{Q:VP}{xs:List V}{j:Nat}{its:A7}{o:HO}{es:B8}{tg:Expr}{σ:St}
inductive MV where
 |non|bl (b:Bool)|int (i:Int)|str (x:Db)|tup (ds:List MV)|scr (ds:List MV)|loc (l:Nat)|typ (n:String)|obj (c:Str) (ns:B0) (ds:List MV)
abbrev C1:=List MV
abbrev C4:=Option MV
abbrev C6:=List (Nat×List MV)
abbrev C7:=List (MV×MV)
variable{kvs:C7}
abbrev C8:=List (List MV)
instance:Inhabited MV:=⟨.non⟩
inductive MO where
 |lst (ds:C1)|dic (kvs:C7)|ins (c:Str) (fs:List (Str×MV))|rcd (c:Str) (fs:List (Str×MV))|fdc (kvs:C7)
abbrev Sto:=List MO
variable{S T S':Sto}
def SqF(K:B9)(H:Hp)(a:Addr)(xs:List V):Prop:=
 (∃o,H a=some (.frz o (.lst xs)))\/
  ∃(o:Obj)(its:A7)(n:Nat),K.lookup a=some o/\o.cls=.type "list"/\o.dict=none/\o.data=.seq its n/\its.size<=sizeLine/\Vals xs its.toList
def SqF.l{K:B9}{a:Addr}(h:SqF K H a xs):SqL K H a xs:=by
 rcases h with⟨o,h⟩|h
 .exact .inl (.inr ⟨o,h⟩)
 .exact .inr h
mutual
def Den(K:B9)(α:A9)(H:Hp):MV->V->Prop
 |.non,v=>v=.non
 |.bl b,v=>v=.bl b
 |.int i,v=>v=.int i
 |.str x,v=>v=.str (fX x)
 |.tup ds,v=> ∃a vs,v=.ref a/\SqT K H a vs/\DenL K α H ds vs
 |.scr ds,v=> ∃a vs,v=.ref a/\SqF K H a vs/\DenL K α H ds vs
 |.loc l,v=> ∃a,v=.ref a/\α[l]? =some a
 |.typ n,v=>v=.ty n
 |.obj c ns ds,v=> ∃a C d vs o,v=.ref a/\H a=some (.frz o (.ins C d (ns.zip vs)))/\PySem.W.nsIn K mainGlobals c=some (some (.ref C))/\(PySem.W.clsIn K C).map (·.name)=some c/\ns.length=vs.length/\DenL K α H ds vs
def DenL(K:B9)(α:A9)(H:Hp):List MV->List V->Prop
 |[],vs=>vs=[]
 |d::ds,vs=> ∃v r,vs=v::r/\Den K α H d v/\DenL K α H ds r
end
structure Ex0(α:A9)(H:Hp)(α':A9)(H':Hp):Prop where
 pre: ∃t,α'=α++t
 tup: ∀b xs,H b=some (.tup xs)->H' b=some (.tup xs)
 frz: ∀b o u,H b=some (.frz o u)->H' b=some (.frz o u)
structure Ext(α:A9)(H:Hp)(α':A9)(H':Hp):Prop extends Ex0 α H α' H' where
 new: ∀b∈α',b∈α\/H b=none
 keep: ∀b o,H b=some o->b∉α->H' b=some o
 has: ∀b o,H b=some o-> ∃o',H' b=some o'
section
variable{K:B9}{α α' α'':A9}{H H' H'':Hp}
def Ext.refl(α:A9)(H:Hp):Ext α H α H:=⟨⟨⟨[],by simp⟩,λ_ _ h=>h,λ_ _ _ h=>h⟩,λb h=>.inl h,λ_ _ h _=>h,λ_ o h=>⟨o,h⟩⟩
def Ex0.grow(α t:A9)(H:Hp):Ex0 α H (α++t) H:=⟨⟨t,rfl⟩,λ_ _ h=>h,λ_ _ _ h=>h⟩
def Ext.free(x:Ext α H α' H'){b:Addr}(h:H' b=none):H b=none:=by
 cases e:H b with
 |none=>rfl
 |some o=>obtain⟨o',h'⟩:=x.has b o e;rw[h]at h';cases h'
def Ext.out(x:Ext α H α' H'){b:Addr}(h:H b=some o)(n:b∉α):b∉α':=λz=>by
 rcases x.new b z with z|z
 .exact n z
 .rw[h]at z;cases z
def Ext.trans(x:Ext α H α' H')(y:Ext α' H' α'' H''):Ext α H α'' H'' where
 pre:=by obtain⟨t,rfl⟩:=x.pre;obtain⟨u,rfl⟩:=y.pre;exact⟨_,by rw[aA]⟩
 new:=λb h=>(y.new b h).elim (x.new b) λz=>.inr (x.free z)
 keep:=λb o h n=>y.keep b o (x.keep b o h n) (x.out h n)
 has:=λb o h=>let ⟨o',h'⟩:=x.has b o h;y.has b o' h'
 tup:=λb xs h=>y.tup b xs (x.tup b xs h)
 frz:=λb o u h=>y.frz b o u (x.frz b o u h)
def Ex0.at(x:Ex0 α H α' H'){l:Nat}{a:Addr}(h:α[l]? =some a):α'[l]? =some a:=by obtain⟨t,rfl⟩:=x.pre;rw[á (gS.mp h).1];exact h
def Ex0.sqT(x:Ex0 α H α' H'){a:Addr}{vs:List V}(q:SqT K H a vs):SqT K H' a vs:=by
 rcases q with(q|⟨o,q⟩)|q
 .exact .inl (.inl (x.tup a vs q))
 .exact .inl (.inr ⟨o,x.frz a o _ q⟩)
 .exact .inr q
def Ex0.sqF(x:Ex0 α H α' H'){a:Addr}{vs:List V}(q:SqF K H a vs):SqF K H' a vs:=by
 rcases q with⟨o,q⟩|q
 .exact .inl ⟨o,x.frz a o _ q⟩
 .exact .inr q
mutual
theorem Den.ex0(x:Ex0 α H α' H'): ∀{d:MV}{v:V},Den K α H d v->Den K α' H' d v
 |.non,_,q=>by unfold Den at q ⊢; exact q
 |.bl _,_,q=>by unfold Den at q ⊢; exact q
 |.int _,_,q=>by unfold Den at q ⊢; exact q
 |.str _,_,q=>by unfold Den at q ⊢; exact q
 |.typ _,_,q=>by unfold Den at q ⊢; exact q
 |.obj c ns ds,_,q=>by unfold Den at q ⊢;obtain⟨a,C,i,vs,o,e,h,k,j,b,l⟩:=q;exact⟨a,C,i,vs,o,e,x.frz a _ _ h,k,j,b,DenL.ex0 x l⟩
 |.loc _,_,q=>by unfold Den at q ⊢;obtain⟨a,e,h⟩:=q;exact⟨a,e,x.at h⟩
 |.tup ds,_,q=>by unfold Den at q ⊢;obtain⟨a,vs,e,s,l⟩:=q;exact⟨a,vs,e,x.sqT s,DenL.ex0 x l⟩
 |.scr ds,_,q=>by unfold Den at q ⊢;obtain⟨a,vs,e,s,l⟩:=q;exact⟨a,vs,e,x.sqF s,DenL.ex0 x l⟩
theorem DenL.ex0(x:Ex0 α H α' H'): ∀{ds:C1}{vs:List V},DenL K α H ds vs->DenL K α' H' ds vs
 |[],_,q=>by unfold DenL at q ⊢; exact q
 |d::ds,_,q=>by unfold DenL at q ⊢;obtain⟨v,r,e,a,l⟩:=q;exact⟨v,r,e,Den.ex0 x a,DenL.ex0 x l⟩
end
def Den.ext(x:Ext α H α' H'){d:MV}(q:Den K α H d v):Den K α' H' d v:=q.ex0 x.toEx0
def DenL.ext(x:Ext α H α' H'){d:C1}{v:List V}(q:DenL K α H d v):DenL K α' H' d v:=q.ex0 x.toEx0
theorem tO:Den K α H .non .non:=by unfold Den;rfl
theorem dM(b:Bool):Den K α H (.bl b) (.bl b):=by unfold Den;rfl
theorem yZ(i:Int):Den K α H (.int i) (.int i):=by unfold Den;rfl
theorem mU(x:Db):Den K α H (.str x) (.str (fX x)):=by unfold Den;rfl
theorem TD(n:String):Den K α H (.typ n) (.ty n):=by unfold Den;rfl
def nP{ds:C1}{a:Addr}{vs:List V}(s:SqT K H a vs)(l:DenL K α H ds vs):Den K α H (.tup ds) (.ref a):=by unfold Den;exact⟨a,vs,rfl,s,l⟩
def TF{ds:C1}{a:Addr}{vs:List V}(s:SqF K H a vs)(l:DenL K α H ds vs):Den K α H (.scr ds) (.ref a):=by unfold Den;exact⟨a,vs,rfl,s,l⟩
def mV{l:Nat}{a:Addr}(h:α[l]? =some a):Den K α H (.loc l) (.ref a):=by unfold Den;exact⟨a,rfl,h⟩
def dN(d:Den K α H .non v):v=.non:=by unfold Den at d;exact d
def pF{b:Bool}(d:Den K α H (.bl b) v):v=.bl b:=by unfold Den at d;exact d
def xM{i:Int}(d:Den K α H (.int i) v):v=.int i:=by unfold Den at d;exact d
def xN{x:Db}(d:Den K α H (.str x) v):v=.str (fX x):=by unfold Den at d;exact d
def He{c:Str}{b:B0}{ds:C1}{a C d:Addr}{vs:List V}{o:Obj}(h:H a=some (.frz o (.ins C d (b.zip vs))))(j:PySem.W.nsIn K mainGlobals c=some (some (.ref C)))(i:(PySem.W.clsIn K C).map (·.name)=some c)(e:b.length=vs.length)(l:DenL K α H ds vs):Den K α H (.obj c b ds) (.ref a):=by unfold Den;exact⟨a,C,d,vs,o,rfl,h,j,i,e,l⟩
def bV{c:Str}{b:B0}{ds:C1}(d:Den K α H (.obj c b ds) v): ∃a C e vs o,v=.ref a/\H a=some (.frz o (.ins C e (b.zip vs)))/\PySem.W.nsIn K mainGlobals c=some (some (.ref C))/\(PySem.W.clsIn K C).map (·.name)=some c/\b.length=vs.length/\DenL K α H ds vs:=by unfold Den at d;exact d
def dO{n:String}(d:Den K α H (.typ n) v):v=.ty n:=by unfold Den at d;exact d
def yO{ds:C1}(d:Den K α H (.tup ds) v): ∃a vs,v=.ref a/\SqT K H a vs/\DenL K α H ds vs:=by unfold Den at d;exact d
def bW{ds:C1}(d:Den K α H (.scr ds) v): ∃a vs,v=.ref a/\SqF K H a vs/\DenL K α H ds vs:=by unfold Den at d;exact d
def gT{l:Nat}(d:Den K α H (.loc l) v): ∃a,v=.ref a/\α[l]? =some a:=by unfold Den at d;exact d
theorem zX:DenL K α H [] []:=by unfold DenL;rfl
def zR{d:MV}{ds:C1}{vs:List V}(a:Den K α H d v)(l:DenL K α H ds vs):DenL K α H (d::ds) (v::vs):=by unfold DenL;exact⟨v,vs,rfl,a,l⟩
def DenL.uncons{d:MV}{ds:C1}{vs:List V}(l:DenL K α H (d::ds) vs): ∃v r,vs=v::r/\Den K α H d v/\DenL K α H ds r:=by unfold DenL at l;exact l
def DenL.isnil{vs:List V}(l:DenL K α H [] vs):vs=[]:=by unfold DenL at l;exact l
theorem DenL.length: ∀{ds:C1}{vs:List V},DenL K α H ds vs->vs.length=ds.length
 |[],_,q=>by rw[q.isnil];rfl
 |d::ds,_,q=>by obtain⟨v,r,rfl,_,l⟩:=q.uncons;rw[lC,lC,DenL.length l]
theorem DenL.append: ∀{ds es:C1}{vs us:List V},DenL K α H ds vs->DenL K α H es us->DenL K α H (ds++es) (vs++us)
 |[],_,_,_,q,l=>by rw[q.isnil];exact l
 |d::ds,_,_,_,q,l=>by obtain⟨v,r,rfl,a,b⟩:=q.uncons;exact zR a (DenL.append b l)
theorem DenL.drop: ∀{ds:C1}{vs:List V}(n:Nat),DenL K α H ds vs->DenL K α H (ds.drop n) (vs.drop n)
 |_,_,0,q=>q
 |[],_,n+1,q=>by rw[q.isnil];exact zX
 |d::ds,_,n+1,q=>by obtain⟨v,r,rfl,_,l⟩:=q.uncons;exact DenL.drop n l
theorem DenL.take: ∀{ds:C1}{vs:List V}(n:Nat),DenL K α H ds vs->DenL K α H (ds.take n) (vs.take n)
 |_,_,0,q=>zX
 |[],_,n+1,q=>by rw[q.isnil];exact zX
 |d::ds,_,n+1,q=>by obtain⟨v,r,rfl,a,l⟩:=q.uncons;exact zR a (DenL.take n l)
theorem DenL.set{d:MV}(a:Den K α H d v): ∀{ds:C1}{vs:List V}(n:Nat),DenL K α H ds vs->DenL K α H (ds.set n d) (vs.set n v)
 |[],_,_,q=>by rw[q.isnil];exact zX
 |e::ds,_,0,q=>by obtain⟨c,r,rfl,b,l⟩:=q.uncons;exact zR a l
 |e::ds,_,n+1,q=>by obtain⟨c,r,rfl,b,l⟩:=q.uncons;exact zR b (DenL.set a n l)
theorem DenL.get: ∀{ds:C1}{vs:List V}{i:Nat}{v:V},DenL K α H ds vs->vs[i]? =some v-> ∃d,ds[i]? =some d/\Den K α H d v
 |[],_,_,_,q,e=>by rw[q.isnil]at e;simp at e
 |d::ds,_,0,_,q,e=>by obtain⟨v,r,rfl,a,l⟩:=q.uncons;simp at e;subst e;exact⟨d,rfl,a⟩
 |d::ds,_,i+1,_,q,e=>by obtain⟨v,r,rfl,a,l⟩:=q.uncons;obtain⟨c,h1,b⟩:=DenL.get l (by simpa using e);exact⟨c,by simpa using h1,b⟩
def DenL.at{ds:C1}{vs:List V}{i:Nat}{d:MV}(q:DenL K α H ds vs)(e:ds[i]? =some d): ∃v,vs[i]? =some v/\Den K α H d v:=by
 have hi:=(gS.mp e).1;have a:i<vs.length:=by rw[q.length];exact hi
 obtain⟨c,h1,b⟩:=q.get (gE a);rw[e]at h1;cases h1;exact⟨_,gE a,b⟩
def DenL.cut{ds:C1}{vs:List V}(q:DenL K α H ds vs)(lo hi:B7):DenL K α H (fY ds lo hi) (WS vs lo hi):=by unfold fY WS;rw[q.length];exact(q.drop _).take _
theorem HM: ∀(a:Za),DenL K α H (a.map MV.int) (a.map V.int)
 |[]=>zX
 |b::bs=>zR (yZ b) (HM bs)
end
structure Gm where
 K:PySem.W.Frag
 mg:Str->Option ŋ
 P:ō
 w:World
abbrev _root_.L2.Cx.g(X:Cx):Gm:=⟨X.K,X.mg,X.prog,X.w⟩
inductive DenF(K:B9)(α:A9)(H:Hp):List (Str×MV)->List (Str×V)->Prop
 |nil:DenF K α H [] []
 |cons {x:Str} {d:MV} {v:V} {fs gs}:Den K α H d v->DenF K α H fs gs->DenF K α H ((x,d)::fs) ((x,v)::gs)
theorem DenF.ex0{K:B9}(x:Ex0 α H α' H'): ∀{fs gs},DenF K α H fs gs->DenF K α' H' fs gs
 |_,_,.nil=>.nil
 |_,_,.cons a l=>.cons (a.ex0 x) (DenF.ex0 x l)
def KeyD:MV->Key->Prop
 |.int i,k=>k=.inl i
 |.str x,k=>k=.inr (fX x)
 |_,_=>False
inductive DenK(K:B9)(α:A9)(H:Hp):List (MV×MV)->List (Key×V)->Prop
 |nil:DenK K α H [] []
 |cons {k:MV} {k':Key} {d:MV} {v:V} {fs gs}:KeyD k k'->Den K α H d v->DenK K α H fs gs->DenK K α H ((k,d)::fs) ((k',v)::gs)
theorem DenK.ex0{K:B9}(x:Ex0 α H α' H'): ∀{fs gs},DenK K α H fs gs->DenK K α' H' fs gs
 |_,_,.nil=>.nil
 |_,_,.cons k a l=>.cons k (a.ex0 x) (DenK.ex0 x l)
mutual
def xD:MV->Option NK
 |.non=>some (.key none)
 |.int i=>some (.key (some (.inl i)))
 |.str x=>some (.key (some (.inr (fX x))))
 |.tup ds=>(jE ds).map .tup
 |_=>none
def jE:List MV->Option (List NK)
 |[]=>some []
 |d::ds=>(xD d).bind λk=>(jE ds).map (k::·)
end
inductive DenN(K:B9)(α:A9)(H:Hp):List (MV×MV)->List (NK×Addr×ŋ)->Prop
 |nil:DenN K α H [] []
 |cons {k:MV} {nk:NK} {a:Addr} {d:MV} {v:V} {u:ŋ} {fs xs}:xD k=some nk->aX nk<=4->Den K α H k (.ref a)->Den K α H d v->RelV v u->DenN K α H fs xs->DenN K α H ((k,d)::fs) ((nk,a,u)::xs)
theorem DenN.ex0{K:B9}(x:Ex0 α H α' H'): ∀{fs xs},DenN K α H fs xs->DenN K α' H' fs xs
 |_,_,.nil=>.nil
 |_,_,.cons k e a d r l=>.cons k e (a.ex0 x) (d.ex0 x) r (DenN.ex0 x l)
def ObD(g:Gm)(α:A9)(H:Hp)(a:Addr):MO->Prop
 |.lst ds=> ∃vs,H a=some (.lst vs)/\DenL g.K α H ds vs
 |.dic kvs=>(∃e,H a=some (.dK e)/\DenK g.K α H kvs e)\/ ∃xs,H a=some (DN g.P g.w a xs)/\DenN g.K α H kvs xs
 |.ins c fs=> ∃C gs,g.mg c=some (.ref C)/\DenF g.K α H fs gs/\
   ∃b,H a=some (.frz b (.ext λh=>h.get? a=some b))/\b.cls=.ref C/\(fs=[]\/ ∃d od,b.dict=some d/\H d=some (.frz od (.xd gs))/\ ∃vs,b.data=.fields vs)
 |.rcd c fs=> ∃C d gs,PySem.W.nsIn g.K mainGlobals c=some (some (.ref C))/\H a=some (.ins C d gs)/\DenF g.K α H fs gs
 |.fdc kvs=> ∃b xs,H a=some (.frz b (DN g.P g.w a xs))/\DenN g.K α H kvs xs
def ObD.there{g:Gm}{a:Addr}{o:MO}(h:ObD g α H a o): ∃b,H a=some b/\(∀xs,b≠.tup xs)/\ ∀d u,b=.frz d u-> ∃e,u=.ext e:=by
 cases o with
 |lst ds=>obtain⟨vs,h,_⟩:=h;exact⟨_,h,(λxs z=>by cases z),λ_ _ z=>by cases z⟩
 |dic ds=>
  rcases h with⟨vs,h,_⟩|⟨vs,h,_⟩
  .exact⟨_,h,(λxs z=>by cases z),λ_ _ z=>by cases z⟩
  .exact⟨_,h,(λxs z=>by cases z),λ_ _ z=>by cases z⟩
 |ins c ds=>
  obtain⟨_,_,_,_,_,h,_⟩:=h;exact⟨_,h,(λxs z=>by cases z),λ_ _ z=>by cases z;exact⟨_,rfl⟩⟩
 |rcd c ds=>obtain⟨_,_,_,_,h,_⟩:=h;exact⟨_,h,(λxs z=>by cases z),λ_ _ z=>by cases z⟩
 |fdc kvs=>obtain⟨_,_,h,_⟩:=h;exact⟨_,h,(λxs z=>by cases z),λ_ _ z=>by cases z;exact⟨_,rfl⟩⟩
def ObD.move{g:Gm}{a:Addr}{o:MO}(h:ObD g α H a o)(x:Ex0 α H α' H')(e:H' a=H a):ObD g α' H' a o:=by
 cases o with
 |lst ds=>obtain⟨vs,h,l⟩:=h;exact⟨vs,e.trans h,l.ex0 x⟩
 |dic ds=>
  rcases h with⟨vs,h,l⟩|⟨vs,h,l⟩
  .exact .inl ⟨vs,e.trans h,l.ex0 x⟩
  .exact .inr ⟨vs,e.trans h,l.ex0 x⟩
 |ins c ds=>
  obtain⟨C,gs,m,l,b,h,n,j⟩:=h;exact⟨C,gs,m,l.ex0 x,b,e.trans h,n,j.imp id λ⟨d,od,h1,i,k⟩=>⟨d,od,h1,x.frz _ _ _ i,k⟩⟩
 |rcd c ds=>obtain⟨C,d,gs,m,h,l⟩:=h;exact⟨C,d,gs,m,e.trans h,l.ex0 x⟩
 |fdc kvs=>obtain⟨b,xs,h,l⟩:=h;exact⟨b,xs,e.trans h,l.ex0 x⟩
structure Wd(g:Gm)(α:A9)(S:Sto)(H:Hp):Prop where
 len:α.length=↑1
 nd:α.Nodup
 obj: ∀(l:Nat)(a:Addr)(o:MO),α[l]? =some a->S[l]? =some o->ObD g α H a o
section
variable{g:Gm}{α:A9}{S:Sto}{H:Hp}
def Wd.at(w:Wd g α S H){l:Nat}{o:MO}(h:S[l]? =some o): ∃a,α[l]? =some a/\ObD g α H a o:=by
 have b:l<α.length:=by rw[w.len];exact(gS.mp h).1
 exact⟨α[l],gE b,w.obj l _ o (gE b) h⟩
def Wd.of(w:Wd g α S H){l:Nat}{a:Addr}(h:α[l]? =some a): ∃o,S[l]? =some o/\ObD g α H a o:=by
 have b:l<S.length:=by rw[<-w.len];exact(gS.mp h).1
 exact⟨S[l],gE b,w.obj l a _ h (gE b)⟩
def Wd.mem(w:Wd g α S H){a:Addr}(h:a∈α): ∃b,H a=some b/\(∀xs,b≠.tup xs)/\ ∀d u,b=.frz d u-> ∃e,u=.ext e:=by obtain⟨l,c⟩:=getElem?_of_mem h;obtain⟨o,_,q⟩:=w.of c;exact q.there
def Wd.newx(w:Wd g α S H){p:Addr}(hp:H p=none):Ext α H α (xU H p o) where
 pre:=⟨[],by simp⟩
 new:=λb h=>.inl h
 keep:=λb o h _=>by rw[zH (zP h hp)];exact h
 has:=λb o h=>⟨o,by rw[zH (zP h hp)];exact h⟩
 tup:=λb o h=>by rw[zH (zP h hp)];exact h
 frz:=λb o u h=>by rw[zH (zP h hp)];exact h
def Wd.fresh(w:Wd g α S H){p:Addr}(a:H p=none):p∉α:=λz=>by obtain⟨_,h,_⟩:=w.mem z;rw[a]at h;cases h
def Wd.new(w:Wd g α S H){p:Addr}(b:H p=none):Wd g α S (xU H p o):=
 ⟨w.len,w.nd,λl a d h1 c=>(w.obj l a d h1 c).move (w.newx b).toEx0 (zH λz=>w.fresh b (by rw[<-z];exact è h1))⟩
def Ff{ho:HO}{a:Addr}(h:H a=some ho)(n: ∀b u,ho≠.frz b u:=by intro _ _ z;cases z): ∀b u,H a≠some (.frz b u):=λb u z=>n b u (å (h.symm.trans z))
def Wd.writex(w:Wd g α S H){l:Nat}{a:Addr}(h:α[l]? =some a)(nf: ∀ob u,H a≠some (.frz ob u)):Ext α H α (xU H a o) where
 pre:=⟨[],by simp⟩
 new:=λb h=>.inl h
 keep:=λb o e n=>by rw[zH λz=>n (by rw[z];exact è h)];exact e
 has:=λb o e=>by
  by_cases z:b=a
  .subst z;exact⟨_,zT⟩
  .exact⟨o,by rw[zH z];exact e⟩
 tup:=λb xs e=>by obtain⟨ho,h1,h2,_⟩:=w.mem (è h);rw[zH λz=>h2 xs (by subst z;rw[e]at h1;exact(å h1).symm)];exact e
 frz:=λb ob u e=>by rw[zH λz=>nf ob u (by rw[<-z];exact e)];exact e
def Wd.ne(w:Wd g α S H){l m:Nat}{a b:Addr}(h:α[l]? =some a)(h':α[m]? =some b)(n:l≠m):a≠b:=by rintro rfl;obtain⟨h1,d⟩:=gS.mp h;obtain⟨e,c⟩:=gS.mp h';exact n ((getElem_inj w.nd).mp (d.trans c.symm))
def Wd.write(w:Wd g α S H){l:Nat}{a:Addr}{ob:MO}(h:α[l]? =some a)(nf: ∀ob u,H a≠some (.frz ob u))(q:ObD g α (xU H a o) a ob):Wd g α (S.set l ob) (xU H a o) where
 len:=by rw[Ą];exact w.len
 nd:=w.nd
 obj:=λm b ob' h1 h2=>by
  by_cases e:l=m
  .subst e;rw[h]at h1;have hl:l<S.length:=by rw[<-w.len];exact(gS.mp h).1
   rw[ė hl]at h2;rw[<-å h1, <-å h2];exact q
  .rw[Ĥ e]at h2;exact(w.obj m b ob' h1 h2).move (w.writex h nf).toEx0 (zH (w.ne h1 h λz=>e z.symm))
def Wd.enterx(w:Wd g α S H){α0:A9}(x:Ext α0 H0 α H){b:Addr}(h0:H0 b=none)(n:b∉α):Ext α0 H0 (α++[b]) H where
 pre:=let ⟨t,e⟩:=x.pre;⟨_,by rw[e,aA]⟩
 new:=λc hc=>(é.mp hc).elim (x.new c) λz=>.inr (by rw[mS.mp z];exact h0)
 keep:=x.keep
 has:=x.has
 tup:=x.tup
 frz:=x.frz
theorem Wd.enter(w:Wd g α S H){b:Addr}{ds:C1}{vs:List V}(h:H b=some (.lst vs))(n:b∉α)(l:DenL g.K α H ds vs):Wd g (α++[b]) (S++[.lst ds]) H where
 len:=by rw[lA,lA,w.len];rfl
 nd:=ĥ.mpr ⟨w.nd,by simp,λa ha c hc=>by rw[mS.mp hc];rintro rfl;exact n ha⟩
 obj:=λm a o h1 h2=>by
  by_cases hm:m<α.length
  .rw[á hm]at h1;rw[á (by rw[<-w.len];exact hm)]at h2;exact(w.obj m a o h1 h2).move (Ex0.grow α [b] H) rfl
  .have hm':m=α.length:=by
    have:=(gS.mp h1).1;rw[lA,lS]at this
    lia
   subst hm';rw[æ (à _),sub_self]at h1;rw[æ (by rw[w.len];exact à _),w.len,sub_self]at h2;cases h1;cases h2;exact⟨vs,h,l.ex0 (Ex0.grow α [b] H)⟩
end
inductive R(β:Type) where
 |ok (b:β) (S:Sto)|exc (c:Str) (fs:List (Str×MV)) (S:Sto)|no
def R.bind:R β->(β->Sto->R γ)->R γ
 |.ok b S,k=>k b S
 |.exc c fs S,_=>.exc c fs S
 |.no,_=>.no
theorem R.bind_ok(b:β)(S:Sto)(k:β->Sto->R γ):(R.ok b S).bind k=k b S:=rfl
inductive Er where
 |val (d:MV)|new (ds:C1)
variable{rs:List Er}
instance:Inhabited Er:=⟨.val .non⟩
def DenX(K:B9)(α:A9)(H:Hp):Er->V->Prop
 |.val d,v=>Den K α H d v
 |.new ds,v=> ∃b vs,v=.ref b/\H b=some (.lst vs)/\b∉α/\DenL K α H ds vs
def DenE(K:B9)(H:Hp)(α':A9)(H':Hp)(r:Er)(v:V):Prop:=DenX K α' H' r v/\match r with |.new _=> ∀a,v=.ref a->H a=none|_=>True
section
variable{K:B9}{α α':A9}{H H0 H':Hp}
def DenX.ext(x:Ext α H α' H'): ∀{r:Er}{v:V},DenX K α H r v->DenX K α' H' r v
 |.val d,_,q=>Den.ext x q
 |.new ds,_,⟨b,vs,e,h,n,l⟩=>⟨b,vs,e,x.keep b _ h n,x.out h n,l.ext x⟩
def DenE.val{d:MV}(q:Den K α' H' d v):DenE K H α' H' (.val d) v:=⟨q,trivial⟩
def DenE.back(c: ∀b,H b=none->H0 b=none){r:Er}(q:DenE K H α' H' r v):DenE K H0 α' H' r v:=by
 refine⟨q.1,?_⟩
 cases r with
 |new ds=>exact λa e=>c a (q.2 a e)
 |_=>trivial
def DenE.ext{α'':A9}{H'':Hp}(x:Ext α' H' α'' H''){r:Er}(q:DenE K H α' H' r v):DenE K H α'' H'' r v:=⟨q.1.ext x,q.2⟩
end
section
variable{K:B9}{α:A9}{H:Hp}{v:V}
def vO(d:DenX K α H (.val .non) v):v=.non:=dN (K:=K) (α:=α) (H:=H) d
def EA{b:Bool}(d:DenX K α H (.val (.bl b)) v):v=.bl b:=pF (K:=K) (α:=α) (H:=H) d
def yP{b:Int}(d:DenX K α H (.val (.int b)) v):v=.int b:=xM (K:=K) (α:=α) (H:=H) d
def bX{b:Db}(d:DenX K α H (.val (.str b)) v):v=.str (fX b):=xN (K:=K) (α:=α) (H:=H) d
def Am{b:String}(d:DenX K α H (.val (.typ b)) v):v=.ty b:=dO (K:=K) (α:=α) (H:=H) d
def Pw{c:Str}{b:B0}{ds:C1}(d:DenX K α H (.val (.obj c b ds)) v): ∃a C e vs o,v=.ref a/\H a=some (.frz o (.ins C e (b.zip vs)))/\PySem.W.nsIn K mainGlobals c=some (some (.ref C))/\(PySem.W.clsIn K C).map (·.name)=some c/\b.length=vs.length/\DenL K α H ds vs:=bV d
def dP{ds:C1}(d:DenX K α H (.val (.tup ds)) v): ∃a vs,v=.ref a/\SqT K H a vs/\DenL K α H ds vs:=yO d
def EB{ds:C1}(d:DenX K α H (.val (.scr ds)) v): ∃a vs,v=.ref a/\SqF K H a vs/\DenL K α H ds vs:=bW d
def aZ{l:Nat}(d:DenX K α H (.val (.loc l)) v): ∃a,v=.ref a/\α[l]? =some a:=gT (K:=K) (H:=H) d
end
noncomputable def BF:List Er->List V->List Addr
 |.new _::rs,.ref b::vs=>b::BF rs vs
 |_::rs,_::vs=>BF rs vs
 |_,_=>[]
inductive ArgsE(K:B9)(H:Hp)(α':A9)(H':Hp):List Er->List V->Prop
 |nil:ArgsE K H α' H' [] []
 |cons {r v rs vs}:DenE K H α' H' r v->(∀ds b,r=.new ds->v=.ref b->b∉BF rs vs)->ArgsE K H α' H' rs vs->ArgsE K H α' H' (r::rs) (v::vs)
theorem ArgsE.nones{K:B9}: ∀{rs vs},ArgsE K H α' H' rs vs-> ∀b∈BF rs vs,H b=none
 |_,_,.nil=>λb h=>by simp[BF]at h
 |.val d::_,v::_,.cons a n l=>λb h=>ArgsE.nones l b (by simpa [BF]using h)
 |.new ds::_,v::_,.cons a n l=>λb h=>by
  obtain⟨c,vs,rfl,_⟩:=a.1;rcases mC.mp h with rfl|h
  .exact a.2 _ rfl
  .exact ArgsE.nones l b h
theorem ArgsE.back{K:B9}(c: ∀b,H b=none->H0 b=none): ∀{rs vs},ArgsE K H α' H' rs vs->ArgsE K H0 α' H' rs vs
 |_,_,.nil=>.nil
 |_,_,.cons a n l=>.cons (a.back c) n (ArgsE.back c l)
theorem ArgsE.length{K:B9}: ∀{rs vs},ArgsE K H α' H' rs vs->vs.length=rs.length
 |_,_,.nil=>rfl
 |_,_,.cons _ _ l=>by rw[lC,lC,ArgsE.length l]
class Dn (β:Type) (τ:outParam Type) where
 d:Gm->Hp->List Addr->Sto->Hp->β->τ->Prop
 back: ∀{g:Gm}{H H0:Hp}{α':A9}{S':Sto}{H':Hp}{b:β}{u:τ},(∀b,H b=none->H0 b=none)->d g H α' S' H' b u->d g H0 α' S' H' b u
instance:Dn Er V:=⟨λg H α' _ H' r v=>DenE g.K H α' H' r v,λa q=>q.back a⟩
instance:Dn Bool Bool:=⟨λ_ _ _ _ _ b u=>u=b,λ_ q=>q⟩
instance:Dn (List Er) (List V):=⟨λg H α' _ H' r v=>ArgsE g.K H α' H' r v,λa q=>q.back a⟩
instance:Dn (Option Int) (Option Int):=⟨λ_ _ _ _ _ b u=>u=b,λ_ q=>q⟩
abbrev XW:=Str->List (Str×MV)->Sto->List Addr->Hp->Prop
abbrev W0:XW:=λ_ _ _ _ _=>False
def Post[Dn β τ](g:Gm)(W:XW)(α:A9)(H:Hp):R β->(τ->Hp->Prop)->Prop
 |.ok b S,Q=> ∀u α' H',Ext α H α' H'->Wd g α' S H'->Dn.d g H α' S H' b u->Q u H'
 |.exc c fs S,_=> ∀α' H',Ext α H α' H'->Wd g α' S H'->W c fs S α' H'
 |.no,_=>False
section
variable{β τ γ υ:Type}[Dn β τ][Dn γ υ]{g:Gm}{W:XW}{α α':A9}{H H':Hp}
def Post.shift(x:Ext α H α' H'): ∀{m:R β}{Q:τ->Hp->Prop},Post g W α H m Q->Post g W α' H' m Q
 |.ok b S,Q,q=>λu a e i d j=>q u a e (x.trans i) d (Dn.back (λb h=>x.free h) j)
 |.exc c fs S,_,q=>λa e i d=>q a e (x.trans i) d
 |.no,_,q=>q
def Post.bind{m:R β}{k:β->Sto->R γ}{Q:υ->Hp->Prop}{e:τ->Hp->Prop}(q:Post g W α H (m.bind k) Q)
  (f: ∀u b S1 a H1,m=.ok b S1->Ext α H a H1->Wd g a S1 H1->Dn.d g H a S1 H1 b u->Post g W α H (k b S1) Q->e u H1):Post g W α H m e:=by
 cases m with
 |ok b S=>exact λu a H1 x w d=>f u b S a H1 rfl x w d q
 |exc c fs S=>exact q
 |no=>exact q
def Post.here{b:β}{Q:τ->Hp->Prop}{u:τ}(q:Post g W α H (.ok b S) Q)(w:Wd g α S H)(d:Dn.d g H α S H b u):Q u H:=q u α H (Ext.refl α H) w d
end
def Post.val{g:Gm}{W:XW}{d:MV}{Q:VK}(q:Post g W α H (.ok (Er.val d) S) Q)(w:Wd g α S H)(k:Den g.K α H d v):Q v H:=q.here w (DenE.val k)
def Post.newl{g:Gm}{W:XW}{ds:C1}{Q:VK}{vs:List V}{p:Addr}(q:Post g W α H (.ok (Er.new ds) S) Q)(w:Wd g α S H)(b:H p=none)(l:DenL g.K α H ds vs):Q (.ref p) (xU H p (.lst vs)):=
 q _ α _ (w.newx b) (w.new b) ⟨⟨p,vs,rfl,zT,w.fresh b,l.ext (w.newx b)⟩,λa e=>by cases e;exact b⟩
def Post.newt{g:Gm}{W:XW}{ds:C1}{Q:VK}{vs:List V}{p:Addr}(q:Post g W α H (.ok (Er.val (.tup ds)) S) Q)(w:Wd g α S H)(a:H p=none)(l:DenL g.K α H ds vs):Q (.ref p) (xU H p (.tup vs)):=
 q _ α _ (w.newx a) (w.new a) (.val (nP (.of zT) (l.ext (w.newx a))))
abbrev Rho:=List (Option MV)
variable{gf:MV->Rho->Sto->R Rho}{ρ:Rho}{g2:List MV->Rho->Sto->R Rho}
structure Slots(K:B9)(α:A9)(H:Hp)(ρ:Rho)(σ:St):Prop where
 len:σ.length=ρ.length
 slot: ∀(i:Nat)(d:MV),ρ[i]? =some (some d)-> ∃v,σ[i]? =some (some v)/\Den K α H d v
section
variable{K:B9}{α α':A9}{H H':Hp}{ρ:Rho}{σ:St}
def Slots.ex0(q:Slots K α H ρ σ)(x:Ex0 α H α' H'):Slots K α' H' ρ σ:=⟨q.len,λi d e=>let ⟨v,h1,a⟩:=q.slot i d e;⟨v,h1,a.ex0 x⟩⟩
def Slots.ext(q:Slots K α H ρ σ)(x:Ext α H α' H'):Slots K α' H' ρ σ:=q.ex0 x.toEx0
theorem Hf{α:Type}{l:List α}{i:Nat}{x y:α}(h:(l.set i x)[j]? =some y):(j=i/\y=x/\i<l.length)\/(j≠i/\l[j]? =some y):=by
 by_cases a:i=j
 .subst a;by_cases b:i<l.length
  .rw[ė b]at h;exact .inl ⟨rfl,(å h).symm,b⟩
  .rw[getElem?_eq_none (by rw[Ą];lia)]at h;cases h
 .rw[Ĥ a]at h;exact .inr ⟨λz=>a z.symm,h⟩
def Slots.set(q:Slots K α H ρ σ){i:Nat}{d:MV}(h:Den K α H d v):Slots K α H (ρ.set i (some d)) (σ.set i (some v)):=by
 refine⟨by rw[Ą,Ą];exact q.len,λj e z=>?_⟩;rcases Hf z with⟨rfl,e',hl⟩|⟨hj,e'⟩
 .cases e';exact⟨v,by rw[ė (by rw[q.len];exact hl)],h⟩
 .obtain⟨u,h1,a⟩:=q.slot j e e';exact⟨u,by rw[Ĥ (Ne.symm hj)];exact h1,a⟩
end
def Jd(X:Cx)(W:XW)[Dn β τ](P:(St->Hp->(τ->Hp->Prop)->Prop)->Prop)(f:Rho->Sto->R β):Prop:=
 ∃t,P t/\ ∀α ρ S σ H Q,Wd X.g α S H->Slots X.K α H ρ σ->Post X.g W α H (f ρ S) Q->t σ H Q
abbrev zN(X:Cx)(W:XW)(e:Expr)(f:Rho->Sto->R Er):Prop:=Jd X W (PE X e) f
abbrev rX(X:Cx)(W:XW)(e:Expr)(f:Rho->Sto->R Bool):Prop:=Jd X W (PT X e) f
abbrev Mv(X:Cx)(W:XW)(e:Expr)(f:Rho->Sto->R Bool):Prop:=Jd X W (PW X e) f
abbrev CS(X:Cx)(W:XW)(es:B8)(f:Rho->Sto->R (List Er)):Prop:=Jd X W (PA X es) f
abbrev Px(X:Cx)(W:XW)(e:Option Expr)(f:Rho->Sto->R (Option Int)):Prop:=Jd X W (PO X e) f
section
variable{X:Cx}{W:XW}{a b c:Expr}{f g h:Rho->Sto->R Er}{pos:Pos}
noncomputable def Hg:Option (Option MV)->Sto->R Er
 |some (some d),S=>.ok (.val d) S
 |_,_=>.no
def Py(i:Nat){x:Str}(e:X.N[i]? =some x:=by rfl)(b:Wh X.env.scope x:=by first |exact Or.inl rfl|exact Or.inr (Or.inl rfl)|exact Or.inr (Or.inr rfl))(hd:(x==("__debug__":Str))=false:=by decide)
  (hcd:(x==("__classdict__":Str))=false:=by decide):zN X W (.Name x pos) (λρ S=>Hg (ρ[i]?) S):=by
 refine⟨_,pv i e b hd hcd,λα ρ S σ H Q c sl q=>?_⟩;dsimp only at q
 cases z:ρ[i]? with
 |none=>rw[z]at q;exact q.elim
 |some o=>
  cases o with
  |none=>rw[z]at q;exact q.elim
  |some d=>
   rw[z]at q;obtain⟨v,h1,a⟩:=sl.slot i d z;exact⟨v,h1,Post.val q c a⟩
def Pz{i:Int}:zN X W (.Constant (.int i) j pos) (λ_ S=>.ok (.val (.int i)) S):=⟨_,ZP,λα ρ S σ H Q a sl q=>Post.val q a (yZ i)⟩
def Xn{i:Bool}:zN X W (.Constant (.bool i) j pos) (λ_ S=>.ok (.val (.bl i)) S):=⟨_,Wj,λα ρ S σ H Q a sl q=>Post.val q a (dM i)⟩
def Qa:zN X W (.Constant .none j pos) (λ_ S=>.ok (.val .non) S):=⟨_,Of,λα ρ S σ H Q a sl q=>Post.val q a tO⟩
def Qb{x:Str}(cs:Db)(a:x=fX cs:=by rfl):zN X W (.Constant (.str x) j pos) (λ_ S=>.ok (.val (.str cs)) S):=
 ⟨_,Og,λα ρ S σ H Q b sl q=>Post.val q b (by rw[a];exact mU cs)⟩
def Hh{x:Str}{i:Int}{t:Tok}(a:Gl X x)(b:X.mg x=some (.int i t))(hd:(x==("__debug__":Str))=false:=by decide):zN X W (.Name x pos) (λ_ S=>.ok (.val (.int i)) S):=
 ⟨_,Fs (v:=.int i) a b ⟨t,rfl⟩ hd,λα ρ S σ H Q c sl q=>Post.val q c (yZ i)⟩
def Mw{x:Str}{T:String}(a:Gl X x)(b:X.mg x=none)(c:bootBuiltins x=some (.type T))(e:x≠"__name__":=by decide)(hd:(x==("__debug__":Str))=false:=by decide):zN X W (.Name x pos) (λ_ S=>.ok (.val (.typ T)) S):=
 ⟨_,Ft (v:=.ty T) a b c rfl e hd,λα ρ S σ H Q d sl q=>Post.val q d (TD T)⟩
def Qc{i:Int}{a:Pos}:zN X W (.UnaryOp .USub (.Constant (.int i) j a) pos) (λ_ S=>.ok (.val (.int (-i))) S):=
 ⟨_,Ww Pa ZP,λα ρ S σ H Q b sl q=>⟨i,rfl,Post.val q b (yZ (-i))⟩⟩
def RA(X:Cx)(W:XW)(r:R2)(F:Er->Er->Sto->R Er):Prop:= ∀p q x y α S H Q,Wd X.g α S H->DenX X.K α H p x->DenX X.K α H q y->Post X.g W α H (F p q S) Q->r x y H Q
def two{r:R2}{F:Er->Er->Sto->R Er}(j:RA X W r F){ta tb:TE}(fa: ∀α ρ S σ H Q,Wd X.g α S H->Slots X.K α H ρ σ->Post X.g W α H (f ρ S) Q->ta σ H Q)
  (fb: ∀α ρ S σ H Q,Wd X.g α S H->Slots X.K α H ρ σ->Post X.g W α H (g ρ S) Q->tb σ H Q) {α:A9} {ρ:Rho} {S:Sto} {σ:St} {H:Hp} {Q:VK} (wd:Wd X.g α S H) (sl:Slots X.K α H ρ σ)
  (q:Post X.g W α H ((f ρ S).bind λp S1=>(g ρ S1).bind λq S2=>F p q S2) Q):ta σ H λx H1=>tb σ H1 λy b=>r x y b Q:=
 fa α ρ S σ H _ wd sl (q.bind λu p S1 c H1 w d m i h=>fb c ρ S1 σ H1 _ m (sl.ext d) ((h.shift d).bind λs p2 S2 a b v e n o k=>
  j p p2 u s a S2 b Q n (i.1.ext e) o.1 (k.shift e)))
noncomputable def BG{e:Operator}{r:R2}{F:Er->Er->Sto->R Er}(ho:OpR X (binaryOp e) r)(i:RA X W r F)(c:zN X W a f)(d:zN X W b g):zN X W (.BinOp a e b pos) (λρ S=>(f ρ S).bind λp S1=>(g ρ S1).bind λq S2=>F p q S2):=by obtain⟨ta,c,fa⟩:=c;obtain⟨tb,d,fb⟩:=d;exact⟨_,Wv ho c d,λα ρ S σ H Q h sl q=>two i fa fb h sl q⟩
def An{c:CmpOp}{r:R2}{F:Er->Er->Sto->R Er}(ho:OpR X (compareOp c) r)(i:RA X W r F)(d:zN X W a f)(e:zN X W b g)(j:behindInMarks c b=false:=by first |exact ZW _|with_unfolding_all rfl):
  zN X W (.Compare a [c] [b] pos) (λρ S=>(f ρ S).bind λp S1=>(g ρ S1).bind λq S2=>F p q S2):=by
 obtain⟨ta,d,fa⟩:=d;obtain⟨tb,e,fb⟩:=e;exact⟨_,Ge ho d e j,λα ρ S σ H Q h sl q=>two i fa fb h sl q⟩
def Mx{r:R2}{F:Er->Er->Sto->R Er}(ho:IxR X r)(h:RA X W r F)(c:zN X W a f)(d:zN X W b g)(hs:CQ b:=by exact λ_ _=>rfl):
  zN X W (.Subscript a b pos) (λρ S=>(f ρ S).bind λp S1=>(g ρ S1).bind λq S2=>F p q S2):=by
 obtain⟨ta,c,fa⟩:=c;obtain⟨tb,d,fb⟩:=d;exact⟨_,Xe ho c d hs,λα ρ S σ H Q e sl q=>two h fa fb e sl q⟩
noncomputable def eC:Er->Sto->R Bool
 |.val (.bl b),S=>.ok b S
 |_,_=>.no
def Ao{p:Er}{Q:Bool->Hp->Prop}(q:Post X.g W α H (eC p S) Q): ∃k,p=.val (.bl k)/\Post X.g W α H (.ok k S) Q:=by
 unfold eC at q;split at q
 .exact⟨_,rfl,q⟩
 .exact q.elim
def pZ{c:CmpOp}{r:R2}{F:Er->Er->Sto->R Er}(ho:OpR X (compareOp c) r)(n:RA X W r F)(d:zN X W a f)(e:zN X W b g)(v:behindInMarks c b=false:=by first |exact ZW _|with_unfolding_all rfl):
  rX X W (.Compare a [c] [b] pos) (λρ S=>((f ρ S).bind λp S1=>(g ρ S1).bind λq S2=>F p q S2).bind eC):=by
 obtain⟨ta,d,fa⟩:=d;obtain⟨tb,e,fb⟩:=e;refine⟨_,Gf ho d e v,λα ρ S σ H Q j sl q=>?_⟩;refine two n fa fb j sl (q.bind λu p S1 w H1 y m s i h=>?_);obtain⟨k,rfl,o⟩:=Ao (h.shift m);exact⟨k,EA i.1,o.here s rfl⟩
def chF(F G:Er->Er->Sto->R Er)(p q:Er)(S:Sto)(k:Sto->R Er):R Er:=(F p q S).bind λz S1=>(eC z S1).bind λc S2=>if c=true then(k S2).bind λr a=>G q r a else .ok (.val (.bl false)) S2
noncomputable def EC:Er->Sto->R Bool
 |.val .non,S=>.ok false S
 |.val (.bl b),S=>.ok b S
 |.val (.int i),S=>.ok (i !=0) S
 |.val (.str x),S=>if x.length<=sizeLine then .ok (!x.isEmpty) S else .no
 |.val (.tup ds),S=>.ok (!ds.isEmpty) S
 |.val (.scr ds),S=>.ok (!ds.isEmpty) S
 |.val (.loc l),S=>match S[l]? with
  |some (.lst ds)=>.ok (!ds.isEmpty) S
  |_=>.no
 |.val (.typ _),_=>.no
 |.val (.obj _ _ _),_=>.no
 |.new ds,S=>.ok (!ds.isEmpty) S
def qX{ds:C1}{vs:List V}{K:B9}(l:DenL K α H ds vs):(!vs.isEmpty)= !ds.isEmpty:=by have:=l.length;cases ds<;>cases vs<;>simp_all
theorem Ap{p:Er}{x:V}{Q:Bool->Hp->Prop}(j:Wd X.g α S H)(d:DenX X.K α H p x)(q:Post X.g W α H (EC p S) Q): ∃k,Pb X.K x H k/\Q k H:=by
 match p,d,q with
 |.val .non,d,q=>cases vO d;exact⟨_,rfl,q.here j rfl⟩
 |.val (.bl b),d,q=>cases EA d;exact⟨_,rfl,q.here j rfl⟩
 |.val (.int i),d,q=>cases yP d;exact⟨_,rfl,q.here j rfl⟩
 |.val (.typ n),d,q=>exact q.elim
 |.val (.obj _ _ _),d,q=>exact q.elim
 |.val (.str z),d,q=>
  cases bX d;have e:Post X.g W α H (if z.length<=sizeLine then R.ok _ S else R.no) Q:=q;split at e
  .rename_i w;refine⟨_,⟨by rw[gR];exact w,?_⟩,e.here j rfl⟩;rw[gR]
   cases z with
   |nil=>rfl
   |cons c r=>
    have v:((r.length:Int)+1)≠0:=by lia
    simp[v]
  .exact e.elim
 |.val (.tup ds),d,q=>
  obtain⟨a,vs,rfl,s,l⟩:=dP d;exact⟨_,.inr (.inl ⟨vs,s,(qX l).symm⟩),q.here j rfl⟩
 |.val (.scr ds),d,q=>
  obtain⟨a,vs,rfl,s,l⟩:=EB d;exact⟨_,.inl ⟨vs,s.l,(qX l).symm⟩,q.here j rfl⟩
 |.val (.loc n),d,q=>
  obtain⟨a,rfl,h⟩:=aZ d;obtain⟨o,h1,m⟩:=j.of h;have e:Post X.g W α H (match S[n]? with |some (.lst ds)=>R.ok _ S|_=>R.no) Q:=q;rw[h1]at e
  cases o with
  |lst ds=>
   obtain⟨vs,u,l⟩:=m;exact⟨_,.inl ⟨vs,.of u,(qX l).symm⟩,e.here j rfl⟩
  |dic ds=>exact e.elim
  |ins c fs=>exact e.elim
  |rcd c fs=>exact e.elim
  |fdc _=>exact e.elim
 |.new ds,⟨a,vs,ex,s,n,l⟩,q=>subst ex;exact⟨_,.inl ⟨vs,.of s,(qX l).symm⟩,q.here j rfl⟩
def Aq(c:zN X W a f)(d: ∀b,isTrue a X.env b=(do let v <-b;standAt a.pos;holding [v] (truthy v)):=by intro _;rfl):rX X W a (λρ S=>(f ρ S).bind EC):=by obtain⟨ta,c,fa⟩:=c;exact⟨_,ZX c d,λα ρ S σ H Q i sl q=>fa α ρ S σ H _ i sl (q.bind λu p S1 m H1 n j k h e=>Ap k h.1 (e.shift j))⟩
end
section
variable{X:Cx}{W:XW}{a b c:Expr}{es:B8}{f g h:Rho->Sto->R Er}{tf tg:Rho->Sto->R Bool}{pos:Pos}
def andF(p:Er)(S:Sto)(k:Sto->R Er):R Er:=(eC p S).bind λc S1=>if c=true then k S1 else .ok (.val (.bl false)) S1
def orF(p:Er)(S:Sto)(k:Sto->R Er):R Er:=(eC p S).bind λc S1=>if c=true then .ok (.val (.bl true)) S1 else k S1
def Xo(j:rX X W c tf)(i:zN X W a f)(m:zN X W b g):zN X W (.IfExp c a b pos) (λρ S=>(tf ρ S).bind λk S1=>if k=true then f ρ S1 else g ρ S1):=by
 obtain⟨w,j,s⟩:=j;obtain⟨ta,i,fa⟩:=i;obtain⟨tb,m,fb⟩:=m;refine⟨_,ZQ j i m,λα ρ S σ H Q r sl q=>s α ρ S σ H _ r sl (q.bind λu p S1 d H1 v h n o e=>?_)⟩;cases o
 cases u with
 |true=>rw[iP rfl]at e ⊢; exact fa d ρ S1 σ H1 _ n (sl.ext h) (e.shift h)
 |false=>rw[iN xF0]at e ⊢; exact fb d ρ S1 σ H1 _ n (sl.ext h) (e.shift h)
def Hi(b:rX X W a tf):Mv X W (.BoolOp .And [a] pos) tf:=let ⟨t,h,k⟩:=b;⟨t,Fv h,k⟩
def Qd(b:rX X W a tf):Mv X W (.BoolOp .Or [a] pos) tf:=let ⟨t,h,k⟩:=b;⟨t,Oh h,k⟩
theorem Qe(d:rX X W a tf)(h:Mv X W (.BoolOp .And (b::es) pos) tg):Mv X W (.BoolOp .And (a::b::es) pos) (λρ S=>(tf ρ S).bind λk S1=>if k=true then tg ρ S1 else .ok false S1):=by
 obtain⟨ta,d,fa⟩:=d;obtain⟨tb,h,fb⟩:=h;refine⟨_,Oi d h,λα ρ S σ H Q n sl q=>fa α ρ S σ H _ n sl (q.bind λu p S1 i H1 o e j m c=>?_)⟩;cases m
 cases u with
 |true=>rw[iP rfl]at c ⊢; exact fb i ρ S1 σ H1 _ j (sl.ext e) (c.shift e)
 |false=>rw[iN xF0]at c ⊢; exact(c.shift e).here j rfl
def Xp(d:rX X W a tf)(h:Mv X W (.BoolOp .Or (b::es) pos) tg):Mv X W (.BoolOp .Or (a::b::es) pos) (λρ S=>(tf ρ S).bind λk S1=>if k=true then .ok true S1 else tg ρ S1):=by
 obtain⟨ta,d,fa⟩:=d;obtain⟨tb,h,fb⟩:=h;refine⟨_,Wm d h,λα ρ S σ H Q n sl q=>fa α ρ S σ H _ n sl (q.bind λu p S1 i H1 o e j m c=>?_)⟩;cases m
 cases u with
 |true=>rw[iP rfl]at c ⊢; exact(c.shift e).here j rfl
 |false=>rw[iN xF0]at c ⊢; exact fb i ρ S1 σ H1 _ j (sl.ext e) (c.shift e)
def Xq(h:Mv X W a tf):rX X W a tf:=let ⟨t,h,k⟩:=h;⟨t,h.pt,k⟩
theorem Qf(b:rX X W a tf):rX X W (.UnaryOp .Not a pos) (λρ S=>(tf ρ S).bind λk S1=>.ok (!k) S1):=by obtain⟨ta,b,fa⟩:=b;refine⟨_,Oj b,λα ρ S σ H Q e sl q=>fa α ρ S σ H _ e sl (q.bind λu p S1 j H1 m h i d c=>?_)⟩;cases d;exact(c.shift h).here i rfl
end
section
variable{K:B9}{H0:Hp}
noncomputable def zF:List Er->Sto->List MV×Sto
 |[],S=>([],S)
 |.val d::rs,S=>((d::(zF rs S).1),(zF rs S).2)
 |.new xs::rs,S=>((.loc S.length::(zF rs (S++[.lst xs])).1),(zF rs (S++[.lst xs])).2)
def ArgsE.grow{H0:Hp}{b:Addr}{vs:List V}(q:ArgsE K H0 α H rs vs)(n:b∉BF rs vs):ArgsE K H0 (α++[b]) H rs vs:=by
 induction q with
 |nil=>exact .nil
 |@cons r v rs vs a m l ih=>
  cases r with
  |val d=>exact .cons ⟨Den.ex0 (Ex0.grow α [b] H) a.1,trivial⟩ m (ih (by simpa [BF]using n))
  |new ds=>
   obtain⟨⟨c,us,rfl,h1,i,j⟩,h⟩:=a;have e:=n;refine .cons ⟨⟨c,us,rfl,h1,λz=>?_,j.ex0 (Ex0.grow α [b] H)⟩,h⟩ m (ih λz=>e (mO _ z));rcases é.mp z with z|z
   .exact i z
   .exact e (by rw[mS.mp z];exact mF0)
theorem qA{g:Gm}{H0:Hp}{i:A9}{H:Hp}: ∀{rs:List Er}{vs:List V}{α:A9}{S:Sto},Wd g α S H->Ext i H0 α H->ArgsE g.K H0 α H rs vs->
  ∃α',Ext i H0 α' H/\Ex0 α H α' H/\Wd g α' (zF rs S).2 H/\DenL g.K α' H (zF rs S).1 vs
 |_,_,α,S,w,x,.nil=>⟨α,x,⟨⟨[],by simp⟩,λ_ _ h=>h,λ_ _ _ h=>h⟩,w,zX⟩
 |.val d::rs,v::vs,α,S,w,x,.cons a n l=>by obtain⟨α',k,b,j,m⟩:=qA w x l;exact⟨α',k,b,j,zR (Den.ex0 b a.1) m⟩
 |.new ds::rs,v::vs,α,S,w,x,.cons a n l=>by
  obtain⟨⟨c,us,rfl,h1,o,p⟩,q⟩:=a;obtain⟨α',k,b,j,m⟩:=qA (w.enter h1 o p) (w.enterx x (q c rfl) o) (l.grow (n ds c rfl rfl));refine⟨α',k,⟨?_,b.tup,b.frz⟩,j,zR (mV (b.at ?_)) m⟩
  .obtain⟨t,e⟩:=b.pre;exact⟨_,by rw[e,aA]⟩
  .rw[<-w.len,æ (à _),sub_self];rfl
theorem vP: ∀(rs:List Er)(S:Sto),(zF rs S).1.length=rs.length
 |[],S=>rfl
 |.val d::rs,S=>by show(d::(zF rs S).1).length=_;rw[lC,vP rs S];rfl
 |.new ds::rs,S=>by show(_::(zF rs _).1).length=_;rw[lC,vP rs _];rfl
end
section
variable{X:Cx}{W:XW}{a b c e:Expr}{es:B8}{f g h:Rho->Sto->R Er}{af:Rho->Sto->R (List Er)}{pos:Pos}
def Qg:CS X W [] (λ_ S=>.ok [] S):=⟨_,Pd,λα ρ S σ H Q a sl q=>q.here a .nil⟩
def Hj(o:zN X W a f)(k:CS X W es af)(hs:q9 X a es:=by rfl):CS X W (a::es) (λρ S=>(f ρ S).bind λp S1=>(af ρ S1).bind λps S2=>.ok (p::ps) S2):=by
 obtain⟨ta,o,fa⟩:=o;obtain⟨I,k,w⟩:=k;refine⟨_,Gg o k hs,λα ρ S σ H Q A sl q=>fa α ρ S σ H _ A sl (q.bind λu p S1 n H1 G i F s y=>w n ρ S1 σ H1 _ F (sl.ext i) ?_)⟩;have d:Post X.g W α H _ Q:=y
 cases z:af ρ S1 with
 |ok ps S2=>
  rw[z]at d;intro vs e m j r v;refine d _ e m (i.trans j) r (ArgsE.cons (DenE.ext j s) (λds b B E D=>?_) (ArgsE.back (λb h=>i.free h) v));subst B E;obtain⟨⟨c,us,C,h1,_⟩,_⟩:=s;cases C;have:=ArgsE.nones v _ D;rw[h1]at this;cases this
 |exc c fs S2=>rw[z]at d;exact λe m j r=>d e m (i.trans j) r
 |no=>rw[z]at d;exact d
def xR(rs:List Er)(S:Sto):R Er:=if rs.length<=sizeLine then .ok (.val (.tup (zF rs S).1)) (zF rs S).2 else .no
def xW(rs:List Er)(S:Sto):R Er:=if rs.length<=sizeLine then .ok (.new (zF rs S).1) (zF rs S).2 else .no
def Qh{b}(h:CS X W es af):zN X W (.Tuple es b pos) (λρ S=>(af ρ S).bind xR):=by
 obtain⟨t,h,k⟩:=h;refine⟨_,Pe h,λα ρ S σ H Q j sl q=>k α ρ S σ H _ j sl (q.bind λvs rs S1 r H1 v b m c d=>?_)⟩;have a:Post X.g W α H (if rs.length<=sizeLine then R.ok _ (zF rs S1).2 else R.no) Q:=d;split at a
 .rename_i o;obtain⟨e,s,u,n,l2⟩:=qA m b c;exact⟨by rw[ArgsE.length c];exact o,λp i=>(a.shift s).newt n i l2⟩
 .exact a.elim
def Qi(h:CS X W es af):zN X W (.List es pos) (λρ S=>(af ρ S).bind xW):=by
 obtain⟨t,h,k⟩:=h;refine⟨_,Pf h,λα ρ S σ H Q i sl q=>k α ρ S σ H _ i sl (q.bind λvs rs S1 r H1 v j m b c=>?_)⟩;have a:Post X.g W α H (if rs.length<=sizeLine then R.ok _ (zF rs S1).2 else R.no) Q:=c;split at a
 .rename_i o;obtain⟨d,s,u,n,l2⟩:=qA m j b;exact⟨by rw[ArgsE.length b];exact o,λp e=>(a.shift s).newl n e l2⟩
 .exact a.elim
inductive ArgsX(K:B9)(α:A9)(H:Hp):List Er->List V->Prop
 |nil:ArgsX K α H [] []
 |cons {r v rs vs}:DenX K α H r v->ArgsX K α H rs vs->ArgsX K α H (r::rs) (v::vs)
theorem ArgsE.x{K:B9}: ∀{rs vs},ArgsE K H0 α H rs vs->ArgsX K α H rs vs
 |_,_,.nil=>.nil
 |_,_,.cons a _ l=>.cons a.1 (ArgsE.x l)
def qB(X:Cx)(W:XW)(r:List V->Hp->VK->Prop)(F:List Er->Sto->R Er):Prop:= ∀rs vs α S H Q,Wd X.g α S H->ArgsX X.K α H rs vs->Post X.g W α H (F rs S) Q->r vs H Q
def NI{id:String}{r:List V->Hp->VK->Prop}{F:List Er->Sto->R Er}{x:Str}{p:Pos}(o:CallR X (.builtin id) r)(j:qB X W r F)(c:Gl X x)(s:X.mg x=none)(u:bootBuiltins x=some (.builtin id))(a:CS X W (e::es) af)
  (hn:x≠"__name__":=by decide) (hdb:(x==("__debug__":Str))=false:=by decide)
  (he:q9 X e es:=by rfl) (hpl:Q0 X pos es:=by rfl):zN X W (.Call (.Name x p) (e::es) [] pos) (λρ S=>(af ρ S).bind F):=by
 obtain⟨t,a,k⟩:=a;exact⟨_,ZY o c s u a hn hdb he hpl,λα ρ S σ H Q i sl q=>k α ρ S σ H _ i sl (q.bind λvs rs S1 b H1 v m n h d=>j rs vs b S1 H1 Q n (ArgsE.x h) (d.shift m))⟩
def bY{T:String}{r:List V->Hp->VK->Prop}{F:List Er->Sto->R Er}{x:Str}{p:Pos}(o:CallR X (.type T) r)(j:qB X W r F)(c:Gl X x)(s:X.mg x=none)(u:bootBuiltins x=some (.type T))(a:CS X W (e::es) af)
  (hn:x≠"__name__":=by decide) (hdb:(x==("__debug__":Str))=false:=by decide)
  (he:q9 X e es:=by rfl) (hpl:Q0 X pos es:=by rfl):zN X W (.Call (.Name x p) (e::es) [] pos) (λρ S=>(af ρ S).bind F):=by
 obtain⟨t,a,k⟩:=a;exact⟨_,WR o c s u a hn hdb he hpl,λα ρ S σ H Q i sl q=>k α ρ S σ H _ i sl (q.bind λvs rs S1 b H1 v m n h d=>j rs vs b S1 H1 Q n (ArgsE.x h) (d.shift m))⟩
def NL(X:Cx)(W:XW)(r:V->List V->Hp->VK->Prop)(F:Er->List Er->Sto->R Er):Prop:= ∀p rs x vs α S H0 H Q a,Wd X.g α S H->Ext a H0 α H->DenX X.K α H p x->ArgsE X.K H0 α H rs vs->Post X.g W a H0 (F p rs S) Q->r x vs H Q
def TyM(X:Cx)(T:String)(a:Er->Sto->Bool):Prop:= ∀p x α S H,Wd X.g α S H->DenX X.K α H p x->a p S=true->tyV X.K T x H
def JR{T:String}{name:Str}{id:String}{r:V->List V->Hp->VK->Prop}{F:Er->List Er->Sto->R Er}{v:Er->Sto->Bool}{apos:Pos}(I:PlainAttrs T)(c:Slot T name id)(i:typeOf (.builtin id)=pure (.type "method_descriptor"))(K:Gp X id r)(A:NL X W r F)(E:TyM X T v)
  (m:zN X W a f) (j:CS X W (e::es) af)
  (hbase:attributeBase a name X.env (eval a X.env)=eval a X.env:=by rfl)
  (hfew:((backTo pos (starEach (e::es) X.env)).all (λx=>!x.1)&&(backToKw pos (keywordEach [] X.env)).all (λx=>x.1.isSome)
   &&decide ((e::es).length+([]:List Keyword).length+(if([]:List Keyword).isEmpty then 0 else 1)<30))=true:=by rfl)
  (hline:(apos.endLine==pos.line)=true:=by rfl) (hs:q9 X e es:=by rfl) (hplain:Q0 X pos es:=by rfl):
  zN X W (.Call (.Attribute a name apos) (e::es) [] pos) (λρ S=>(f ρ S).bind λp S1=>if v p S1=true then(af ρ S1).bind λrs S2=>F p rs S2 else .no):=by
 obtain⟨to,m,B⟩:=m;obtain⟨t,j,k⟩:=j;refine⟨_,Xj I c i K m j hbase hfew hline hs hplain,λα ρ S σ H Q y sl q=>B α ρ S σ H _ y sl (q.bind λu p S1 b H1 M o s n d=>?_)⟩;split at d
 .rename_i G;exact⟨E p u b S1 H1 s n.1 G,k b ρ S1 σ H1 _ s (sl.ext o) ((d.shift o).bind λvs rs S2 h z L w J D C=>A p rs u vs h S2 H1 z Q b J w (n.1.ext w) D C)⟩
 .exact d.elim
def Hk:Px X W none (λ_ S=>.ok none S):=⟨_,Gj,λα ρ S σ H Q a sl q=>q.here a rfl⟩
noncomputable def Fg:Er->Sto->R (Option Int)
 |.val (.int i),S=>.ok (some i) S
 |_,_=>.no
def Hl(c:zN X W a f):Px X W (some a) (λρ S=>(f ρ S).bind Fg):=by
 obtain⟨ta,c,fa⟩:=c;refine⟨_,Gk c,λα ρ S σ H Q e sl q=>fa α ρ S σ H _ e sl (q.bind λu p S1 j H1 k h i d b=>?_)⟩;unfold Fg at b;split at b
 .exact⟨_,yP d.1,(b.shift h).here i rfl⟩
 .exact b.elim
def Sl3(X:Cx)(W:XW)(r:V->Option Int->Option Int->Hp->VK->Prop)(F:Er->Option Int->Option Int->Sto->R Er):Prop:= ∀p lo hi x α S H Q,Wd X.g α S H->DenX X.K α H p x->Post X.g W α H (F p lo hi S) Q->r x lo hi H Q
def Ar{lo hi:Option Expr}{r:V->Option Int->Option Int->Hp->VK->Prop}{F:Er->Option Int->Option Int->Sto->R Er}{lf o:Rho->Sto->R (Option Int)}{p2:Pos}(v:SlR X r)(C:Sl3 X W r F)(i:zN X W a f)(k:Px X W lo lf)(d:Px X W hi o):
  zN X W (.Subscript a (.Slice lo hi none p2) pos) (λρ S=>(f ρ S).bind λp S1=>(lf ρ S1).bind λl S2=>(o ρ S2).bind λu e=>F p l u e):=by
 obtain⟨ta,i,fa⟩:=i;obtain⟨tl,k,D⟩:=k;obtain⟨th,d,K⟩:=d
 refine⟨_,Aa v i k d,λα ρ S σ H Q A sl q=>fa α ρ S σ H _ A sl (q.bind λu p S1 h H1 U j L y w=>D h ρ S1 σ H1 _ L (sl.ext j) ((w.shift j).bind λN l S2 c B T n M J E=>
  K c ρ S2 σ B _ M ((sl.ext j).ext n) ((E.shift n).bind λz m e b G Y s P O I=>?_)))⟩
 cases J;cases O;exact C p N z u b e G Q P ((y.1.ext n).ext s) (I.shift s)
end
inductive Fl where
 |next (ρ:Rho)|ret (r:Er)|brk (ρ:Rho)|cont (ρ:Rho)
abbrev AX:=Rho->Sto->R Er
abbrev AY:=Rho->Sto->R Fl
abbrev AZ:=Rho->Sto->R Bool
def PostS(g:Gm)(W:XW)(α:A9)(H:Hp)(D:Ends):R Fl->Prop
 |.ok (.next ρ) S=> ∀σ α' H',Ext α H α' H'->Wd g α' S H'->Slots g.K α' H' ρ σ->D.nx σ H'
 |.ok (.ret r) S=> ∀v α' H',Ext α H α' H'->Wd g α' S H'->DenE g.K H α' H' r v->D.rt v H'
 |.ok (.brk ρ) S=> ∀σ α' H',Ext α H α' H'->Wd g α' S H'->Slots g.K α' H' ρ σ->D.bk σ H'
 |.ok (.cont ρ) S=> ∀σ α' H',Ext α H α' H'->Wd g α' S H'->Slots g.K α' H' ρ σ->D.ct σ H'
 |.exc c fs S=> ∀α' H',Ext α H α' H'->Wd g α' S H'->W c fs S α' H'
 |.no=>False
section
variable{g:Gm}{W:XW}{α α':A9}{H H':Hp}{D D':Ends}
def PostS.shift(x:Ext α H α' H'): ∀{m:R Fl},PostS g W α H D m->PostS g W α' H' D m
 |.ok (.next ρ) S,q=>λσ a e i d j=>q σ a e (x.trans i) d j
 |.ok (.ret r) S,q=>λv a e i d k=>q v a e (x.trans i) d (k.back λb h=>x.free h)
 |.ok (.brk ρ) S,q=>λσ a e i d j=>q σ a e (x.trans i) d j
 |.ok (.cont ρ) S,q=>λσ a e i d j=>q σ a e (x.trans i) d j
 |.exc c fs S,q=>λa e i d=>q a e (x.trans i) d
 |.no,q=>q
def PostS.expr[Dn β τ]{m:R β}{k:β->Sto->R Fl}{e:τ->Hp->Prop}(q:PostS g W α H D (m.bind k))
  (f: ∀u b S1 a H1,m=.ok b S1->Ext α H a H1->Wd g a S1 H1->Dn.d g H a S1 H1 b u->PostS g W α H D (k b S1)->e u H1):Post g W α H m e:=by
 cases m with
 |ok b S=>exact λu a H1 x w d=>f u b S a H1 rfl x w d q
 |exc c fs S=>exact q
 |no=>exact q
def PostS.stmt{m:R Fl}{k:Fl->Sto->R Fl}(q:PostS g W α H D (m.bind k))
  (hn: ∀ρ S σ a H1,m=.ok (.next ρ) S->Ext α H a H1->Wd g a S H1->Slots g.K a H1 ρ σ->PostS g W α H D (k (.next ρ) S)->D'.nx σ H1)
  (hr: ∀r S v a H1,m=.ok (.ret r) S->Ext α H a H1->Wd g a S H1->DenE g.K H a H1 r v->PostS g W α H D (k (.ret r) S)->D'.rt v H1)
  (hb: ∀ρ S σ a H1,m=.ok (.brk ρ) S->Ext α H a H1->Wd g a S H1->Slots g.K a H1 ρ σ->PostS g W α H D (k (.brk ρ) S)->D'.bk σ H1)
  (hc: ∀ρ S σ a H1,m=.ok (.cont ρ) S->Ext α H a H1->Wd g a S H1->Slots g.K a H1 ρ σ->PostS g W α H D (k (.cont ρ) S)->D'.ct σ H1):PostS g W α H D' m:=by
 cases m with
 |ok fl S=>
  cases fl with
  |next ρ=>exact λσ a H1 x w s=>hn ρ S σ a H1 rfl x w s q
  |ret r=>exact λv a H1 x w d=>hr r S v a H1 rfl x w d q
  |brk ρ=>exact λσ a H1 x w s=>hb ρ S σ a H1 rfl x w s q
  |cont ρ=>exact λσ a H1 x w s=>hc ρ S σ a H1 rfl x w s q
 |exc c fs S=>exact q
 |no=>exact q
end
def NN(X:Cx)(W:XW)(st:Stmt)(F:AY):Prop:=
 ∃t,PS X st t/\ ∀α ρ S σ H D,Wd X.g α S H->Slots X.K α H ρ σ->PostS X.g W α H D (F ρ S)->t D σ H
def vQ(X:Cx)(W:XW)(st:List Stmt)(F:AY):Prop:=
 ∃t,PSs X st t/\ ∀α ρ S σ H D,Wd X.g α S H->Slots X.K α H ρ σ->PostS X.g W α H D (F ρ S)->t D σ H
noncomputable def zI(F G:AY):AY:=λρ S=>(F ρ S).bind λa S1=>match a with
 |.next ρ'=>G ρ' S1
 |.ret r=>.ok (.ret r) S1
 |.brk ρ'=>.ok (.brk ρ') S1
 |.cont ρ'=>.ok (.cont ρ') S1
section
variable{X:Cx}{W:XW}{st:Stmt}{sts as bs:List Stmt}{F G:AY}{f g:AX}{tf:AZ}{e c:Expr}{pos:Pos}
def Qj:vQ X W [] (λρ S=>.ok (.next ρ) S):=⟨_,Fw,λα ρ S σ H D a sl q=>q σ α H (Ext.refl α H) a sl⟩
def RB(h:NN X W st F):vQ X W [st] F:=let ⟨t,h,k⟩:=h;⟨t,Fx h,k⟩
def JS(h1:NN X W st F)(j:vQ X W sts G):vQ X W (st::sts) (zI F G):=by
 obtain⟨t,h1,k1⟩:=h1;obtain⟨u,j,k2⟩:=j;refine⟨_,ZR h1 j,λα ρ S σ H D m sl q=>k1 α ρ S σ H _ m sl (q.stmt ?_ ?_ ?_ ?_)⟩
 .intro ρ1 S1 b a H1 e d h i c;exact k2 a ρ1 S1 b H1 D h i (PostS.shift d c)
 .intro r S1 v a H1 e d h k c;exact c v a H1 d h k
 .intro ρ1 S1 b a H1 e d h i c;exact c b a H1 d h i
 .intro ρ1 S1 b a H1 e d h i c;exact c b a H1 d h i
def Qk(a:zN X W e f):NN X W (.Return (some e) pos) (λρ S=>(f ρ S).bind λr S1=>.ok (.ret r) S1):=by obtain⟨t,a,k⟩:=a;exact⟨_,Ol a,λα ρ S σ H D h sl q=>k α ρ S σ H _ h sl (q.expr λu r S1 b H1 e i j d c=>c u b H1 i j d)⟩
def Hm(a:zN X W e f)(hs:swapsWith e none pos.line X.env=pure false:=by rfl):NN X W (.Expr e pos) (λρ S=>(f ρ S).bind λ_ S1=>.ok (.next ρ) S1):=by obtain⟨t,a,k⟩:=a;exact⟨_,Fy a hs,λα ρ S σ H D h sl q=>k α ρ S σ H _ h sl (q.expr λu r S1 b H1 e c i j d=>d σ b H1 c i (sl.ext c))⟩
def Xr(i:rX X W c tf)(h:vQ X W as F)(j:vQ X W bs G):NN X W (.If c as bs pos) (λρ S=>(tf ρ S).bind λk S1=>if k=true then F ρ S1 else G ρ S1):=by
 obtain⟨w,i,s⟩:=i;obtain⟨ta,h,n⟩:=h;obtain⟨tb,j,v⟩:=j;refine⟨_,Wp i h j,λα ρ S σ H D r sl q=>s α ρ S σ H _ r sl (q.expr λu p S1 a H1 e d m o b=>?_)⟩;cases o
 cases u with
 |true=>rw[iP rfl]at b ⊢; exact n a ρ S1 σ H1 D m (sl.ext d) (PostS.shift d b)
 |false=>rw[iN xF0]at b ⊢; exact v a ρ S1 σ H1 D m (sl.ext d) (PostS.shift d b)
instance:Dn Rho St:=⟨λg _ α' _ H' ρ σ=>Slots g.K α' H' ρ σ,λ_ q=>q⟩
def XC(X:Cx)(W:XW)(tg:Expr)(gf:MV->Rho->Sto->R Rho):Prop:=
 ∃t,PG X tg t/\ ∀α ρ S σ H d v Q,Wd X.g α S H->Slots X.K α H ρ σ->Den X.K α H d v->Post X.g W α H (gf d ρ S) Q->t v σ H Q
def As(X:Cx)(W:XW)(a:B8)(gf:List MV->Rho->Sto->R Rho):Prop:=
 ∃t,Vs X a t/\ ∀α ρ S σ H ds vs Q,Wd X.g α S H->Slots X.K α H ρ σ->DenL X.K α H ds vs->Post X.g W α H (gf ds ρ S) Q->t vs σ H Q
noncomputable def zW(i:Nat):MV->Rho->Sto->R Rho:=λd ρ S=>.ok (ρ.set i (some d)) S
def Hn(i:Nat){x:Str}(h:X.N.Nodup)(hi:X.N[i]? =some x:=by rfl)(c:Loc X.env.scope x:=by first |exact Or.inl rfl|exact Or.inr rfl)(b:Q1 X x:=by first |exact .inl rfl|exact .inr rfl|assumption):
  XC X W (.Name x pos) (zW i):=⟨_,SW h hi c b,λα ρ S σ H d v Q e sl a q=>Post.here q e (sl.set a)⟩
noncomputable def zY:List MV->Rho->Sto->R Rho
 |[],ρ,S=>.ok ρ S
 |_,_,_=>.no
noncomputable def zA(a:MV->Rho->Sto->R Rho)(g2:List MV->Rho->Sto->R Rho):List MV->Rho->Sto->R Rho
 |d::ds,ρ,S=>(a d ρ S).bind λρ1 S1=>g2 ds ρ1 S1
 |_,_,_=>.no
def Ql:As X W [] zY:=⟨_,SX,λα ρ S σ H ds vs Q b sl a q=>by
 cases ds with
 |nil=>exact⟨a.isnil,Post.here q b sl⟩
 |cons d ds=>exact q.elim⟩
def Ho{h:MV->Rho->Sto->R Rho}(h1:XC X W e h)(b:As X W es g2)(hs:(assignEach (e::es) X.env).map (·.2)=assign e X.env::(assignEach es X.env).map (·.2):=by rfl):As X W (e::es) (zA h g2):=by
 obtain⟨s,h1,k1⟩:=h1;obtain⟨w,b,k2⟩:=b;refine⟨_,MY h1 b hs,λα ρ S σ H ds vs Q m sl n q=>?_⟩
 cases ds with
 |nil=>exact q.elim
 |cons d ds=>
  obtain⟨v,r,rfl,a,l⟩:=n.uncons;refine⟨v,r,rfl,k1 α ρ S σ H d v _ m sl a (Post.bind q λu p S1 c H1 e i o k j=>k2 c p S1 u H1 ds r Q o k (l.ext i) (j.shift i))⟩
noncomputable def fZ(n:Nat)(g2:List MV->Rho->Sto->R Rho):MV->Rho->Sto->R Rho
 |.tup ds,ρ,S=>if ds.length=n then g2 ds ρ S else .no
 |_,_,_=>.no
def Qm{k n:Nat}(i:X.calm=true)(h:As X W es g2)
  (hn:(assignEach es X.env).length=n:=by rfl) (hst:(assignEach es X.env).findIdx? (·.1)=none:=by rfl):XC X W (.Tuple es k pos) (fZ n g2):=by
 obtain⟨t,h,k⟩:=h;refine⟨_,ZT i h hn hst,λα ρ S σ H d v Q c sl b q=>?_⟩;unfold fZ at q;split at q
 .split at q
  .rename_i e;obtain⟨a,vs,rfl,s,l⟩:=yO b;exact⟨a,vs,rfl,s,by rw[l.length];exact e,k α ρ S σ H _ vs Q c sl l q⟩
  .exact q.elim
 .exact q.elim
noncomputable def wO(r:Er)(S:Sto):R MV:=match r with
 |.val d=>.ok d S
 |.new ds=>.ok (.loc S.length) (S++[.lst ds])
def bZ{g:Gm}{a:A9}{r:Er}(w:Wd g α S H)(x:Ext a H0 α H)(d:DenE g.K H0 α H r v):
  ∃b S' α',wO r S=.ok b S'/\Ext a H0 α' H/\Ex0 α H α' H/\Wd g α' S' H/\Den g.K α' H b v:=by
 cases r with
 |val b=>exact⟨b,S,α,rfl,x,⟨⟨[],by simp⟩,λ_ _ h=>h,λ_ _ _ h=>h⟩,w,d.1⟩
 |new ds=>
  obtain⟨⟨c,us,rfl,h1,e,j⟩,i⟩:=d;exact⟨_,_,_,rfl,w.enterx x (i c rfl) e,Ex0.grow α [c] H,w.enter h1 e j,mV (by rw[<-w.len,æ (à _),sub_self];rfl)⟩
def GK(ρ:Rho)(i:Nat)(r:Er)(S:Sto):R Fl:=(wO r S).bind λd S1=>.ok (.next (ρ.set i (some d))) S1
def Qn(i:Nat){x:Str}{a:Pos}(z:X.N.Nodup)(b:zN X W e f)(hi:X.N[i]? =some x:=by rfl)(w:Loc X.env.scope x:=by first |exact Or.inl rfl|exact Or.inr rfl)
  (hs:swapsWith e (some (.Name x a)) pos.line X.env=pure false:=by rfl) (hf:Q1 X x:=by first |exact .inl rfl|exact .inr rfl|assumption):
  NN X W (.Assign [.Name x a] e pos) (λρ S=>(f ρ S).bind (GK ρ i)):=by
 obtain⟨t,b,k⟩:=b;refine⟨_,Oq z hi w b hs hf,λα ρ S σ H D p sl q=>k α ρ S σ H _ p sl (q.expr λu r S1 y H1 e d v n c=>?_)⟩;obtain⟨A,S',α',j,s,o,m,h⟩:=bZ v d n;unfold GK at c;rw[j]at c;exact c _ α' H1 s m (((sl.ext d).ex0 o).set h)
def Hq(gf:MV->Rho->Sto->R Rho)(ρ:Rho)(r:Er)(S:Sto):R Fl:=(wO r S).bind λd S1=>(gf d ρ S1).bind λa S2=>.ok (.next a) S2
def Qo(d:zN X W e f)(c:XC X W tg gf)(hs:swapsWithSole [tg] e pos.line X.env=pure false:=by rfl)(hw:swappedStores [tg] e X.env=pure none:=by rfl)
  (h1:(assignEach [tg] X.env).map (·.2)=[assign tg X.env]:=by rfl):NN X W (.Assign [tg] e pos) (λρ S=>(f ρ S).bind (Hq gf ρ)):=by
 obtain⟨t,d,k⟩:=d;obtain⟨J,c,p⟩:=c;refine⟨_,Oo d c hs hw h1,λα ρ S σ H D s sl q=>k α ρ S σ H _ s sl (q.expr λu r S1 A H1 e j G n a=>?_)⟩;obtain⟨i,S',α',m,F,o,E,C⟩:=bZ G j n;unfold Hq at a;rw[m]at a;have a:PostS X.g W α H D ((gf i ρ S').bind λy S2=>.ok _ S2):=a;exact p α' ρ S' σ H1 i u _ E ((sl.ext j).ex0 o) C ((PostS.shift F a).expr λh z S2 b v L K I B w=>w h b v K I B)
structure Wk where
 ds:List MV
 gs:List (Nat×List MV)
def stay(gs:C6)(S:Sto):Prop:= ∀p∈gs,S[p.1]? =some (.lst p.2)
def Zy(g:Gm)(J:It)(P:List Addr->Sto->Hp->Prop)(ds:C1):Prop:= ∀i α S H,P α S H->Wd g α S H->(i<ds.length->J.go i H/\ ∀x H',J.yld i H x H'->Ext α H α H'/\Wd g α S H'/\P α S H'/\ ∃d,ds[i]? =some d/\Den g.K α H' d x)/\(ds.length<=i->J.stop i H)
structure WkD(g:Gm)(α:A9)(S:Sto)(H:Hp)(k:Wk)(J:It)(P:List Addr->Sto->Hp->Prop):Prop where
 it:Zy g J P k.ds
 here:P α S H
 stays: ∀α1 S1 H1 α2 S2 H2,P α1 S1 H1->Ext α1 H1 α2 H2->Wd g α2 S2 H2->stay k.gs S2->P α2 S2 H2
 st:stay k.gs S
instance:Dn Wk It:=⟨λg _ α S H k J=> ∃P,WkD g α S H k J P,λ_ q=>q⟩
abbrev HN(X:Cx)(W:XW)(tg iter:Expr)(f:Rho->Sto->R Wk):Prop:=Jd X W (PI X tg iter) f
variable{tg iter:Expr}
theorem tP{a:Addr}{ds:C1}:Zy X.g (Zs X.K a) (λα S H=> ∃vs,SqL X.K H a vs/\DenL X.K α H ds vs) ds:=by
 intro i α S H ⟨vs,s,l⟩ w;have e:=l.length;refine⟨λhi=>?_,λhi=>⟨vs,s,by lia⟩⟩;have c:i<vs.length:=by lia
 refine⟨⟨vs,_,s,gE c⟩,λx H' y=>?_⟩;obtain⟨rfl,y⟩:=y;obtain⟨d,h1,b⟩:=l.get (y vs s);exact⟨Ext.refl _ _,w,⟨vs,s,l⟩,d,h1,b⟩
theorem TH{a:Addr}{ds:C1}:Zy X.g (Zt X.K a) (λα S H=> ∃vs,SqT X.K H a vs/\DenL X.K α H ds vs) ds:=by
 intro i α S H ⟨vs,s,l⟩ w;have e:=l.length;refine⟨λhi=>?_,λhi=>⟨vs,s,by lia⟩⟩;have c:i<vs.length:=by lia
 refine⟨⟨vs,_,s,gE c⟩,λx H' y=>?_⟩;obtain⟨rfl,y⟩:=y;obtain⟨d,h1,b⟩:=l.get (y vs s);exact⟨Ext.refl _ _,w,⟨vs,s,l⟩,d,h1,b⟩
def XD{lo:Int}{n:Nat}:Zy X.g (Zu lo n) (λ_ _ _=>True) ((List.range n).map λk=>.int (lo+(k:Nat))):=by
 intro i α S H _ w;refine⟨λhi=>⟨show i<n by simpa using hi,λv H' y=>?_⟩,λhi=>by show n<=i;simpa using hi⟩;obtain⟨rfl,y⟩:=y;have a:=by simpa using hi
 refine⟨Ext.refl _ _,w,trivial,_,by rw[ö,List.getElem?_range a];rfl,?_⟩;rw[y];exact yZ _
noncomputable def vR:Er->Sto->R Wk
 |.new ds,S=>.ok ⟨ds,[]⟩ S
 |.val (.scr ds),S=>.ok ⟨ds,[]⟩ S
 |.val (.loc l),S=>match S[l]? with
  |some (.lst ds)=>.ok ⟨ds,[(l,ds)]⟩ S
  |_=>.no
 |_,_=>.no
def gU:stay [] S:=λp h=>by simp at h
def Hr(O:zN X W iter f):HN X W tg iter (λρ S=>(f ρ S).bind vR):=by
 obtain⟨t,O,k⟩:=O;refine⟨_,Ga O,λα ρ S σ H Rc wd sl q=>k α ρ S σ H _ wd sl (q.bind λu p S1 aa H1 e Z J N w=>?_)⟩
 replace w:=w.shift Z
 unfold vR at w;split at w
 .rename_i Y ds;obtain⟨⟨b,vs,rfl,h1,L,I⟩,h4⟩:=N;refine⟨b,rfl,⟨vs,.of h1⟩,w.here J ⟨λd S2 m=> ∃vs,SqL X.K m b vs/\DenL X.K d m ds vs/\m b=some (.lst vs)/\b∉d,?_,⟨vs,.of h1,I,h1,L⟩,?_,gU⟩⟩
  .intro i d S2 m ⟨j,z,v,r,B⟩ E;obtain⟨i1,i2⟩:=tP i d S2 m ⟨j,z,v⟩ E;refine⟨λhi=>⟨(i1 hi).1,λx H' y=>?_⟩,i2⟩;obtain⟨A,F,U,D⟩:=(i1 hi).2 x H' y;obtain⟨rfl,_⟩:=y;exact⟨A,F,⟨j,z,v,r,B⟩,D⟩
  .intro d S2 m G Q T ⟨j,z,v,r,B⟩ x P _;exact⟨j,.of (x.keep b _ r B),v.ext x,x.keep b _ r B,x.out r B⟩
 .rename_i Y ds;obtain⟨a,vs,rfl,s,l⟩:=EB N.1;refine⟨a,rfl,⟨vs,s.l⟩,w.here J ⟨λd S2 m=> ∃vs,SqL X.K m a vs/\DenL X.K d m ds vs/\SqF X.K m a vs,?_,⟨vs,s.l,l,s⟩,?_,gU⟩⟩
  .intro i d S2 m ⟨j,z,v,r⟩ E;obtain⟨i1,i2⟩:=tP i d S2 m ⟨j,z,v⟩ E;refine⟨λhi=>⟨(i1 hi).1,λx H' y=>?_⟩,i2⟩;obtain⟨A,F,U,D⟩:=(i1 hi).2 x H' y;obtain⟨rfl,_⟩:=y;exact⟨A,F,⟨j,z,v,r⟩,D⟩
  .intro d S2 m G Q T ⟨j,z,v,r⟩ x P _;exact⟨j,(x.sqF r).l,v.ext x,x.sqF r⟩
 .rename_i Y n;obtain⟨a,rfl,h⟩:=aZ N.1;obtain⟨o,h1,L⟩:=J.of h;rw[h1]at w
  cases o with
  |lst ds=>
   obtain⟨vs,I,l⟩:=L;refine⟨a,rfl,⟨vs,.of I⟩,Post.here w J ⟨λd S2 m=> ∃vs,SqL X.K m a vs/\DenL X.K d m ds vs/\d[n]? =some a,?_,⟨vs,.of I,l,h⟩,?_,?_⟩⟩
   .intro i d S2 m ⟨j,z,v,r⟩ E;obtain⟨i1,i2⟩:=tP i d S2 m ⟨j,z,v⟩ E;refine⟨λhi=>⟨(i1 hi).1,λx H' y=>?_⟩,i2⟩;obtain⟨A,F,U,D⟩:=(i1 hi).2 x H' y;obtain⟨rfl,_⟩:=y;exact⟨A,F,⟨j,z,v,r⟩,D⟩
   .intro d S2 m G Q T ⟨j,z,v,r⟩ x P hs;have C:=x.at r;have:=P.obj n a _ C (hs (n,ds) (by simp));obtain⟨M,b1,b2⟩:=this;exact⟨M,.of b1,b2,C⟩
   .intro p hp;have:p=(n,ds):=by simpa using hp
    subst this;exact h1
  |dic ds=>exact w.elim
  |ins c fs=>exact w.elim
  |rcd c fs=>exact w.elim
  |fdc _=>exact w.elim
 .exact w.elim
noncomputable def Hs:Er->Sto->R Wk
 |.val (.tup ds),S=>.ok ⟨ds,[]⟩ S
 |_,_=>.no
def Qp(d:zN X W iter f):HN X W tg iter (λρ S=>(f ρ S).bind Hs):=by
 obtain⟨t,d,k⟩:=d;refine⟨_,Ot d,λα ρ S σ H A n sl q=>k α ρ S σ H _ n sl (q.bind λu p S1 o H1 e v w j b=>?_)⟩
 replace b:=b.shift v
 unfold Hs at b;split at b
 .rename_i C ds;obtain⟨a,vs,rfl,s,l⟩:=dP j.1;exact⟨a,rfl,⟨vs,s⟩,b.here w ⟨_,TH,⟨vs,s,l⟩,λi S2 y h z B ⟨c,m,r⟩ x D _=>⟨c,x.sqT m,r.ext x⟩,gU⟩⟩
 .exact b.elim
noncomputable def eE:List Er->Sto->R Wk
 |[.val (.int j)],S=>if -(2 ^ 62)<=j/\j<2 ^ 62 then .ok ⟨(List.range j.toNat).map λk=>.int (k:Nat),[]⟩ S else .no
 |_,_=>.no
variable{af:Rho->Sto->R (List Er)}{p:Pos}{a:Expr}
def HP{K:B9}{r:Er}{vs:List V}(d:ArgsE K H0 α H [r] vs): ∃v,vs=[v]/\DenX K α H r v:=by
 cases d with
 |cons a n l=>cases l;exact⟨_,rfl,a.1⟩
def Mz{K:B9}{r b:Er}{vs:List V}(d:ArgsE K H0 α H [r,b] vs): ∃v u,vs=[v,u]/\DenX K α H r v/\DenX K α H b u:=by
 cases d with
 |cons a n l=>obtain⟨u,rfl,c⟩:=HP l;exact⟨_,u,rfl,a.1,c⟩
def XE(h:Gl X "range")(u:X.mg "range"=none)(c:CS X W [a] af)(hs:starEach [a] X.env=[(false,eval a X.env)]:=by rfl):HN X W tg (.Call (.Name "range" p) [a] [] pos) (λρ S=>(af ρ S).bind eE):=by
 obtain⟨t,c,k⟩:=c;refine⟨_,WL h u c hs,λα ρ S σ H y m sl q=>k α ρ S σ H _ m sl (q.bind λvs rs S1 w H1 e o s i b=>?_)⟩
 replace b:=b.shift o
 unfold eE at b;split at b
 .split at b
  .rename_i z j d;obtain⟨v,rfl,r⟩:=HP i;cases yP r;have:=XD (X:=X) (lo:=0) (n:=j.toNat);simp only[Int.zero_add]at this;exact⟨j,rfl,d.1,d.2,b.here s ⟨_,this,trivial,λ_ _ _ _ _ _ _ _ _ _=>trivial,gU⟩⟩
  .exact b.elim
 .exact b.elim
open Classical in
noncomputable def wF(gf:MV->Rho->Sto->R Rho)(body:AY)(gs:C6):List MV->AY
 |[],ρ,S=>.ok (.next ρ) S
 |d::ds,ρ,S=>(gf d ρ S).bind λa c=>(body a c).bind λb S1=>match b with
  |.next ρ'=>if stay gs S1 then wF gf body gs ds ρ' S1 else .no
  |.cont ρ'=>if stay gs S1 then wF gf body gs ds ρ' S1 else .no
  |.brk ρ'=>.ok (.next ρ') S1
  |.ret r=>.ok (.ret r) S1
open Classical in
def Qq{Z:Rho->Sto->R Wk}(hp:PassesOwn (model X.prog X.w) X.A X.env X.xe)(hc:X.calm=true)(hi:HN X W tg iter Z)(hg:XC X W tg gf)(hb:vQ X W as F)
  (hs: ∀y,foldedSetIterable iter X.env y=pure y:=by intro _;rfl):NN X W (.For tg iter as [] pos) (λρ S=>(Z ρ S).bind λk S1=>wF gf F k.gs k.ds ρ S1):=by
 obtain⟨wi,hi,ki⟩:=hi;obtain⟨ag,hg,kg⟩:=hg;obtain⟨tb,hb,kb⟩:=hb;refine⟨_,Ou hp hc hi hg hb hs,λα ρ S σ H D wd sl q=>ki α ρ S σ H _ wd sl (q.expr λJ k S1 ae H1 e x1 w1 d1 q1=>?_)⟩;obtain⟨P,hP⟩:=d1;have af:=sl.ext x1
 replace q1:=PostS.shift x1 q1
 refine⟨λn m E I=>m=k.ds.length - n/\n<=k.ds.length/\ ∃b z S2,Wd X.g b S2 I/\Slots X.K b I z E/\P b S2 I/\PostS X.g W b I D (wF gf F k.gs (k.ds.drop n) z S2),⟨_,rfl,zero_le _,ae,ρ,S1,w1,af,hP.here,by simpa using q1⟩,?_⟩;rintro n m E I ⟨rfl,hn,b,z,S2,w2,Y,p2,N⟩;obtain⟨i1,i2⟩:=hP.it n b S2 I p2 w2;by_cases C:n<k.ds.length
 .obtain⟨go,yl⟩:=i1 C;refine .inr ⟨go,λU u=> ∃j s T,Wd X.g j T u/\Slots X.K j u s U/\P j T u/\PostS X.g W j u D (wF gf F k.gs (k.ds.drop (n+1)) s T),λU u ⟨j,s,T,h3⟩=>⟨k.ds.length - (n+1),by omega,rfl,C,j,s,T,h3⟩,λv u y=>?_⟩;obtain⟨x3,w3,p3,d,hd,dv⟩:=yl v u y;have L:k.ds.drop n=d::k.ds.drop (n+1):=by rw[Ħ C];have:=gE C;rw[hd]at this;rw[<-å this]
  rw[L]at N;unfold wF at N
  replace N:=PostS.shift x3 N
  refine kg b z S2 E u d v _ w3 (Y.ext x3) dv (N.expr λab aa S4 B H4 e4 x4 w4 s4 q4=>?_);have p4: ∀a c H5,Ext B H4 a H5->Wd X.g a c H5->stay k.gs c->P a c H5:=λa c H5 p o G=>hP.stays b S2 u a c H5 p3 (x4.trans p) o G;refine kb B aa S4 ab H4 _ w4 s4 ((PostS.shift x4 q4).stmt ?_ ?_ ?_ ?_)
  .intro i c M a H5 e5 p o G O;have h:PostS X.g W B H4 D (if stay k.gs c then wF gf F k.gs (k.ds.drop (n+1)) i c else .no):=O;split at h
   .rename_i Q;exact⟨a,i,c,o,G,p4 a c H5 p o Q,PostS.shift p h⟩
   .exact h.elim
  .intro r c v5 a H5 e5 p o d5 O;exact O v5 a H5 p o d5
  .intro i c M a H5 e5 p o G O;exact O M a H5 p o G
  .intro i c M a H5 e5 p o G O;have h:PostS X.g W B H4 D (if stay k.gs c then wF gf F k.gs (k.ds.drop (n+1)) i c else .no):=O;split at h
   .rename_i Q;exact⟨a,i,c,o,G,p4 a c H5 p o Q,PostS.shift p h⟩
   .exact h.elim
 .have e:n=k.ds.length:=by omega
  subst e;refine .inl ⟨i2 (à _),?_⟩;rw[List.drop_length]at N;exact N E b I (Ext.refl _ _) w2 Y
end
noncomputable def noX:R β->R β
 |.ok b S=>.ok b S
 |_=>.no
theorem yL(b:β)(S:Sto):noX (R.ok b S)=.ok b S:=rfl
def Post.bindY{υ:Type}[Dn β τ][Dn γ υ]{g:Gm}{W:XW}(x:Ext α H α' H'){m:R β}{k:β->Sto->R γ}{Q:υ->Hp->Prop}{e:τ->Hp->Prop}(q:Post g W α H ((noX m).bind k) Q)
  (f: ∀u b S1 a H1,m=.ok b S1->Ext α' H' a H1->Wd g a S1 H1->Dn.d g H' a S1 H1 b u->Post g W α H (k b S1) Q->e u H1):Post g W0 α' H' m e:=by
 cases m with
 |ok b S=>exact λu a H1 x w d=>f u b S a H1 rfl x w d q
 |exc c fs S=>exact q.elim
 |no=>exact q
theorem R.bind_assoc{a:Type}(m:R β)(k1:β->Sto->R γ)(k2:γ->Sto->R a):(m.bind k1).bind k2=m.bind λb S=>(k1 b S).bind k2:=by cases m<;>rfl
noncomputable def vG(nt:Nat)(idx:Db)(ρ:Rho):Rho:=List.replicate nt none++idx.map λi=>(ρ[i]?).join
open Classical in
noncomputable def yE(gf:MV->Rho->Sto->R Rho)(cf:AZ)(ef:AX)(ρb:Rho)(gs:C6):List MV->Sto->R (List MV)
 |[],S=>.ok [] S
 |d::ds,S=>(noX (gf d ρb S)).bind λρ1 b=>(noX (cf ρ1 b)).bind λk S1=>
  if k=true then(noX (ef ρ1 S1)).bind λr S2=>(wO r S2).bind λy a=>if stay gs a then(yE gf cf ef ρb gs ds a).bind λout c=>.ok (y::out) c else .no
  else if stay gs S1 then yE gf cf ef ρb gs ds S1 else .no
theorem XF{K:B9}(q:Slots K α H ρ σ)(nt:Nat)(idx:Db)(τ:St)(a:τ.length=nt):Slots K α H (vG nt idx ρ) (τ++vM σ idx):=by
 refine⟨by unfold vG;rw[lA,lA,iB,lM,Ċ,a],λi d e=>?_⟩;unfold vG at e;by_cases hi:i<nt
 .rw[á (by rw[Ċ];exact hi),List.getElem?_replicate]at e;split at e<;>cases e
 .rw[æ (by rw[Ċ];lia),Ċ,ö]at e
  cases z:idx[i - nt]? with
  |none=>rw[z]at e;cases e
  |some k=>
   rw[z]at e;have b:(ρ[k]?).join=some d:=å e
   cases c:ρ[k]? with
   |none=>rw[c]at b;cases b
   |some o=>
    rw[c]at b;have j:=b;subst j;obtain⟨v,h1,h⟩:=q.slot k d c;refine⟨v,?_,h⟩;rw[æ #[0],a];unfold vM;rw[ö,z];show some (σ[k]?).join=some _;rw[h1];rfl
def Keeps(nt:Nat)(σ:St)(Q:St->Hp->Prop):St->Hp->Prop:=λa H'=>a.length=σ.length->(∀j,nt<=j->a[j]? =σ[j]?)->Q a H'
def Fi(nt:Nat)(X:Cx)(W:XW)(tg:Expr)(gf:MV->Rho->Sto->R Rho):Prop:=
 ∃t,PG X tg t/\ ∀α ρ S σ H d v Q,Wd X.g α S H->Slots X.K α H ρ σ->Den X.K α H d v->Post X.g W α H (gf d ρ S) (Keeps nt σ Q)->t v σ H Q
def Au(nt:Nat)(X:Cx)(W:XW)(a:B8)(gf:List MV->Rho->Sto->R Rho):Prop:=
 ∃t,Vs X a t/\ ∀α ρ S σ H ds vs Q,Wd X.g α S H->Slots X.K α H ρ σ->DenL X.K α H ds vs->Post X.g W α H (gf ds ρ S) (Keeps nt σ Q)->t vs σ H Q
section
variable{X:Cx}{W:XW}{e:Expr}{pos:Pos}{nt:Nat}
theorem Ht(i:Nat){x:Str}(k:X.N.Nodup)(hi:X.N[i]? =some x:=by rfl)(e:Loc X.env.scope x:=by first |exact Or.inl rfl|exact Or.inr rfl)(b:Q1 X x:=by first |exact .inl rfl|exact .inr rfl|assumption)(h:i<nt:=by decide):
  Fi nt X W (.Name x pos) (zW i):=⟨_,SW k hi e b,λα ρ S σ H d v Q c sl a q=>Post.here q c (sl.set a) (by rw[Ą]) λj m=>by rw[Ĥ #[0]]⟩
def Qr:Au nt X W [] zY:=⟨_,SX,λα ρ S σ H ds vs Q b sl a q=>by
 cases ds with
 |nil=>exact⟨a.isnil,Post.here q b sl rfl λ_ _=>rfl⟩
 |cons d ds=>exact q.elim⟩
def Post.keeps{g:Gm}{W:XW}{m:R Rho}{a:St}{Q:St->Hp->Prop}(h1:a.length=σ.length)(i: ∀j,nt<=j->a[j]? =σ[j]?)(q:Post g W α H m (Keeps nt σ Q)):Post g W α H m (Keeps nt a Q):=by
 cases m with
 |ok b S=>exact λu e H1 x w d k1 k2=>q u e H1 x w d (k1.trans h1) λj h=>(k2 j h).trans (i j h)
 |exc c fs S=>exact q
 |no=>exact q
def Hu{i:MV->Rho->Sto->R Rho}(h1:Fi nt X W e i)(b:Au nt X W es g2)(hs:(assignEach (e::es) X.env).map (·.2)=assign e X.env::(assignEach es X.env).map (·.2):=by rfl):Au nt X W (e::es) (zA i g2):=by
 obtain⟨w,h1,k1⟩:=h1;obtain⟨y,b,k2⟩:=b;refine⟨_,MY h1 b hs,λα ρ S σ H ds vs Q n sl o q=>?_⟩
 cases ds with
 |nil=>exact q.elim
 |cons d ds=>
  obtain⟨v,r,rfl,a,l⟩:=o.uncons;refine⟨v,r,rfl,k1 α ρ S σ H d v _ n sl a (Post.bind q λu p S1 c H1 e j s m k k1 h=>k2 c p S1 u H1 ds r Q s m (l.ext j) (Post.keeps k1 h (k.shift j)))⟩
def Qs{k n:Nat}(i:X.calm=true)(h:Au nt X W es g2)
  (hn:(assignEach es X.env).length=n:=by rfl) (hst:(assignEach es X.env).findIdx? (·.1)=none:=by rfl):Fi nt X W (.Tuple es k pos) (fZ n g2):=by
 obtain⟨t,h,k⟩:=h;refine⟨_,ZT i h hn hst,λα ρ S σ H d v Q c sl b q=>?_⟩;unfold fZ at q;split at q
 .split at q
  .rename_i e;obtain⟨a,vs,rfl,s,l⟩:=yO b;exact⟨a,vs,rfl,s,by rw[l.length];exact e,k α ρ S σ H _ vs Q c sl l q⟩
  .exact q.elim
 .exact q.elim
end
abbrev NO(X:Cx)(W:XW)(ifs:B8)(f:AZ):Prop:=Jd X W (WX X ifs) f
section
variable{X:Cx}{W:XW}{iter:Expr}{c:Expr}{tf:AZ}{pos:Pos}
def Hv:NO X W [] (λ_ S=>.ok true S):=⟨_,Ah,λα ρ S σ H Q a sl q=>q.here a rfl⟩
def Hw(h:rX X W c tf):NO X W [c] tf:=let ⟨t,h,k⟩:=h;⟨t,Ai h,k⟩
open Classical in
def TJ{C:Cx->Prop}{elt:Expr}{ifs:B8}{sc:Scope}{af:Rho->Sto->R Wk}{cf:AZ}{ef:AX}(ab:Scope)(N:B0)(T:B0)(idx:Db)
  (hi:Jd X W (Ws C X tg iter) af) (hCx: ∀c s₂ G fp pins σ,Inv X pins σ G s₂->C (zM X sc T idx c s₂ G fp))
  (hg: ∀C s₂ H1 fp,([]++T++idx.map λi=>(N[i]?).getD Str.empty).Nodup->Fi T.length (zM X sc T idx C s₂ H1 fp) W0 tg gf)
  (hc: ∀C s₂ H1 fp,NO (zM X sc T idx C s₂ H1 fp) W0 ifs cf) (he: ∀C s₂ H1 fp,zN (zM X sc T idx C s₂ H1 fp) W0 elt ef)
  (e1:X.env.scope=ab:=by rfl) (e2:X.N=N:=by rfl) (hB:rS ab N sc idx=true:=by decide+kernel) (hN:([]++T++idx.map λi=>(N[i]?).getD Str.empty).Nodup:=by decide+kernel)
  (hs: ∀y,foldedSetIterable iter X.env y=pure y:=by intro _;rfl):
  Jd (β:=Er) (τ:=V) X W (λt=>PE X (.ListComp elt [⟨tg,iter,ifs,0⟩] sc pos) t/\PU X (.ListComp elt [⟨tg,iter,ifs,0⟩] sc pos) t) (λρ S=>(af ρ S).bind λk S1=>if k.ds.length<1000000 then(yE gf cf ef (vG T.length idx ρ) k.gs k.ds S1).bind λout S2=>.ok (.new out) S2 else .no):=by
 obtain⟨wi,hi,ki⟩:=hi;subst e1 e2;have ao:(1000000:Nat)<sizeLine:=by rw[Ĕ];decide
 have ag: ∃t,(∀C s₂ H1 fp,PG (zM X sc T idx C s₂ H1 fp) tg t)/\ ∀α ρ S σ H d v Q,Wd X.g α S H->Slots X.K α H ρ σ->Den X.K α H d v->Post X.g W0 α H (gf d ρ S) (Keeps T.length σ Q)->t v σ H Q:=by refine⟨λv σ H Q=> ∃α ρ S d,Wd X.g α S H/\Slots X.K α H ρ σ/\Den X.K α H d v/\Post X.g W0 α H (gf d ρ S) (Keeps T.length σ Q),λC s₂ H1 fp pins s σ H v u Q I r ⟨α,ρ,S,d,h1,h2,h3,h4⟩=>?_,λα ρ S σ H d v Q h1 h2 h3 h4=>⟨α,ρ,S,d,h1,h2,h3,h4⟩⟩;obtain⟨t,ht,kt⟩:=hg C s₂ H1 fp hN;exact ht pins s σ H v u Q I r (kt α ρ S σ H d v Q h1 h2 h3 h4)
 obtain⟨ar,ae,kg⟩:=ag;refine⟨_,⟨Gy T idx hi hCx hB ae (λC s₂ H1 fp=>(ā (hc C s₂ H1 fp)).1) (λC s₂ H1 fp=>(ā (he C s₂ H1 fp)).1) hs,Hc T idx hi hCx hB ae (λC s₂ H1 fp=>(ā (hc C s₂ H1 fp)).1) (λC s₂ H1 fp=>(ā (he C s₂ H1 fp)).1) hs⟩,λα ρ S σ H Q wd sl q=>ki α ρ S σ H _ wd sl (q.bind λJ k S1 ai H1 e1 x1 w1 d1 q1=>?_)⟩;obtain⟨P,hP⟩:=d1;split at q1
 .rename_i ak
  refine⟨λn m ys G=>m=k.ds.length - n/\n<=k.ds.length/\ys.length<=n/\ ∃p S2,Ext α H p G/\Wd X.g p S2 G/\P p S2 G/\ ∃a,DenL X.K p G a ys/\Post X.g W α H ((yE gf cf ef (vG T.length idx ρ) k.gs (k.ds.drop n) S2).bind λo S'=>.ok (Er.new (a++o)) S') Q,
   ⟨_,rfl,zero_le _,à _,ai,S1,x1,w1,hP.here,[],zX,by simpa using q1⟩,?_⟩
  rintro n m ys G ⟨rfl,hn,hy,p,S2,x2,w2,p2,a,l,Z⟩;obtain⟨i1,i2⟩:=hP.it n p S2 G p2 w2;refine⟨by omega,?_⟩;by_cases w:n<k.ds.length
  .obtain⟨go,yl⟩:=i1 w;refine .inr ⟨go,by omega,λv H3 y τ A=>?_⟩;obtain⟨x3,w3,p3,d,hd,dv⟩:=yl v H3 y;have O:k.ds.drop n=d::k.ds.drop (n+1):=by rw[Ħ w];have:=gE w;rw[hd]at this;rw[<-å this]
   rw[O]at Z;unfold yE at Z;have ah:=XF (sl.ext (x2.trans x3)) T.length idx τ A;refine kg p (vG T.length idx ρ) S2 _ H3 d v _ w3 ah dv ?_;rw[R.bind_assoc]at Z;refine Z.bindY (x2.trans x3) λE aa S4 Y H4 e4 x4 w4 s4 q4 L aj=>⟨⟨E.take T.length,?_,?_⟩,λC s₂ fp=>?_⟩
   .refine ext_getElem? λj=>?_;have av:E.length=T.length+idx.length:=by rw[L,lA,iB,A]
    by_cases hj:j<T.length
    .rw[á (by rw[lT];omega),Ī hj]
    .rw[aj j (by omega),æ (by omega),æ (by rw[lT];omega),A,lT,min_eq_left (by omega)]
   .rw[lT,L,lA,iB,A];omega
   have B:Ext α H Y H4:=(x2.trans x3).trans x4;have p4: ∀h F H5,Ext Y H4 h H5->Wd X.g h F H5->stay k.gs F->P h F H5:=λh F H5 z w5 s5=>hP.stays p S2 H3 h F H5 p3 (x4.trans z) w5 s5;rw[R.bind_assoc]at q4;refine(ā (hc C s₂ H1 fp)).2 Y aa S4 E H4 _ w4 s4 (q4.bindY B λb5 au F h H5 e5 z w5 d5 q5=>?_);cases d5
   cases b5 with
   |false=>
    rw[iN xF0]at q5 ⊢;split at q5
    .rename_i M;exact⟨k.ds.length - (n+1),by omega,rfl,w,by omega,h,F,B.trans z,w5,p4 h F H5 z w5 M,a,(l.ext (x3.trans x4)).ext z,q5⟩
    .exact q5.elim
   |true=>
    rw[iP rfl,R.bind_assoc]at q5;rw[iP rfl];refine(ā (he C s₂ H1 fp)).2 h aa F E H5 _ w5 (s4.ext z) (q5.bindY (B.trans z) λy6 r6 S6 aq H6 e6 x6 w6 d6 U=>?_);obtain⟨d',S',α',e7,x7,y7,w7,de⟩:=bZ w6 x6 d6;rw[e7]at U;have U:Post X.g W α H ((if stay k.gs S' then(yE gf cf ef (vG T.length idx ρ) k.gs (k.ds.drop (n+1)) S').bind λout S4=>.ok (d'::out) S4 else .no).bind λo S'=>.ok (Er.new (a++o)) S') Q:=U;split at U
    .rename_i M;refine⟨k.ds.length - (n+1),by omega,rfl,w,by rw[lA,lS];omega,α',S',(B.trans z).trans x7,w7,p4 α' S' H6 (z.trans x7) w7 M,a++[d'],((l.ext (x3.trans x4)).ext (z.trans x7)).append (zR de zX),?_⟩;rw[R.bind_assoc]at U;have e8:(λ(o:C1) (S':Sto)=>R.ok (Er.new ((a++[d'])++o)) S')=(λ(b:C1) S=>(R.ok (d'::b) S).bind λo S'=>.ok (Er.new (a++o)) S'):=by funext o S';show _=R.ok (Er.new (a++(d'::o))) S';rw[aA];rfl
     rw[e8];exact U
    .exact U.elim
  .have e:n=k.ds.length:=by omega
   subst e;rw[List.drop_length]at Z;have q3:Post X.g W α H (.ok (Er.new (a++[])) S2) Q:=Z;rw[aN]at q3;exact .inl ⟨i2 (à _),λD hD=>(q3.shift x2).newl w2 hD l⟩
 .exact q1.elim
open Classical in
def Hx{elt:Expr}{ifs:B8}{sc:Scope}{b:Rho->Sto->R Wk}{cf:AZ}{ef:AX}(a:Scope)(N:B0)(T:B0)(idx:Db)
  (hi:HN X W tg iter b) (hcalm:X.calm=true)
  (hg: ∀C s₂ H1 fp,([]++T++idx.map λi=>(N[i]?).getD Str.empty).Nodup->Fi T.length (zM X sc T idx C s₂ H1 fp) W0 tg gf)
  (hc: ∀C s₂ H1 fp,NO (zM X sc T idx C s₂ H1 fp) W0 ifs cf) (he: ∀C s₂ H1 fp,zN (zM X sc T idx C s₂ H1 fp) W0 elt ef)
  (e1:X.env.scope=a:=by rfl) (e2:X.N=N:=by rfl) (hB:rS a N sc idx=true:=by decide+kernel) (hN:([]++T++idx.map λi=>(N[i]?).getD Str.empty).Nodup:=by decide+kernel)
  (hs: ∀y,foldedSetIterable iter X.env y=pure y:=by intro _;rfl):
  zN X W (.ListComp elt [⟨tg,iter,ifs,0⟩] sc pos) (λρ S=>(b ρ S).bind λk S1=>if k.ds.length<1000000 then(yE gf cf ef (vG T.length idx ρ) k.gs k.ds S1).bind λout S2=>.ok (.new out) S2 else .no):=let ⟨t,h,k⟩:=(TJ a N T idx hi (λ_ _ _ _ _ _ _=>hcalm) hg hc he e1 e2 hB hN hs);⟨t,h.1,k⟩
open Classical in
def Hy{x:Str}{b a:Pos}(i:Nat)(n:X.N.Nodup){elt:Expr}{ifs:B8}{sc:Scope}{d:Rho->Sto->R Wk}{cf:AZ}{ef:AX}(c:Scope)(N:B0)(T:B0)(idx:Db)
  (hi:HN X W tg iter d) (hcalm:X.calm=true)
  (hg: ∀C s₂ H1 fp,([]++T++idx.map λi=>(N[i]?).getD Str.empty).Nodup->Fi T.length (zM X sc T idx C s₂ H1 fp) W0 tg gf)
  (hc: ∀C s₂ H1 fp,NO (zM X sc T idx C s₂ H1 fp) W0 ifs cf) (he: ∀C s₂ H1 fp,zN (zM X sc T idx C s₂ H1 fp) W0 elt ef)
  (j:X.env.scope=c:=by rfl) (e2:X.N=N:=by rfl) (hB:rS c N sc idx=true:=by decide+kernel) (hN:([]++T++idx.map λi=>(N[i]?).getD Str.empty).Nodup:=by decide+kernel)
  (hs: ∀y,foldedSetIterable iter X.env y=pure y:=by intro _;rfl)
  (hi2:X.N[i]? =some x:=by rfl) (hx:Loc X.env.scope x:=by first |exact Or.inl rfl|exact Or.inr rfl)
  (hsw:swapsWith (.ListComp elt [⟨tg,iter,ifs,0⟩] sc pos) (some (.Name x b)) a.line X.env=pure true:=by with_unfolding_all rfl) (hf:Q1 X x:=by first |exact .inl rfl|exact .inr rfl|assumption):
  NN X W (.Assign [.Name x b] (.ListComp elt [⟨tg,iter,ifs,0⟩] sc pos) a) (λρ S=>((d ρ S).bind λk S1=>if k.ds.length<1000000 then(yE gf cf ef (vG T.length idx ρ) k.gs k.ds S1).bind λout S2=>.ok (.new out) S2 else .no).bind (GK ρ i)):=by
 obtain⟨t,h,k⟩:=(TJ c N T idx hi (λ_ _ _ _ _ _ _=>hcalm) hg hc he j e2 hB hN hs)
 refine⟨_,h.2 i x b a n hi2 hx hf hsw,λα ρ S σ H D v sl q=>k α ρ S σ H _ v sl (q.expr λu r S1 w H1 e o E p m=>?_)⟩;obtain⟨F,S',α',j,B,s,A,z⟩:=bZ E o p;unfold GK at m;rw[j]at m;exact m _ α' H1 B A (((sl.ext o).ex0 s).set z)
end
mutual
def lo(n:Nat):MV->Prop
 |.loc l=>l<n
 |.tup ds=>rY n ds
 |.scr ds=>rY n ds
 |.obj _ _ ds=>rY n ds
 |_=>True
def rY(n:Nat):List MV->Prop
 |[]=>True
 |d::ds=>lo n d/\rY n ds
end
def loO(n:Nat):MO->Prop
 |.lst ds=>rY n ds
 |.dic kvs=> ∀p∈kvs,lo n p.1/\lo n p.2
 |.ins _ fs=> ∀p∈fs,lo n p.2
 |.rcd _ fs=> ∀p∈fs,lo n p.2
 |.fdc kvs=> ∀p∈kvs,lo n p.1/\lo n p.2
section
variable{K:B9}{α t:A9}{H:Hp}
mutual
theorem Den.back: ∀{d:MV}{v:V},Den K (α++t) H d v->lo α.length d->Den K α H d v
 |.non,_,q,_=>by cases dN q;exact tO
 |.bl _,_,q,_=>by cases pF q;exact dM _
 |.int _,_,q,_=>by cases xM q;exact yZ _
 |.str _,_,q,_=>by cases xN q;exact mU _
 |.typ _,_,q,_=>by cases dO q;exact TD _
 |.obj c ns ds,_,q,h=>by obtain⟨a,C,k,vs,o,rfl,e,j,i,b,l⟩:=bV q;exact He e j i b (DenL.back l (by unfold lo at h;exact h))
 |.loc l,_,q,h=>by
  obtain⟨a,rfl,e⟩:=gT q;have b:l<α.length:=by unfold lo at h;exact h
  rw[á b]at e;exact mV e
 |.tup ds,_,q,h=>by obtain⟨a,vs,rfl,s,l⟩:=yO q;exact nP s (DenL.back l (by unfold lo at h;exact h))
 |.scr ds,_,q,h=>by obtain⟨a,vs,rfl,s,l⟩:=bW q;exact TF s (DenL.back l (by unfold lo at h;exact h))
theorem DenL.back: ∀{ds:C1}{vs:List V},DenL K (α++t) H ds vs->rY α.length ds->DenL K α H ds vs
 |[],_,q,_=>by rw[q.isnil];exact zX
 |d::ds,_,q,h=>by obtain⟨v,r,rfl,a,l⟩:=q.uncons;unfold rY at h;exact zR (Den.back a h.1) (DenL.back l h.2)
end
mutual
theorem Den.lo: ∀{d:MV}{v:V},Den K α H d v->lo α.length d
 |.non,_,q=>by unfold M.lo;trivial
 |.bl _,_,q=>by unfold M.lo;trivial
 |.int _,_,q=>by unfold M.lo;trivial
 |.str _,_,q=>by unfold M.lo;trivial
 |.typ _,_,q=>by unfold M.lo;trivial
 |.obj c ns ds,_,q=>by obtain⟨a,C,h,vs,o,rfl,e,j,i,b,l⟩:=bV q;unfold M.lo;exact DenL.lo l
 |.loc l,_,q=>by obtain⟨a,rfl,e⟩:=gT q;unfold M.lo;exact(gS.mp e).1
 |.tup ds,_,q=>by obtain⟨a,vs,rfl,s,l⟩:=yO q;unfold M.lo;exact DenL.lo l
 |.scr ds,_,q=>by obtain⟨a,vs,rfl,s,l⟩:=bW q;unfold M.lo;exact DenL.lo l
theorem DenL.lo: ∀{ds:C1}{vs:List V},DenL K α H ds vs->rY α.length ds
 |[],_,q=>by unfold rY;trivial
 |d::ds,_,q=>by obtain⟨v,r,rfl,a,l⟩:=q.uncons;unfold rY;exact⟨Den.lo a,DenL.lo l⟩
end
theorem DenK.back: ∀{fs gs},DenK K (α++t) H fs gs->(∀p∈fs,M.lo α.length p.1/\M.lo α.length p.2)->DenK K α H fs gs
 |_,_,.nil,_=>.nil
 |_,_,.cons k a l,h=>.cons k (a.back (h _ mF0).2) (DenK.back l λp b=>h p (mO _ b))
def KeyD.lo{n:Nat}{k:MV}{k':Key}(h:KeyD k k'):M.lo n k:=by
 unfold KeyD at h;split at h
 .unfold M.lo;trivial
 .unfold M.lo;trivial
 .exact h.elim
theorem DenK.lo: ∀{fs gs},DenK K α H fs gs-> ∀p∈fs,M.lo α.length p.1/\M.lo α.length p.2
 |_,_,.nil=>λp h=>by simp at h
 |_,_,.cons k a l=>λp h=>(mC.mp h).elim (λe=>by subst e;exact⟨k.lo,a.lo⟩) (DenK.lo l p)
theorem DenN.back: ∀{fs xs},DenN K (α++t) H fs xs->(∀p∈fs,M.lo α.length p.1/\M.lo α.length p.2)->DenN K α H fs xs
 |_,_,.nil,_=>.nil
 |_,_,.cons k e a d r l,h=>.cons k e (a.back (h _ mF0).1) (d.back (h _ mF0).2) r (DenN.back l λp b=>h p (mO _ b))
theorem DenN.lo: ∀{fs xs},DenN K α H fs xs-> ∀p∈fs,M.lo α.length p.1/\M.lo α.length p.2
 |_,_,.nil=>λp h=>by simp at h
 |_,_,.cons k e a d r l=>λp h=>(mC.mp h).elim (λz=>by subst z;exact⟨a.lo,d.lo⟩) (DenN.lo l p)
theorem DenF.back: ∀{fs gs},DenF K (α++t) H fs gs->(∀p∈fs,M.lo α.length p.2)->DenF K α H fs gs
 |_,_,.nil,_=>.nil
 |_,_,.cons a l,h=>.cons (a.back (h _ mF0)) (DenF.back l λp b=>h p (mO _ b))
theorem DenF.lo: ∀{fs gs},DenF K α H fs gs-> ∀p∈fs,M.lo α.length p.2
 |_,_,.nil=>λp h=>by simp at h
 |_,_,.cons a l=>λp h=>(mC.mp h).elim (λe=>by subst e;exact a.lo) (DenF.lo l p)
def ObD.back{g:Gm}{a:Addr}{o:MO}(q:ObD g (α++t) H a o)(h:loO α.length o):ObD g α H a o:=by
 cases o with
 |lst ds=>obtain⟨vs,h1,l⟩:=q;exact⟨vs,h1,l.back h⟩
 |dic ds=>
  rcases q with⟨vs,h1,l⟩|⟨vs,h1,l⟩
  .exact .inl ⟨vs,h1,l.back h⟩
  .exact .inr ⟨vs,h1,l.back h⟩
 |ins c fs=>obtain⟨C,gs,m,l,r⟩:=q;exact⟨C,gs,m,l.back h,r⟩
 |rcd c fs=>obtain⟨C,b,gs,m,h1,l⟩:=q;exact⟨C,b,gs,m,h1,l.back h⟩
 |fdc kvs=>obtain⟨d,xs,h1,l⟩:=q;exact⟨d,xs,h1,l.back h⟩
def ObD.lo{g:Gm}{a:Addr}{o:MO}(q:ObD g α H a o):loO α.length o:=by
 cases o with
 |lst ds=>obtain⟨vs,h1,l⟩:=q;exact l.lo
 |dic ds=>
  rcases q with⟨vs,h1,l⟩|⟨vs,h1,l⟩
  .exact l.lo
  .exact l.lo
 |ins c fs=>obtain⟨C,gs,m,l,r⟩:=q;exact l.lo
 |rcd c fs=>obtain⟨C,b,gs,m,h1,l⟩:=q;exact l.lo
 |fdc kvs=>obtain⟨d,xs,h1,l⟩:=q;exact l.lo
end
def NP(S S2:Sto):Prop:=↑1<=S2.length/\ ∀l,l<↑1->S2[l]? =S[l]? \/ ∃o,S2[l]? =some o/\loO ↑1 o
open Classical in
noncomputable def jF(S:Sto)(r:Er)(S2:Sto):R Er:=
 if NP S S2 then match r with
  |.val (.loc l)=>if l<S.length then .ok r (S2.take S.length)else match S2[l]? with
   |some (.lst ds)=>if rY S.length ds then .ok (.new ds) (S2.take S.length)else .ok r S2
   |_=>.ok r S2
  |.val d=>if lo S.length d then .ok r (S2.take S.length)else .ok r S2
  |.new ds=>if rY S.length ds then .ok r (S2.take S.length)else .ok r S2
 else .ok r S2
theorem Hz{g:Gm}{j D i:A9}{H1 w:Hp}{S1 I:Sto}{r:Er}(J:Ext α H j H1)(T:Wd g j S1 H1)(P: ∃t,D=j++t)(x2:Ext α H D H1)(U:Ext D H1 i w)(s:Wd g i I w)(d:DenE g.K H1 i w r v):
  ∃W S' α',jF S1 r I=.ok W S'/\Ext α H α' w/\Wd g α' S' w/\DenE g.K H α' w W v:=by
 have k:=x2.trans U;have c:=d.back λb h=>J.free h;unfold jF;by_cases L:NP S1 I
 .rw[iP L];obtain⟨t,E⟩: ∃t,i=j++t:=by obtain⟨t,e⟩:=P;obtain⟨u,e'⟩:=U.pre;exact⟨_,by rw[e',e,aA]⟩
  have F:=T.len;have y:Ext α H j w:=⟨⟨J.pre,k.tup,k.frz⟩,J.new,k.keep,k.has⟩
  have A:Wd g j (I.take S1.length) w:=by
   refine⟨by rw[lT,F,min_eq_left L.1],T.nd,λl a o h1 C=>?_⟩;have n:l<S1.length:=by rw[<-F];exact(gS.mp h1).1
   rw[Ī n]at C;have M:i[l]? =some a:=by rw[E,á (by rw[F];exact n)];exact h1
   have q:=s.obj l a o M C;rw[E]at q;refine q.back ?_;rcases L.2 l n with e|⟨o',e,lo'⟩
   .rw[e]at C;exact(T.obj l a o h1 C).lo
   .rw[C]at e;cases e;rw[F];exact lo'
  have p: ∀d,lo S1.length d->Den g.K i w d v->DenE g.K H j w _ v:=λd hd q=>.val ((E▸q:Den g.K _ w d v).back (by rw[F];exact hd))
  cases r with
  |new ds=>
   dsimp only;split
   .rename_i n;obtain⟨⟨b,vs,rfl,h1,C,h3⟩,h4⟩:=c;exact⟨_,_,j,rfl,y,A,⟨b,vs,rfl,h1,λz=>C (by rw[E];exact ă _ z),(E▸h3:DenL g.K _ w ds vs).back (by rw[F];exact n)⟩,h4⟩
   .exact⟨_,_,i,rfl,k,s,c⟩
  |val mv=>
   have B:Den g.K i w mv v:=c.1
   cases mv with
   |loc l=>
    dsimp only;split
    .rename_i n;exact⟨_,_,j,rfl,y,A,p _ (by unfold lo;exact n) B⟩
    .rename_i n;obtain⟨a,rfl,O⟩:=gT B;split
     .rename_i ds Y;split
      .rename_i Q;obtain⟨vs,h1,C⟩:=s.obj l a _ O Y
       have G:a∉j:=λz=>by
        obtain⟨m,X⟩:=getElem?_of_mem z;have N:m<j.length:=(gS.mp X).1;have S:i[m]? =some a:=by rw[E,á N];exact X
        obtain⟨u1,e1⟩:=gS.mp S;obtain⟨u2,Z⟩:=gS.mp O;have:=(getElem_inj s.nd).mp (e1.trans Z.symm)
        lia
       refine⟨_,_,j,rfl,y,A,⟨a,vs,rfl,h1,G,(E▸C:DenL g.K _ w ds vs).back (by rw[F];exact Q)⟩,λb e=>?_⟩;cases e;rcases k.new a (è O)with z|z
       .obtain⟨u,eu⟩:=J.pre;exact absurd (by rw[eu];exact ă _ z) G
       .exact z
      .exact⟨_,_,i,rfl,k,s,c⟩
     .exact⟨_,_,i,rfl,k,s,c⟩
   |non=>dsimp only;split;(· rename_i n;exact⟨_,_,j,rfl,y,A,p _ n B⟩);(· exact⟨_,_,i,rfl,k,s,c⟩)
   |bl b=>dsimp only;split;(· rename_i n;exact⟨_,_,j,rfl,y,A,p _ n B⟩);(· exact⟨_,_,i,rfl,k,s,c⟩)
   |int b=>dsimp only;split;(· rename_i n;exact⟨_,_,j,rfl,y,A,p _ n B⟩);(· exact⟨_,_,i,rfl,k,s,c⟩)
   |str b=>dsimp only;split;(· rename_i n;exact⟨_,_,j,rfl,y,A,p _ n B⟩);(· exact⟨_,_,i,rfl,k,s,c⟩)
   |typ b=>dsimp only;split;(· rename_i n;exact⟨_,_,j,rfl,y,A,p _ n B⟩);(· exact⟨_,_,i,rfl,k,s,c⟩)
   |obj b b' b''=>dsimp only;split;(· rename_i n;exact⟨_,_,j,rfl,y,A,p _ n B⟩);(· exact⟨_,_,i,rfl,k,s,c⟩)
   |tup b=>dsimp only;split;(· rename_i n;exact⟨_,_,j,rfl,y,A,p _ n B⟩);(· exact⟨_,_,i,rfl,k,s,c⟩)
   |scr b=>dsimp only;split;(· rename_i n;exact⟨_,_,j,rfl,y,A,p _ n B⟩);(· exact⟨_,_,i,rfl,k,s,c⟩)
 .rw[iN L];exact⟨_,_,i,rfl,k,s,c⟩
def RD(g:Gm)(n:Nat)(F:List MV->Sto->R Er):Sp:=λvs H Q _=> ∃α S ds,Wd g α S H/\DenL g.K α H ds vs/\ds.length=n/\Post g W0 α H (F ds S) Q
def zK(n:Nat)(F:List MV->Sto->R Er)(rs:List Er)(S:Sto):R Er:=if rs.length=n then(noX (F (zF rs S).1 (zF rs S).2)).bind λr S2=>jF S r S2 else .no
section
variable{X:Cx}{W:XW}{e:Expr}{es:B8}{af:Rho->Sto->R (List Er)}{pos:Pos}
def HQ{n:Nat}{F:List MV->Sto->R Er}{vs:List V}{a:A9}{H1:Hp}{S1:Sto}{Q:VK}(d:Ext α H a H1)(e:Wd X.g a S1 H1)(k:ArgsE X.K H a H1 rs vs)(q:Post X.g W α H (zK n F rs S1) Q):
  RD X.g n F vs H1 Q E0:=by
 unfold zK at q;split at q
 .rename_i p;obtain⟨b,C,i,u,l2⟩:=qA e d k;refine⟨b,_,_,u,l2,by rw[vP];exact p,?_⟩
  cases z:F (zF rs S1).1 (zF rs S1).2 with
  |ok r S3=>
   rw[z]at q;intro v h s m A y;obtain⟨D,S',α',B,o,j,w⟩:=Hz d e i.pre C m A y;have q:Post X.g W α H (jF S1 r S3) Q:=q;rw[B]at q;exact q v α' s o j w
  |exc c fs S3=>rw[z]at q;exact q.elim
  |no=>rw[z]at q;exact q.elim
 .exact q.elim
def Ia{k n:Nat}{fa:Addr}{fd:FuncData}{ps:B0}{F:List MV->Sto->R Er}{x:Str}{p:Pos}(G:FnOk X.prog X.w X.K X.mg X.base DT k fa fd ps (RD X.g n F))(c:Room k X.A)(b:Gl X x)(r:X.mg x=some (.ref fa))
  (hk:PySem.W.keepIn X.K (.ref fa)=true) (hb:Binds X.K fd ps []) (a:CS X W (e::es) af) (hdb:(x==("__debug__":Str))=false:=by decide)
  (he:q9 X e es:=by rfl) (hpl:Q0 X pos es:=by rfl):
  zN X W (.Call (.Name x p) (e::es) [] pos) (λρ S=>(af ρ S).bind λrs S1=>zK n F rs S1):=by
 obtain⟨t,a,d⟩:=a;refine⟨_,Gh G c b r hk hb .nil Xk a hdb he hpl,λα ρ S σ H Q j sl q=>d α ρ S σ H _ j sl (q.bind λvs rs S1 s H1 u m o i h=>?_)⟩;rw[aN];exact HQ m o i h
end
noncomputable def zU(N:B0)(ds:C1):Rho:=ds.map some++List.replicate (N.length - ds.length) none
noncomputable def yD:R Fl->R Er
 |.ok (.next _) S=>.ok (.val .non) S
 |.ok (.ret r) S=>.ok r S
 |.exc c fs S=>.exc c fs S
 |_=>.no
def NQ{K:B9}{N:B0}{ds:C1}{vs:List V}(l:DenL K α H ds vs):Slots K α H (zU N ds) (start N vs):=by
 have a:=l.length;refine⟨?_,λi d e=>?_⟩
 .unfold start zU;rw[lA,lA,lM,lM,Ċ,Ċ,a]
 .unfold zU at e;by_cases hi:i<ds.length
  .rw[á (by simpa using hi),ö]at e
   cases z:ds[i]? with
   |none=>rw[z]at e;cases e
   |some d'=>
    rw[z]at e;obtain⟨v,h1,b⟩:=l.at z;have c:=å (å e);subst c;refine⟨v,?_,b⟩;unfold start;rw[á (by rw[lM,a];exact hi),ö,h1];rfl
  .rw[æ (by simpa using hi),List.getElem?_replicate]at e;split at e<;>cases e
section
variable{P:ō}{w:World}{K:B9}{mg:B3}{base:Heap}
def okM{x qual:Str}{st:Stmt}{f:Addr}{fd:FuncData}{N ps:B0}{k:Nat}(i:AY)(F:Fun K x qual st f fd)(u:FnScope N ps (zQ st))
  (hbody: ∀(b:ŋ)(A:Ō)(a:List Env)(s:Ŋ)(H:Hp)(E:XK),Room k (A.deeper (envOfC qual (zQ st) ↑0 f b))->
   vQ (JE DT P w K mg base N qual (zQ st) f b A a s H E).nox W0 (gQ st) i):
  FnOk P w K mg base DT (k+1) f fd ps (RD ⟨K,mg,P,w⟩ ps.length λds S=>yD (i (zU N ds) S)):=by
 refine F.ok u (λvs H Q E h=>?_) (λb A a s H vs Q E m h=>?_)
 .obtain⟨α,S,ds,_,l,j,_⟩:=h;rw[l.length,j]
 .obtain⟨α,S,ds,o,l,j,q⟩:=h;obtain⟨t,y,n⟩:=hbody b A a s H E m;refine⟨t,y,n α _ S _ H _ o (NQ l) ?_⟩;dsimp only at q
  cases z:i _ S with
  |ok fl S'=>
   rw[z]at q
   cases fl with
   |next ρ=>exact λσ α' H' e d s'=>q .non α' H' e d (DenE.val tO)
   |ret r=>exact λv α' H' e d p=>q v α' H' e d p
   |brk ρ=>exact q.elim
   |cont ρ=>exact q.elim
  |exc c fs S'=>rw[z]at q;exact λα' H' e d=>q α' H' e d
  |no=>rw[z]at q;exact q
end
inductive Vw where
 |fl (v:V)|tp (ds:C1)|ls (ds:C1)
noncomputable def jL(S:Sto):Er->Option (List MV)
 |.new ds=>some ds
 |.val (.scr ds)=>some ds
 |.val (.loc l)=>match S[l]? with
  |some (.lst ds)=>some ds
  |_=>none
 |_=>none
def HR(S:Sto):Er->Option Vw
 |.val .non=>some (.fl .non)
 |.val (.bl b)=>some (.fl (.bl b))
 |.val (.int i)=>some (.fl (.int i))
 |.val (.str x)=>some (.fl (.str (fX x)))
 |.val (.tup ds)=>some (.tp ds)
 |.val (.typ _)=>none
 |.val (.obj _ _ _)=>none
 |r=>(jL S r).map .ls
noncomputable def BH(e:MV->MV->Option Bool):List MV->List MV->Option (List Bool)
 |d::ds,f::fs=>(e d f).bind λk=>(BH e ds fs).map (k::·)
 |_,_=>some []
def Qt(e:MV->MV->Option Bool):Vw->Vw->Option Bool
 |.fl x,.fl y=>some (Gu x y)
 |.tp ds,.tp es=>(BH e ds es).map λbs=>bs.all id&&ds.length==es.length
 |.ls ds,.ls es=>if ds.length=es.length then(BH e ds es).map λbs=>bs.all id else some false
 |_,_=>some false
theorem RE(e:MV->MV->Option Bool)(ds es:C1):Qt e (.tp ds) (.tp es)=(BH e ds es).map λbs=>bs.all id&&ds.length==es.length:=rfl
theorem RF(e:MV->MV->Option Bool)(ds es:C1):Qt e (.ls ds) (.ls es)=if ds.length=es.length then(BH e ds es).map λbs=>bs.all id else some false:=rfl
noncomputable def eqv(S:Sto):Nat->MV->MV->Option Bool
 |0,_,_=>none
 |n+1,a,b=>(HR S (.val a)).bind λx=>(HR S (.val b)).bind λy=>Qt (eqv S n) x y
def CN(S:Sto)(n:Nat)(a b:Er):Option Bool:=(HR S a).bind λx=>(HR S b).bind λy=>Qt (eqv S n) x y
section
variable{X:Cx}{α:A9}{S:Sto}{H:Hp}
def tQ{K:B9}{g:Gm}(j:g.K=K)(i:Wd g α S H){r:Er}{ds:C1}{x:V}(e:jL S r=some ds)(d:DenX K α H r x): ∃a vs,x=.ref a/\SqL K H a vs/\DenL K α H ds vs:=by
 subst j;unfold jL at e;split at e
 .cases e;obtain⟨b,vs,rfl,h,_,l⟩:=d;exact⟨b,vs,rfl,.of h,l⟩
 .cases e;obtain⟨a,vs,rfl,s,l⟩:=EB d;exact⟨a,vs,rfl,s.l,l⟩
 .rename_i n;obtain⟨a,rfl,h⟩:=aZ d;split at e
  .rename_i es c;cases e;obtain⟨vs,h1,l⟩:=i.obj n a _ h c;exact⟨a,vs,rfl,.of h1,l⟩
  .cases e
 .cases e
def pG{r:Er}{x y:V}(e:HR S r=some (.fl y))(d:DenX X.K α H r x):x=y/\lU y=true:=by
 unfold HR at e;split at e
 .cases e;exact⟨vO d,rfl⟩
 .cases e;exact⟨EA d,rfl⟩
 .cases e;exact⟨yP d,rfl⟩
 .cases e;exact⟨bX d,rfl⟩
 .cases e
 .cases e
 .cases e
 .cases z:jL S r<;>rw[z]at e<;>cases e
def pH{r:Er}{x:V}{ds:C1}(e:HR S r=some (.tp ds))(d:DenX X.K α H r x): ∃a vs,x=.ref a/\SqT X.K H a vs/\DenL X.K α H ds vs:=by
 unfold HR at e;split at e
 .cases e
 .cases e
 .cases e
 .cases e
 .cases e;exact dP d
 .cases e
 .cases e
 .cases z:jL S r<;>rw[z]at e<;>cases e
def pI(b:Wd X.g α S H){r:Er}{x:V}{ds:C1}(e:HR S r=some (.ls ds))(d:DenX X.K α H r x): ∃a vs,x=.ref a/\SqL X.K H a vs/\DenL X.K α H ds vs:=by
 unfold HR at e;split at e
 .cases e
 .cases e
 .cases e
 .cases e
 .cases e
 .cases e
 .cases e
 .cases z:jL S r with
  |none=>rw[z]at e;cases e
  |some es=>rw[z]at e;cases e;exact tQ rfl b z d
theorem qY{e:MV->MV->Option Bool}: ∀{ds es:C1}{bs:B6},BH e ds es=some bs->bs.length=min ds.length es.length
 |[],_,_,h=>by simp[BH]at h;subst h;simp
 |_::_,[],_,h=>by simp[BH]at h;subst h;simp
 |d::ds,f::fs,bs,h=>by
  unfold BH at h
  cases z:e d f with
  |none=>rw[z]at h;cases h
  |some k=>
   rw[z]at h
   cases a:BH e ds fs with
   |none=>simp[a]at h
   |some cs=>
    simp[a]at h;subst h;simp[qY a]
theorem JT{e:MV->MV->Option Bool}: ∀{ds es:C1}{bs:B6}{j:Nat}{d f:MV},BH e ds es=some bs->ds[j]? =some d->es[j]? =some f->e d f=some (bs.getD j true)
 |[],_,_,_,_,_,h,h1,_=>by simp at h1
 |_::_,[],_,_,_,_,h,_,h2=>by simp at h2
 |d::ds,f::fs,bs,j,d',f',h,h1,h2=>by
  unfold BH at h
  cases z:e d f with
  |none=>rw[z]at h;cases h
  |some k=>
   rw[z]at h
   cases a:BH e ds fs with
   |none=>simp[a]at h
   |some cs=>
    simp[a]at h;subst h
    cases j with
    |zero=>simp at h1 h2;subst h1 h2;simpa using z
    |succ j=>simpa using JT a (by simpa using h1) (by simpa using h2)
def range_all{bs:B6}{n:Nat}(h:bs.length=n):(List.range n).all (λj=>bs.getD j true)=bs.all id:=by
 subst h;rw[Bool.eq_iff_iff,ą,ą];constructor
 .intro h x b;obtain⟨i,hi,rfl⟩:=List.getElem_of_mem b;have:=h i (mem_range.mpr hi);simpa [List.getD_eq_getElem?_getD,hi]using this
 .intro h i hi;have a:=mem_range.mp hi;have:=h bs[i] (getElem_mem a);simpa [List.getD_eq_getElem?_getD,a]using this
variable{pins:B5}{σ:St}{s:Ŋ}
def tR(I:↑2){a:Addr}{ys:List V}(h:SqL X.K H a xs)(h':SqT X.K H a ys):False:=by obtain⟨_,_,i,_⟩:=I.list h;obtain⟨_,_,pt,_⟩:=I.tuple h';obtain⟨o,n,e,c,_,_⟩:=i;obtain⟨o',d,b,_⟩:=pt;rw[e]at d;cases d;rw[c]at b;exact absurd b (by simp)
theorem Av(I:↑2)(n:Wd X.g α S H){e:MV->MV->Option Bool}(G: ∀d f v k,Den X.K α H d v->Den X.K α H f v->e d f=some k->k=true){a b:Er}{x:V}{p q:Vw}{k:Bool}
  (ha:HR S a=some p) (hb:HR S b=some q) (da:DenX X.K α H a x) (db:DenX X.K α H b x) (h:Qt e p q=some k):k=true:=by
 have A: ∀{ds es:C1}{vs:List V}{bs:B6},DenL X.K α H ds vs->DenL X.K α H es vs->BH e ds es=some bs->bs.all id=true:=by
  intro ds es vs bs l1 l2 z;rw[ą];intro k D;obtain⟨i,hi,rfl⟩:=List.getElem_of_mem D;have L:=qY z;have h1:i<ds.length:=by lia
  have w:i<es.length:=by lia
  obtain⟨v,F,g2⟩:=l1.at (gE h1);obtain⟨J,B,E⟩:=l2.at (gE w);rw[F]at B;cases B;have:=G _ _ _ _ g2 E (JT z (gE h1) (gE w));simpa [List.getD_eq_getElem?_getD,hi]using this
 cases p with
 |fl y=>
  obtain⟨rfl,r⟩:=pG ha da
  cases q with
  |fl z=>obtain⟨rfl,o⟩:=pG hb db;cases h;exact Al r
  |tp ds=>obtain⟨a,vs,rfl,_⟩:=pH hb db;exact absurd r xF0
  |ls ds=>obtain⟨a,vs,rfl,_⟩:=pI n hb db;exact absurd r xF0
 |tp ds=>
  obtain⟨C,vs,rfl,m,l1⟩:=pH ha da
  cases q with
  |fl z=>obtain⟨rfl,o⟩:=pG hb db;exact absurd o xF0
  |tp es=>
   obtain⟨u,us,c,j,l2⟩:=pH hb db;cases c;cases I.tuple_inj m j;rw[RE]at h
   cases z:BH e ds es with
   |none=>rw[z]at h;cases h
   |some bs=>
    rw[z]at h;cases h;show(bs.all id&&ds.length==es.length)=true;rw[A l1 l2 z, <-l1.length, <-l2.length];simp
  |ls es=>obtain⟨u,us,c,j,l2⟩:=pI n hb db;cases c;exact(tR I j m).elim
 |ls ds=>
  obtain⟨C,vs,rfl,m,l1⟩:=pI n ha da
  cases q with
  |fl z=>obtain⟨rfl,o⟩:=pG hb db;exact absurd o xF0
  |tp es=>obtain⟨u,us,c,j,l2⟩:=pH hb db;cases c;exact(tR I m j).elim
  |ls es=>
   obtain⟨u,us,c,j,l2⟩:=pI n hb db;cases c;cases I.list_inj m j;rw[RF]at h;rw[iP (by rw[<-l1.length, <-l2.length])]at h
   cases z:BH e ds es with
   |none=>rw[z]at h;cases h
   |some bs=>rw[z]at h;cases h;exact A l1 l2 z
theorem ED(I:↑2)(c:Wd X.g α S H): ∀(n:Nat)(d f:MV)(v:V)(k:Bool),Den X.K α H d v->Den X.K α H f v->eqv S n d f=some k->k=true
 |0,_,_,_,_,_,_,h=>by cases h
 |n+1,d,f,v,k,h1,h2,h=>by
  unfold eqv at h
  cases a:HR S _ with
  |none=>rw[a]at h;cases h
  |some p=>
   cases b:HR S _ with
   |none=>rw[a,b]at h;cases h
   |some q=>
    rw[a,b]at h;exact Av I c (ED I c n) a b h1 h2 h
def tS{e:MV->MV->Option Bool}{A:Ō}(h: ∀d f x y u v k,Den X.K α H d x->Den X.K α H f y->RelV x u->RelV y v->e d f=some k->SeqAt.EqAt A s u v k)
  {ds es:C1} {vs us:List V} {its its2:A0} {bs:B6} (l1:DenL X.K α H ds vs) (l2:DenL X.K α H es us) (r1:Vals vs its) (r2:Vals us its2) (z:BH e ds es=some bs):
  ∀j (h1:j<its.toArray.size) (a:j<its2.toArray.size),SeqAt.EqAt A s its.toArray[j] its2.toArray[j] (bs.getD j true):=by
 intro j h1 a;have b:j<vs.length:=by rw[r1.length];simpa using h1
 have g2:j<us.length:=by rw[r2.length];simpa using a
 obtain⟨d,m,r⟩:=l1.get (gE b);obtain⟨f,q,n⟩:=l2.get (gE g2);obtain⟨u,p,w⟩:=r1.get (gE b);obtain⟨v,o,B⟩:=r2.get (gE g2);have i:its.toArray[j]=u:=by have:its[j]? =some (its[j]'(by simpa using h1)):=gE _;rw[p]at this;simpa using(å this).symm
 have c:its2.toArray[j]=v:=by have:its2[j]? =some (its2[j]'(by simpa using a)):=gE _;rw[o]at this;simpa using(å this).symm
 rw[i,c];exact h d f _ _ u v _ r n w B (JT z m q)
theorem vS(I:↑2)(D:Wd X.g α S H): ∀(n:Nat)(A:Ō)(d f:MV)(x y:V)(u v:ŋ)(k:Bool),A.units+n<cLine->Den X.K α H d x->Den X.K α H f y->RelV x u->RelV y v->eqv S n d f=some k->SeqAt.EqAt A s u v k
 |0,_,_,_,_,_,_,_,_,_,_,_,_,_,h=>by cases h
 |n+1,A,d,f,x,y,u,v,k,hu,h1,h2,rx,ry,h=>by
  have i:A.units<cLine:=by lia
  have w:=h;unfold eqv at h
  cases G:HR S (.val d)with
  |none=>rw[G]at h;cases h
  |some p=>
   cases r:HR S (.val f)with
   |none=>rw[G,r]at h;cases h
   |some q=>
    rw[G,r]at h;have h:Qt _ p q=some k:=h;have Q:=λd f x y u v k a b c T e=>vS I D n A.in1 d f x y u v k (show A.units+1+n<cLine by lia) a b c T e
    cases p with
    |fl x'=>
     obtain⟨rfl,M⟩:=pG G h1
     cases q with
     |fl y'=>obtain⟨rfl,J⟩:=pG r h2;cases h;exact Pk rx ry M J
     |tp es=>
      obtain⟨b,us,rfl,o,l2⟩:=pH r h2;cases ry;cases h;obtain⟨its,_,pt,_⟩:=I.tuple o;exact(BE rx M pt i).2.1
     |ls es=>
      obtain⟨b,us,rfl,o,l2⟩:=pI D r h2;cases ry;cases h;obtain⟨its,_,B,_⟩:=I.list o;exact(HK rx M B.isList i).2.1
    |tp ds=>
     obtain⟨a,vs,rfl,O,l1⟩:=pH G h1;cases rx;obtain⟨its,C,pt,_⟩:=I.tuple O
     cases q with
     |fl y'=>obtain⟨rfl,J⟩:=pG r h2;cases h;exact(BE ry J pt i).1
     |tp es=>
      obtain⟨b,us,rfl,o,l2⟩:=pH r h2;cases ry;by_cases m:a=b
      .subst m;rw[ED I D (n+1) d f _ k h1 h2 w];exact SeqAt.EqAt.same _
      .obtain⟨j,F,P,_⟩:=I.tuple o;rw[RE]at h
       cases z:BH (eqv S n) ds es with
       |none=>rw[z]at h;cases h
       |some bs=>
        rw[z]at h;cases h;have:=SeqAt.RcAt.tuples pt P i (tS Q l1 l2 C F z);have E:=qY z;rw[range_all (by rw[E];simp[<-C.length, <-F.length,l1.length,l2.length])]at this;have U:(its.toArray.size==j.toArray.size)=(ds.length==es.length):=by simp[<-C.length, <-F.length,l1.length,l2.length]
        rw[U]at this;exact SeqAt.EqAt.of_refs m this
     |ls es=>
      obtain⟨b,us,rfl,o,l2⟩:=pI D r h2;cases ry;cases h;obtain⟨j,_,B,_⟩:=I.list o;exact SeqAt.EqAt.tuple_list pt B.isList i
    |ls ds=>
     obtain⟨a,vs,rfl,O,l1⟩:=pI D G h1;cases rx;obtain⟨its,C,B,_⟩:=I.list O
     cases q with
     |fl y'=>obtain⟨rfl,J⟩:=pG r h2;cases h;exact(HK ry J B.isList i).1
     |tp es=>
      obtain⟨b,us,rfl,o,l2⟩:=pH r h2;cases ry;cases h;obtain⟨j,_,pt,_⟩:=I.tuple o;exact SeqAt.EqAt.list_tuple B.isList pt i
     |ls es=>
      obtain⟨b,us,rfl,o,l2⟩:=pI D r h2;cases ry;by_cases m:a=b
      .subst m;rw[ED I D (n+1) d f _ k h1 h2 w];exact SeqAt.EqAt.same _
      .obtain⟨j,F,L,_⟩:=I.list o;rw[RF]at h;by_cases E:ds.length=es.length
       .rw[iP E]at h
        cases z:BH (eqv S n) ds es with
        |none=>rw[z]at h;cases h
        |some bs=>
         rw[z]at h;cases h;have hs:its.toArray.size=j.toArray.size:=by simp[<-C.length, <-F.length,l1.length,l2.length,E]
         have:=SeqAt.RcAt.lists B.isList L.isList hs i (tS Q l1 l2 C F z);have N:=qY z;rw[range_all (by rw[N];simp[<-C.length,l1.length,E])]at this;exact SeqAt.EqAt.of_refs m this
       .rw[iN E]at h;cases h;exact SeqAt.EqAt.of_refs m (SeqAt.RcAt.lists_lengths B.isList L.isList (by simpa [<-C.length, <-F.length,l1.length,l2.length]using E) i)
theorem Na{r:Ō->Ŋ->ŋ->ŋ->Bool->Prop}{tr:Bool->Bool}{A:Ō}
  (hff: ∀x y u v,RelV x u->RelV y v->lU x=true->lU y=true->r A s u v (tr (Gu x y)))
  (hfl: ∀x v l items,RelV x v->lU x=true->s.heap.IsList l items->A.units<cLine->r A s v (.ref l) (tr false)/\r A s (.ref l) v (tr false))
  (hft: ∀x v l items,RelV x v->lU x=true->s.heap.IsTuple l items->A.units<cLine->r A s v (.ref l) (tr false)/\r A s (.ref l) v (tr false))
  (hlt: ∀l b items i,s.heap.IsList l items->s.heap.IsTuple b i->A.units<cLine->r A s (.ref l) (.ref b) (tr false)/\r A s (.ref b) (.ref l) (tr false))
  (htt: ∀(l b:Addr)(items i:A7)(e:Nat->Bool),s.heap.IsTuple l items->s.heap.IsTuple b i->A.units<cLine->(∀j (h1:j<items.size) (h2:j<i.size),SeqAt.EqAt A.in1 s items[j] i[j] (e j))->r A s (.ref l) (.ref b) (tr ((List.range (min items.size i.size)).all e&&items.size==i.size)))
  (hll: ∀(l b:Addr)(items i:A7)(e:Nat->Bool),s.heap.IsList l items->s.heap.IsList b i->items.size=i.size->A.units<cLine->(∀j (h1:j<items.size) (h2:j<i.size),SeqAt.EqAt A.in1 s items[j] i[j] (e j))->r A s (.ref l) (.ref b) (tr ((List.range items.size).all e)))
  (hln: ∀(l b:Addr)(items i:A7),s.heap.IsList l items->s.heap.IsList b i->(items.size !=i.size)=true->A.units<cLine->r A s (.ref l) (.ref b) (tr false))
  (I:↑2) (wd:Wd X.g α S H) (n:Nat) {a b:Er} {x y:V} {u v:ŋ} {k:Bool} (hu:A.units+(n+1)<cLine) (h1:DenX X.K α H a x) (h2:DenX X.K α H b y) (rx:RelV x u) (ry:RelV y v) (h:CN S n a b=some k):r A s u v (tr k):=by
 have m:A.units<cLine:=by lia
 unfold CN at h
 cases G:HR S a with
 |none=>rw[G]at h;cases h
 |some p=>
  cases B:HR S b with
  |none=>rw[G,B]at h;cases h
  |some q=>
   rw[G,B]at h;have h:Qt _ p q=some k:=h;have Q:=λd f x y u v k a b c T e=>vS I wd n A.in1 d f x y u v k (show A.units+1+n<cLine by lia) a b c T e
   cases p with
   |fl x'=>
    obtain⟨rfl,M⟩:=pG G h1
    cases q with
    |fl y'=>obtain⟨rfl,J⟩:=pG B h2;cases h;exact hff _ _ _ _ rx ry M J
    |tp es=>
     obtain⟨b,us,rfl,w,l2⟩:=pH B h2;cases ry;cases h;obtain⟨its,_,pt,_⟩:=I.tuple w;exact(hft _ _ _ _ rx M pt m).1
    |ls es=>
     obtain⟨b,us,rfl,w,l2⟩:=pI wd B h2;cases ry;cases h;obtain⟨its,_,C,_⟩:=I.list w;exact(hfl _ _ _ _ rx M C.isList m).1
   |tp ds=>
    obtain⟨a,vs,rfl,O,l1⟩:=pH G h1;cases rx;obtain⟨its,D,pt,_⟩:=I.tuple O
    cases q with
    |fl y'=>obtain⟨rfl,J⟩:=pG B h2;cases h;exact(hft _ _ _ _ ry J pt m).2
    |tp es=>
     obtain⟨b,us,rfl,w,l2⟩:=pH B h2;cases ry;obtain⟨o,F,P,_⟩:=I.tuple w;rw[RE]at h
     cases z:BH _ ds es with
     |none=>rw[z]at h;cases h
     |some bs=>
      rw[z]at h;cases h;have:=htt _ _ _ _ _ pt P m (tS Q l1 l2 D F z);have E:=qY z;rw[range_all (by rw[E];simp[<-D.length, <-F.length,l1.length,l2.length])]at this;have U:(its.toArray.size==o.toArray.size)=(ds.length==es.length):=by simp[<-D.length, <-F.length,l1.length,l2.length]
      rw[U]at this;exact this
    |ls es=>
     obtain⟨b,us,rfl,w,l2⟩:=pI wd B h2;cases ry;cases h;obtain⟨o,_,C,_⟩:=I.list w;exact(hlt _ _ _ _ C.isList pt m).2
   |ls ds=>
    obtain⟨a,vs,rfl,O,l1⟩:=pI wd G h1;cases rx;obtain⟨its,D,C,_⟩:=I.list O
    cases q with
    |fl y'=>obtain⟨rfl,J⟩:=pG B h2;cases h;exact(hfl _ _ _ _ ry J C.isList m).2
    |tp es=>
     obtain⟨b,us,rfl,w,l2⟩:=pH B h2;cases ry;cases h;obtain⟨o,_,pt,_⟩:=I.tuple w;exact(hlt _ _ _ _ C.isList pt m).1
    |ls es=>
     obtain⟨b,us,rfl,w,l2⟩:=pI wd B h2;cases ry;obtain⟨o,F,L,_⟩:=I.list w;rw[RF]at h;by_cases E:ds.length=es.length
     .rw[iP E]at h
      cases z:BH _ ds es with
      |none=>rw[z]at h;cases h
      |some bs=>
       rw[z]at h;cases h;have hs:its.toArray.size=o.toArray.size:=by simp[<-D.length, <-F.length,l1.length,l2.length,E]
       have:=hll _ _ _ _ _ C.isList L.isList hs m (tS Q l1 l2 D F z);have N:=qY z;rw[range_all (by rw[N];simp[<-D.length,l1.length,E])]at this;exact this
     .rw[iN E]at h;cases h;exact hln _ _ _ _ C.isList L.isList (by simpa [<-D.length, <-F.length,l1.length,l2.length]using E) m
def Qu(I:↑2)(o:Wd X.g α S H)(n:Nat){A:Ō}{a b:Er}{x y:V}{u v:ŋ}{k:Bool}(p:A.units+(n+1)<cLine)(h1:DenX X.K α H a x)(m:DenX X.K α H b y)(j:RelV x u)(i:RelV y v)(h:CN S n a b=some k):SeqAt.RcAt A s u v k:=
 Na (tr:=id) (λ_ _ _ _ a b c d=>(Ak a b c d).1) (λ_ _ _ _ a b c d=>⟨(HK a b c d).2.2.2.1,(HK a b c d).2.2.1⟩) (λ_ _ _ _ a b c d=>⟨(BE a b c d).2.2.2.1,(BE a b c d).2.2.1⟩)
  (λ_ _ _ _ a b c=>⟨SeqAt.RcAt.list_tuple a b c,SeqAt.RcAt.tuple_list b a c⟩) (λ_ _ _ _ _ a b c d=>SeqAt.RcAt.tuples a b c d) (λ_ _ _ _ _ a b c d e=>SeqAt.RcAt.lists a b c d e) (λ_ _ _ _ a b c d=>SeqAt.RcAt.lists_lengths a b c d)
  I o n p h1 m j i h
def Qv(I:↑2)(o:Wd X.g α S H)(n:Nat){A:Ō}{a b:Er}{x y:V}{u v:ŋ}{k:Bool}(p:A.units+(n+1)<cLine)(h1:DenX X.K α H a x)(m:DenX X.K α H b y)(j:RelV x u)(i:RelV y v)(h:CN S n a b=some k):SeqAt.RcNeAt A s u v (!k):=
 Na (λ_ _ _ _ a b c d=>(Ak a b c d).2) (λ_ _ _ _ a b c d=>⟨(HK a b c d).2.2.2.2.2,(HK a b c d).2.2.2.2.1⟩) (λ_ _ _ _ a b c d=>⟨(BE a b c d).2.2.2.2.2,(BE a b c d).2.2.2.2.1⟩)
  (λ_ _ _ _ a b c=>⟨SeqAt.RcNeAt.list_tuple a b c,SeqAt.RcNeAt.tuple_list b a c⟩) (λ_ _ _ _ _ a b c d=>SeqAt.RcNeAt.tuples a b c d) (λ_ _ _ _ _ a b c d e=>SeqAt.RcNeAt.lists a b c d e) (λ_ _ _ _ a b c d=>SeqAt.RcNeAt.lists_lengths a b c d)
  I o n p h1 m j i h
theorem TL{α β:Type}: ∀{a c:List α}{b d:List β},a.length=b.length->c.length=d.length->a.zip b=c.zip d->a=c/\b=d
 |[],[],[],[],_,_,_=>⟨rfl,rfl⟩
 |[],_::_,[],_::_,_,_,e=>by simp at e
 |_::_,[],_::_,[],_,_,e=>by simp at e
 |x::a,y::c,z::b,w::d,h1,h2,e=>by simp only[ğ,List.cons.injEq,Prod.mk.injEq]at e;obtain⟨rfl,rfl⟩:=TL (by simpa using h1) (by simpa using h2) e.2;exact⟨by rw[e.1.1],by rw[e.1.2]⟩
mutual
theorem Den.inj(I:↑2)(r:Wd X.g α S H): ∀{d f:MV}{v:V},Den X.K α H d v->Den X.K α H f v->d=f
 |.non,f,v,h,h'=>by cases dN h;cases f<;>first |rfl|(have:=pF h';cases this;done)|(have:=xM h';cases this;done)|(have:=xN h';cases this;done)|(have:=dO h';cases this;done)|(obtain⟨_,_,e,_⟩:=yO h';cases e;done)|(obtain⟨_,_,e,_⟩:=bW h';cases e;done)|(obtain⟨_,e,_⟩:=gT h';cases e;done)|(obtain⟨_,_,_,_,_,e,_⟩:=bV h';cases e;done)
 |.bl b,f,v,h,h'=>by cases pF h;cases f<;>first |(have:=pF h';cases this;rfl;done)|(have:=dN h';cases this;done)|(have:=xM h';cases this;done)|(have:=xN h';cases this;done)|(have:=dO h';cases this;done)|(obtain⟨_,_,e,_⟩:=yO h';cases e;done)|(obtain⟨_,_,e,_⟩:=bW h';cases e;done)|(obtain⟨_,e,_⟩:=gT h';cases e;done)|(obtain⟨_,_,_,_,_,e,_⟩:=bV h';cases e;done)
 |.int b,f,v,h,h'=>by cases xM h;cases f<;>first |(have:=xM h';cases this;rfl;done)|(have:=dN h';cases this;done)|(have:=pF h';cases this;done)|(have:=xN h';cases this;done)|(have:=dO h';cases this;done)|(obtain⟨_,_,e,_⟩:=yO h';cases e;done)|(obtain⟨_,_,e,_⟩:=bW h';cases e;done)|(obtain⟨_,e,_⟩:=gT h';cases e;done)|(obtain⟨_,_,_,_,_,e,_⟩:=bV h';cases e;done)
 |.str b,f,v,h,h'=>by cases xN h;cases f<;>first |(have:=xN h';rw[tL (V.str.inj this)];done)|(have:=dN h';cases this;done)|(have:=pF h';cases this;done)|(have:=xM h';cases this;done)|(have:=dO h';cases this;done)|(obtain⟨_,_,e,_⟩:=yO h';cases e;done)|(obtain⟨_,_,e,_⟩:=bW h';cases e;done)|(obtain⟨_,e,_⟩:=gT h';cases e;done)|(obtain⟨_,_,_,_,_,e,_⟩:=bV h';cases e;done)
 |.typ b,f,v,h,h'=>by cases dO h;cases f<;>first |(have:=dO h';cases this;rfl;done)|(have:=dN h';cases this;done)|(have:=pF h';cases this;done)|(have:=xM h';cases this;done)|(have:=xN h';cases this;done)|(obtain⟨_,_,e,_⟩:=yO h';cases e;done)|(obtain⟨_,_,e,_⟩:=bW h';cases e;done)|(obtain⟨_,e,_⟩:=gT h';cases e;done)|(obtain⟨_,_,_,_,_,e,_⟩:=bV h';cases e;done)
 |.tup ds,f,v,h,h'=>by
  obtain⟨a,vs,rfl,i,l1⟩:=yO h
  cases f with
  |tup es=>
   obtain⟨p,us,j,u,l2⟩:=yO h';cases j;cases I.tuple_inj i u;rw[DenL.inj I r l1 l2]
  |scr es=>obtain⟨p,us,j,u,l2⟩:=bW h';cases j;exact(tR I u.l i).elim
  |loc l=>
   obtain⟨p,j,k⟩:=gT h';cases j;obtain⟨F,k1,k2,q⟩:=r.mem (è k);rcases i with(i|⟨o,i⟩)|⟨o,its,n,i,_⟩
   .rw[k1]at i;exact absurd (å i) (k2 _)
   .rw[k1]at i;exact(let ⟨_,z⟩:=q _ _ (å i);by cases z)
   .have:=(I.bs a o (I.mod.kin a o i)).2;rw[k1]at this;cases this
  |non=>cases dN h'
  |bl b=>cases pF h'
  |int b=>cases xM h'
  |str b=>cases xN h'
  |typ b=>cases dO h'
  |obj c ns es=>
   obtain⟨p,C,E,us,B,j,k,_⟩:=bV h';cases j;rcases i with(i|⟨o,i⟩)|⟨o,its,n,i,_⟩
   .rw[k]at i;cases i
   .rw[k]at i;cases i
   .have:=(I.bs a o (I.mod.kin a o i)).2;rw[k]at this;cases this
 |.scr ds,f,v,h,h'=>by
  obtain⟨a,vs,rfl,i,l1⟩:=bW h
  cases f with
  |scr es=>
   obtain⟨p,us,j,u,l2⟩:=bW h';cases j;cases I.list_inj i.l u.l;rw[DenL.inj I r l1 l2]
  |tup es=>obtain⟨p,us,j,u,l2⟩:=yO h';cases j;exact(tR I i.l u).elim
  |loc l=>
   obtain⟨p,j,k⟩:=gT h';cases j;obtain⟨F,k1,k2,q⟩:=r.mem (è k);rcases i with⟨o,i⟩|⟨o,its,n,i,_⟩
   .rw[k1]at i;exact(let ⟨_,z⟩:=q _ _ (å i);by cases z)
   .have:=(I.bs a o (I.mod.kin a o i)).2;rw[k1]at this;cases this
  |non=>cases dN h'
  |bl b=>cases pF h'
  |int b=>cases xM h'
  |str b=>cases xN h'
  |typ b=>cases dO h'
  |obj c ns es=>
   obtain⟨p,C,E,us,B,j,k,_⟩:=bV h';cases j;rcases i with⟨o,i⟩|⟨o,its,n,i,_⟩
   .rw[k]at i;cases i
   .have:=(I.bs a o (I.mod.kin a o i)).2;rw[k]at this;cases this
 |.loc l,f,v,h,h'=>by
  obtain⟨a,rfl,h1⟩:=gT h;obtain⟨F,k1,k2,q⟩:=r.mem (è h1)
  cases f with
  |loc m=>
   obtain⟨p,j,k⟩:=gT h';cases j;by_cases A:l=m
   .rw[A]
   .exact absurd rfl (r.ne h1 k A)
  |tup es=>
   obtain⟨p,us,j,i,l2⟩:=yO h';cases j;rcases i with(i|⟨o,i⟩)|⟨o,its,n,i,_⟩
   .rw[k1]at i;exact absurd (å i) (k2 _)
   .rw[k1]at i;exact(let ⟨_,z⟩:=q _ _ (å i);by cases z)
   .have:=(I.bs a o (I.mod.kin a o i)).2;rw[k1]at this;cases this
  |scr es=>
   obtain⟨p,us,j,i,l2⟩:=bW h';cases j;rcases i with⟨o,i⟩|⟨o,its,n,i,_⟩
   .rw[k1]at i;exact(let ⟨_,z⟩:=q _ _ (å i);by cases z)
   .have:=(I.bs a o (I.mod.kin a o i)).2;rw[k1]at this;cases this
  |non=>cases dN h'
  |bl b=>cases pF h'
  |int b=>cases xM h'
  |str b=>cases xN h'
  |typ b=>cases dO h'
  |obj c ns es=>
   obtain⟨p,C,E,us,B,j,k,_⟩:=bV h';cases j;rw[k1]at k;exact(let ⟨_,z⟩:=q _ _ (å k);by cases z)
 |.obj c ns ds,f,v,h,h'=>by
  obtain⟨a,C,E,us,B,rfl,k,P,M,J,l1⟩:=bV h
  cases f with
  |obj c' ns' es=>
   obtain⟨p,C2,L,G,O,j,w,N,y,D,l2⟩:=bV h';cases j;rw[k]at w;injection w with w
   injection w with _ w
   injection w with e1 j e3
   subst e1;rw[M]at y;cases y;obtain⟨rfl,rfl⟩:=TL J D e3;rw[DenL.inj I r l1 l2]
  |tup es=>
   obtain⟨p,us,j,i,l2⟩:=yO h';cases j;rcases i with(i|⟨o,i⟩)|⟨o,its,n,i,_⟩
   .rw[k]at i;cases i
   .rw[k]at i;cases i
   .have:=(I.bs a o (I.mod.kin a o i)).2;rw[k]at this;cases this
  |scr es=>
   obtain⟨p,us,j,i,l2⟩:=bW h';cases j;rcases i with⟨o,i⟩|⟨o,its,n,i,_⟩
   .rw[k]at i;cases i
   .have:=(I.bs a o (I.mod.kin a o i)).2;rw[k]at this;cases this
  |loc l=>
   obtain⟨p,j,h1⟩:=gT h';cases j;obtain⟨F,k1,k2,q⟩:=r.mem (è h1);rw[k1]at k;exact(let ⟨_,z⟩:=q _ _ (å k);by cases z)
  |non=>cases dN h'
  |bl b=>cases pF h'
  |int b=>cases xM h'
  |str b=>cases xN h'
  |typ b=>cases dO h'
theorem DenL.inj(I:↑2)(b:Wd X.g α S H): ∀{ds fs:C1}{vs:List V},DenL X.K α H ds vs->DenL X.K α H fs vs->ds=fs
 |[],fs,vs,h,h'=>by
  cases h.isnil
  cases fs with
  |nil=>rfl
  |cons f fs=>obtain⟨_,_,e,_⟩:=h'.uncons;cases e
 |d::ds,fs,vs,h,h'=>by
  obtain⟨v,r,rfl,a,l⟩:=h.uncons
  cases fs with
  |nil=>cases h'.isnil
  |cons f fs=>
   obtain⟨k,j,e,i,c⟩:=h'.uncons;cases e;rw[Den.inj I b a i,DenL.inj I b l c]
end
end
inductive LexR(A:Ō)(s:Ŋ):List ŋ->List ŋ->Bool->Prop
 |nn:LexR A s [] [] false
 |nc (x xs):LexR A s [] (x::xs) true
 |cn (y ys):LexR A s (y::ys) [] false
 |eq {y x ys xs k}:SeqAt.EqAt A s y x true->LexR A s ys xs k->LexR A s (y::ys) (x::xs) k
 |ne {y x ys xs k}:SeqAt.EqAt A s y x false->(∀(prog:ō)(w:World)(E Q:VP),Q (.bool k) s->wpAny (model prog w) A (richCompare .Lt y x) Q E s)->LexR A s (y::ys) (x::xs) k
section
open PySem.SeqAt
open PySem.AutoSeq1 (wpAny_loadPart')
open PySem.MeetsSeq PySem.MeetsSeq2 PySem.MeetsSeq3
theorem EE(l b:Addr)(its e:A7)(n D:Nat)(z o:Option Addr)(sl q:Array (Option ŋ))(k:Bool):
  Meets (Builtin.«tuple.__lt__» ⟨[.ref l,.ref b],[]⟩)
   (λA R s=>s.heap.get? l=some {cls:=.type "tuple",dict:=z,data:=.seq its n,slots:=sl}/\s.heap.get? b=some {cls:=.type "tuple",dict:=o,data:=.seq e D,slots:=q}/\
    LexR A.in1 s its.toList e.toList k/\R (.ok (.ret (.bool k))) s):=
 .of_wp λprog w A R s h=>by
  obtain⟨v,g,d,u,r⟩:=s;obtain⟨C,B,m,h⟩:=h;have H:=AutoSeq1.sub_tuple_tuple
  wp_walk using ÿ C,ÿ B,wpAny_forIn_list _ (λrest b s'=>b.1=none/\s'=⟨v,g,d,u,r⟩/\ ∃(vs ws:A0),rest=vs.zip ws/\
   LexR A.in1 ⟨v,g,d,u,r⟩ vs ws k/\vs.length+e.size=ws.length+its.size) _
  case turn=>
   rintro⟨y,x⟩ rest b s' ⟨j,rfl,vs,ws,c,i,a⟩
   cases i with
   |nn=>rw[zip_nil_left]at c;cases c
   |nc x xs=>rw[zip_nil_left]at c;cases c
   |cn y ys=>rw[List.zip_nil_right]at c;cases c
   |@eq y' x' ys xs k' he hr=>
    rw[ğ]at c;injection c with hyx hrest
    injection hyx with hy m
    subst hy m;simp only[lC]at a;refine wB (he prog w _ _ ?_)
    wp_walk
    exact⟨rfl,rfl,_,_,hrest,hr,by lia⟩
   |@ne y' x' ys xs k' he hr=>
    rw[ğ]at c;injection c with hyx hrest
    injection hyx with hy m
    subst hy m;refine wB (he prog w _ _ ?_);have p:=hr prog w
    wp_walk using p
    exact⟨_,rfl,by simpa using h⟩
  case fin=>
   rintro⟨F,G⟩ s' ⟨j,rfl,vs,ws,c,i,a⟩;simp only at j;subst j
   have E:k=decide (its.size<e.size):=by
    cases i with
    |nn=>simp only[ú]at a;exact(dF0 #[0]).symm
    |nc x xs=>simp only[ú,lC]at a;exact(dT0 #[0]).symm
    |cn y ys=>simp only[ú,lC]at a;exact(dF0 #[0]).symm
    |eq he hr=>rw[ğ]at c;cases c
    |ne he hr=>rw[ğ]at c;cases c
   rw[E]at h
   wp_walk
   exact⟨_,rfl,by simpa [Builtin.Tuple.tupleCompareSizes]using h⟩
  case h=>
   exact⟨rfl,rfl,_,_,rfl,m,by simp;lia⟩
end
def Aw{A:Ō}{s:Ŋ}{l b:Addr}{a:A7}{k:Bool}(v:IsTup s.heap l its)(q:IsTup s.heap b a)(C:LexR A.in1 s its.toList a.toList k)(y:A.units<cLine)(prog:ō)(w:World)(E Q:VP)(h:Q (.bool k) s):
  wpAny (model prog w) A (richCompare .Lt (.ref l) (.ref b)) Q E s:=by
 obtain⟨⟨r,u,p,sl⟩,o,B,n,hd⟩:=id v;obtain⟨⟨m,e,_,j⟩,c,d,z,i⟩:=id q;subst B hd d i
 exact richCompare_meets_room ⟨_,o,rfl⟩ ⟨_,c,rfl⟩ PySem.F.slot_tuple_lt PySem.F.entry_tuple_lt (PySem.F.args_tuple_lt_2 _ _) (EE l b its a n z u e sl j k)
  ⟨o,c,C,show Value.bool k≠Value.notImplemented/\Q _ s from⟨(λx=>nomatch x),h⟩⟩ y
noncomputable def tU(e l:MV->MV->Option Bool):List MV->List MV->Option Bool
 |[],[]=>some false
 |[],_::_=>some true
 |_::_,[]=>some false
 |d::ds,f::fs=>(e d f).bind λk=>if k=true then tU e l ds fs else l d f
def vH(S:Sto):Nat->MV->MV->Option Bool
 |0,_,_=>none
 |n+1,.int i,.int j=>some (decide (i<j))
 |n+1,.str x,.str y=>some (decide (x<y))
 |n+1,.tup ds,.tup es=>tU (eqv S n) (vH S n) ds es
 |_,_,_=>none
section
variable{X:Cx}{α:A9}{S:Sto}{H:Hp}{pins:B5}{σ:St}{s:Ŋ}
theorem TN{A:Ō}{e l:MV->MV->Option Bool}(i: ∀d f x y u v k,Den X.K α H d x->Den X.K α H f y->RelV x u->RelV y v->e d f=some k->SeqAt.EqAt A s u v k)
  (hl: ∀d f x y u v k,Den X.K α H d x->Den X.K α H f y->RelV x u->RelV y v->l d f=some k-> ∀(prog:ō)(w:World)(E Q:VP),Q (.bool k) s->wpAny (model prog w) A (richCompare .Lt u v) Q E s):
  ∀{ds fs:C1}{vs us:List V}{its c:A0}{k:Bool},DenL X.K α H ds vs->DenL X.K α H fs us->Vals vs its->Vals us c->tU e l ds fs=some k->LexR A s its c k
 |[],[],_,_,_,_,k,l1,l2,r1,r2,h=>by cases l1.isnil;cases l2.isnil;cases r1;cases r2;cases h;exact .nn
 |[],f::fs,_,_,_,_,k,l1,l2,r1,r2,h=>by
  cases l1.isnil;obtain⟨v,r,rfl,a,l⟩:=l2.uncons;cases r1
  cases r2 with
  |cons a b=>cases h;exact .nc _ _
 |d::ds,[],_,_,_,_,k,l1,l2,r1,r2,h=>by
  cases l2.isnil;obtain⟨v,r,rfl,a,l⟩:=l1.uncons;cases r2
  cases r1 with
  |cons a b=>cases h;exact .cn _ _
 |d::ds,f::fs,_,_,_,_,k,l1,l2,r1,r2,h=>by
  obtain⟨v,r,rfl,a,m⟩:=l1.uncons;obtain⟨p,o,rfl,n,j⟩:=l2.uncons
  cases r1 with
  |cons b1 c1=>
   cases r2 with
   |cons b2 c2=>
    unfold tU at h
    cases z:e d f with
    |none=>rw[z]at h;cases h
    |some kk=>
     rw[z]at h;have h:(if kk=true then tU e l ds fs else l d f)=some k:=h
     cases kk with
     |true=>
      exact .eq (i d f _ _ _ _ _ a n b1 b2 z) (TN i hl m j c1 c2 h)
     |false=>
      exact .ne (i d f _ _ _ _ _ a n b1 b2 z) (hl d f _ _ _ _ _ a n b1 b2 h)
theorem JU(I:↑2)(o:Wd X.g α S H): ∀(n:Nat)(A:Ō)(d f:MV)(x y:V)(u v:ŋ)(k:Bool),A.units+n<cLine->Den X.K α H d x->Den X.K α H f y->RelV x u->RelV y v->vH S n d f=some k->
  ∀(prog:ō)(w:World)(E Q:VP),Q (.bool k) s->wpAny (model prog w) A (richCompare .Lt u v) Q E s
 |0,_,_,_,_,_,_,_,_,_,_,_,_,_,h=>by cases h
 |n+1,A,d,f,x,y,u,v,k,hu,h1,h2,rx,ry,h=>by
  intro prog w E Q j;unfold vH at h;split at h
  .cases h
  .cases h;cases xM h1;cases xM h2;obtain⟨t,rfl⟩:=rx;obtain⟨t',rfl⟩:=ry;exact(PyProof.Rows.lt_int j:wpAny _ A _ Q E s)
  .cases h;cases xN h1;cases xN h2;obtain⟨t,rfl⟩:=rx;obtain⟨t',rfl⟩:=ry;refine(PySem.P.lt_str ?_:wpAny _ A _ Q E s);exact j
  .rename_i D ds es B;obtain⟨a,vs,rfl,z,l1⟩:=yO h1;obtain⟨b,us,rfl,q,l2⟩:=yO h2;cases rx;cases ry;obtain⟨its,r,pt,_⟩:=I.tuple z;obtain⟨p,C,m,_⟩:=I.tuple q;cases B;refine Aw pt m ?_ #[0] prog w E Q j
   exact TN (λd f x y u v k a b c i e=>vS I o n A.in1 d f x y u v k (show A.units+1+n<cLine by lia) a b c i e)
    (λd f x y u v k a b c i e=>JU I o n A.in1 d f x y u v k (show A.units+1+n<cLine by lia) a b c i e) l1 l2 r C h
  .cases h
end
section
variable{X:Cx}{W:XW}{a b c e:Expr}{es:B8}{f g h:AX}{pos:Pos}
noncomputable def Fj(C:Int->Int->Prop)[∀i j,Decidable (C i j)](g:Int->Int->Int):Er->Er->Sto->R Er
 |.val (.int i),.val (.int j),S=>if C i j then .ok (.val (.int (g i j))) S else .no
 |_,_,_=>.no
noncomputable def Zz(g:Int->Int->Bool):Er->Er->Sto->R Er
 |.val (.int i),.val (.int j),S=>.ok (.val (.bl (g i j))) S
 |_,_,_=>.no
def RG{C b:Int->Int->Prop}[∀i j,Decidable (C i j)]{g:Int->Int->Int}(h: ∀i j,C i j->b i j):RA X W (rI b λi j=>.int (g i j)) (Fj C g):=by
 intro p q x y α S H Q c d k a;unfold Fj at a;split at a
 .split at a
  .rename_i e;exact⟨_,_,yP d,yP k,h _ _ e,Post.val a c (yZ _)⟩
  .exact a.elim
 .exact a.elim
def JV{g:Int->Int->Int}:RA X W (Gb λi j=>.int (g i j)) (Fj (λ_ _=>True) g):=by
 intro p q x y α S H Q b d c a;unfold Fj at a;split at a
 .rw[iP trivial]at a;exact⟨_,_,yP d,yP c,Post.val a b (yZ _)⟩
 .exact a.elim
def Qw{g:Int->Int->Bool}:RA X W (Gb λi j=>.bl (g i j)) (Zz g):=by
 intro p q x y α S H Q b d c a;unfold Zz at a;split at a
 .exact⟨_,_,yP d,yP c,Post.val a b (dM _)⟩
 .exact a.elim
abbrev Ax:=Fj (λ_ _=>True) λi j=>i - j
def Qx(c:zN X W a f)(d:zN X W b g):zN X W (.BinOp a .Sub b pos) (λρ S=>(f ρ S).bind λp S1=>(g ρ S1).bind λq S2=>Ax p q S2):=BG Ox JV c d
def XG(_ j:Int):Prop:=0<j/\j.natAbs.log2<9000
instance(i j:Int):Decidable (XG i j):=inferInstanceAs (Decidable (_/\_))
abbrev XH:=Fj XG λi j=>i / j
theorem Ay:OpR X (binaryOp .FloorDiv) (rI XG λi j=>.int (i / j)):=Zw λi j _ _ _ _ _ a q=>by have e:=Int.fdiv_eq_ediv_of_nonneg i (Int.le_of_lt a.1);refine floordiv_int (by have:=a.1;lia) ?_ (.inl (PyProof.noPylong_of_log2 a.2));rw[e];exact q
def Qy(d:zN X W a f)(c:zN X W b g):zN X W (.BinOp a .FloorDiv b pos) (λρ S=>(f ρ S).bind λp S1=>(g ρ S1).bind λq S2=>XH p q S2):=BG Ay (RG λi j h=>h) d c
abbrev NS:=Fj (λ_ j=>0<j) λi j=>i % j
def Qz(d:zN X W a f)(c:zN X W b g):zN X W (.BinOp a .Mod b pos) (λρ S=>(f ρ S).bind λp S1=>(g ρ S1).bind λq S2=>NS p q S2):=BG Oy (RG λi j h=>h) d c
def Ra(i j:Int):Prop:=0<=j/\(Builtin.Int.intBits i:Int) * j<=2 ^ 27
instance(i j:Int):Decidable (Ra i j):=inferInstanceAs (Decidable (_/\_))
abbrev Ib:=Fj Ra λi j=>i ^ j.toNat
def Ic:OpR X (binaryOp .Pow) (rI Ra λi j=>.int (i ^ j.toNat)):=Zw λ_ _ _ _ _ _ _ a q=>pow_int a.1 a.2 q
def Rb(d:zN X W a f)(c:zN X W b g):zN X W (.BinOp a .Pow b pos) (λρ S=>(f ρ S).bind λp S1=>(g ρ S1).bind λq S2=>Ib p q S2):=BG Ic (RG λi j h=>h) d c
def shlC(i j:Int):Prop:=0<=j/\j<=1000000/\i.natAbs<2 ^ 64
instance(i j:Int):Decidable (shlC i j):=inferInstanceAs (Decidable (_/\_/\_))
noncomputable def Az(S:Sto):Er->Option (List MV)
 |.new ds=>some ds
 |.val (.loc l)=>match S[l]? with
  |some (.lst ds)=>some ds
  |_=>none
 |_=>none
def JW(i:Wd X.g α S H){r:Er}{ds:C1}{x:V}(e:Az S r=some ds)(d:DenX X.K α H r x): ∃a vs,x=.ref a/\H a=some (.lst vs)/\DenL X.K α H ds vs:=by
 unfold Az at e;split at e
 .cases e;obtain⟨b,vs,rfl,h,_,l⟩:=d;exact⟨b,vs,rfl,h,l⟩
 .rename_i n;obtain⟨a,rfl,h⟩:=aZ d;split at e
  .rename_i es c;cases e;obtain⟨vs,h1,l⟩:=i.obj n a _ h c;exact⟨a,vs,rfl,h1,l⟩
  .cases e
 .cases e
def TQ(p q:Er)(S:Sto):R Er:=match Az S p,Az S q with
 |some x,some y=>if x.length+y.length<=sizeLine then .ok (.new (x++y)) S else .no
 |_,_=>.no
def wQ:Er->Er->Sto->R Er
 |.val (.int i),.val (.int j),S=>.ok (.val (.int (i+j))) S
 |.val (.str x),.val (.str y),S=>if x.length+y.length<=sizeLine then .ok (.val (.str (x++y))) S else .no
 |.val (.tup x),.val (.tup y),S=>if x.length+y.length<=sizeLine then .ok (.val (.tup (x++y))) S else .no
 |p,q,S=>TQ p q S
def Ba:OpR X (binaryOp .Add) (λx y H Q=> ∃a b ys,x=.ref a/\y=.ref b/\SqT X.K H a []/\SqT X.K H b ys/\Q (.ref b) H):=by
 intro pins s σ H x y v u Q I C B h;obtain⟨a,b,ys,rfl,rfl,D,z,q⟩:=h;cases C;cases B;obtain⟨its,A,p1,_⟩:=I.tuple D;obtain⟨k,L,p2,_⟩:=I.tuple z;have r:=A.nil_iff.mpr rfl;subst r;obtain⟨⟨E,w,o,sl⟩,p,J,n,hd⟩:=id p1;obtain⟨⟨m,e,_,j⟩,c,d,G,i⟩:=id p2;subst J hd d i
 exact concat_meets ⟨_,p,rfl⟩ ⟨_,c,rfl⟩ noFill_tuple_add seq_tuple_add PySem.F.slot_tuple_add PySem.F.entry_tuple_add (PySem.F.args_tuple_add_2 _ _)
  (tuple_addW0 a b _ _ n G w e sl j rfl) ⟨p,c,⟨.ref b,H,I,rfl,q⟩⟩
def Re(D:zN X W a f)(C:zN X W b g):zN X W (.BinOp a .Add b pos) (λρ S=>(f ρ S).bind λp S1=>(g ρ S1).bind λq S2=>wQ p q S2):=by
 refine BG (Ow.or (QS.or (Pm.or (Gn.or Ba)))) ?_ D C;intro p q x y α S H Q d k i c;unfold wQ at c;split at c
 .exact .inl ⟨_,_,yP k,yP i,Post.val c d (yZ _)⟩
 .split at c
  .rename_i e;refine .inr (.inl ⟨_,_,bX k,bX i,by rw[gR];exact e,?_⟩);rw[Ha];exact Post.val c d (mU _)
  .exact c.elim
 .split at c
  .rename_i v u e;obtain⟨h,vs,rfl,r,l1⟩:=dP k;obtain⟨j,us,rfl,n,l2⟩:=dP i;by_cases s:vs=[]
   .subst s;have m:=l1.length;refine .inr (.inr (.inr (.inr ⟨h,j,us,rfl,rfl,r,n,?_⟩)));have:v=[]:=by cases v with |nil=>rfl|cons _ _=>simp at m
    subst this;exact Post.val c d (nP n l2)
   .refine .inr (.inr (.inr (.inl ⟨h,j,vs,us,rfl,rfl,r,n,s,by rw[l1.length,l2.length];exact e,λh1=>?_,λh1 p o=>Post.newt c d o (l1.append l2)⟩)));subst h1;have m:=l2.length;have:u=[]:=by cases u with |nil=>rfl|cons _ _=>simp at m
    subst this;rw[aN]at c;exact Post.val c d (nP r l1)
  .exact c.elim
 .unfold TQ at c;split at c
  .rename_i E B A w;split at c
   .rename_i e;obtain⟨h,vs,rfl,h1,l1⟩:=JW d A k;obtain⟨j,us,rfl,z,l2⟩:=JW d w i;exact .inr (.inr (.inl ⟨h,j,vs,us,rfl,rfl,h1,z,by rw[l1.length,l2.length];exact e,λp o=>Post.newl c d o (l1.append l2)⟩))
   .exact c.elim
  .exact c.elim
def mulC(i j:Int):Prop:=(-(2 ^ 64)<i/\i<2 ^ 64)\/(-(2 ^ 64)<j/\j<2 ^ 64)\/(i.natAbs.log2<4000/\j.natAbs.log2<4000)
theorem TR{i:Int}(h:i.natAbs.log2<4000):Builtin.Int.intBits i<=2 ^ 20:=by unfold Builtin.Int.intBits;split<;>lia
def mulC.ok{i j:Int}(h:mulC i j):IntMulOk i j:=by
 rcases h with h|h|⟨h1,h2⟩
 .exact CMul.ok (.inl h)
 .exact CMul.ok (.inr h)
 .exact .of_bits (TR h1) (TR h2)
def Id{X:Cx}:OpR X (binaryOp .Mult) (rI mulC λi j=>.int (i * j)):=Zw λ_ _ _ _ _ _ _ a q=>mul_int q a.ok
instance(i j:Int):Decidable (mulC i j):=inferInstanceAs (Decidable (_\/_\/_))
noncomputable def Nb(p:Er)(k:Int)(S:Sto):R Er:=match Az S p with
 |some x=>if 0<=k/\k<100000/\x.length * k.toNat<=sizeLine then .ok (.new (List.replicate k.toNat x).flatten) S else .no
 |none=>.no
def vT:Er->Er->Sto->R Er
 |.val (.int i),.val (.int j),S=>if mulC i j then .ok (.val (.int (i * j))) S else .no
 |.val (.str x),.val (.int k),S=>if 0<=k/\k<1000/\x.length<=1000 then .ok (.val (.str (GH x k))) S else .no
 |p,.val (.int k),S=>Nb p k S
 |_,_,_=>.no
theorem DenL.rep{K:B9}{ds:C1}{vs:List V}(l:DenL K α H ds vs): ∀k:Nat,DenL K α H (List.replicate k ds).flatten (List.replicate k vs).flatten
 |0=>zX
 |k+1=>by rw[ĭ];exact l.append (DenL.rep l k)
theorem Rf(m:zN X W a f)(o:zN X W b g):zN X W (.BinOp a .Mult b pos) (λρ S=>(f ρ S).bind λp S1=>(g ρ S1).bind λq S2=>vT p q S2):=by
 refine BG (Id.or (QZ.or Pn)) ?_ m o;intro p q x y α S H Q e h i c;unfold vT at c;split at c
 .split at c
  .rename_i d;exact .inl ⟨_,_,yP h,yP i,d,Post.val c e (yZ _)⟩
  .exact c.elim
 .split at c
  .rename_i d;exact .inr (.inl ⟨_,_,bX h,yP i,d.1,d.2.1,d.2.2,Post.val c e (mU _)⟩)
  .exact c.elim
 .unfold Nb at c;split at c
  .rename_i ds j;split at c
   .rename_i d;obtain⟨k,vs,rfl,h1,l1⟩:=JW e j h;exact .inr (.inr ⟨k,_,vs,rfl,yP i,h1,by lia,by lia,by rw[l1.length];exact d.2.2,λp n=>Post.newl c e n (l1.rep _)⟩)
   .exact c.elim
  .exact c.elim
 .exact c.elim
noncomputable def zG:Nat:=40
noncomputable def vU(p q:Er)(S:Sto):R Er:=match CN S zG p q with
 |some k=>.ok (.val (.bl k)) S
 |none=>.no
def RH(p q:Er)(S:Sto):R Er:=match CN S zG p q with
 |some k=>.ok (.val (.bl !k)) S
 |none=>.no
theorem Bb(m:X.A.units+64<cLine):OpR X (compareOp .Eq) (λx y H Q=> ∃α S p q k,Wd X.g α S H/\DenX X.K α H p x/\DenX X.K α H q y/\CN S zG p q=some k/\Q (.bl k) H):=by intro pins s σ H x y v u Q I b a h;obtain⟨α,S,p,q,k,c,i,j,e,d⟩:=h;exact Qu I c zG (by unfold zG;lia) i j b a e X.prog X.w _ _ ⟨.bl k,H,I,rfl,d⟩
theorem Rg(m:X.A.units+64<cLine):OpR X (compareOp .NotEq) (λx y H Q=> ∃α S p q k,Wd X.g α S H/\DenX X.K α H p x/\DenX X.K α H q y/\CN S zG p q=some k/\Q (.bl (!k)) H):=by intro pins s σ H x y v u Q I b a h;obtain⟨α,S,p,q,k,c,i,j,e,d⟩:=h;exact Qv I c zG (by unfold zG;lia) i j b a e X.prog X.w _ _ ⟨.bl (!k),H,I,rfl,d⟩
def TU:RA X W (λx y H Q=> ∃α S p q k,Wd X.g α S H/\DenX X.K α H p x/\DenX X.K α H q y/\CN S zG p q=some k/\Q (.bl k) H) vU:=by
 intro p q x y α S H Q b d c a;unfold vU at a;split at a
 .rename_i k e;exact⟨α,S,p,q,k,b,d,c,e,Post.val a b (dM _)⟩
 .exact a.elim
def Ie:RA X W (λx y H Q=> ∃α S p q k,Wd X.g α S H/\DenX X.K α H p x/\DenX X.K α H q y/\CN S zG p q=some k/\Q (.bl (!k)) H) RH:=by
 intro p q x y α S H Q b d c a;unfold RH at a;split at a
 .rename_i k e;exact⟨α,S,p,q,k,b,d,c,e,Post.val a b (dM _)⟩
 .exact a.elim
def Xs(d:X.A.units+64<cLine)(e:zN X W a f)(c:zN X W b g):zN X W (.Compare a [.Eq] [b] pos) (λρ S=>(f ρ S).bind λp S1=>(g ρ S1).bind λq S2=>vU p q S2):=An (Bb d) TU e c
def Xt(d:X.A.units+64<cLine)(e:zN X W a f)(c:zN X W b g):rX X W (.Compare a [.Eq] [b] pos) (λρ S=>((f ρ S).bind λp S1=>(g ρ S1).bind λq S2=>vU p q S2).bind eC):=pZ (Bb d) TU e c
def Xu(d:X.A.units+64<cLine)(e:zN X W a f)(c:zN X W b g):rX X W (.Compare a [.NotEq] [b] pos) (λρ S=>((f ρ S).bind λp S1=>(g ρ S1).bind λq S2=>RH p q S2).bind eC):=pZ (Rg d) Ie e c
def Rh:Er->Er->Sto->R Er
 |.val d,.val f,S=>match vH S zG d f with
  |some k=>.ok (.val (.bl k)) S
  |none=>.no
 |_,_,_=>.no
theorem Ri(n:X.A.units+64<cLine):OpR X (compareOp .Lt) (λx y H Q=> ∃α S d f k,Wd X.g α S H/\Den X.K α H d x/\Den X.K α H f y/\vH S zG d f=some k/\Q (.bl k) H):=by intro pins s σ H x y v u Q I b a h;obtain⟨α,S,d,f,k,c,j,m,e,i⟩:=h;exact JU I c zG X.A d f x y v u k (by unfold zG;lia) j m b a e X.prog X.w _ _ ⟨.bl k,H,I,rfl,i⟩
def Ig:RA X W (λx y H Q=> ∃α S d f k,Wd X.g α S H/\Den X.K α H d x/\Den X.K α H f y/\vH S zG d f=some k/\Q (.bl k) H) Rh:=by
 intro p q x y α S H Q b c h a;unfold Rh at a;split at a
 .split at a
  .rename_i k e;exact⟨α,S,_,_,k,b,c,h,e,Post.val a b (dM _)⟩
  .exact a.elim
 .exact a.elim
def Xv(d:X.A.units+64<cLine)(e:zN X W a f)(c:zN X W b g):rX X W (.Compare a [.Lt] [b] pos) (λρ S=>((f ρ S).bind λp S1=>(g ρ S1).bind λq S2=>Rh p q S2).bind eC):=pZ (Ri d) Ig e c
abbrev gtF:=Zz λi j=>decide (j<i)
def Xw(c:zN X W a f)(d:zN X W b g):rX X W (.Compare a [.Gt] [b] pos) (λρ S=>((f ρ S).bind λp S1=>(g ρ S1).bind λq S2=>gtF p q S2).bind eC):=pZ Wy Qw c d
noncomputable def HS:Er->Er->Sto->R Er
 |.val .non,.val .non,S=>.ok (.val (.bl false)) S
 |_,.val .non,S=>.ok (.val (.bl true)) S
 |_,_,_=>.no
theorem Bc{p:Er}{x:V}(d:DenX X.K α H p x)(n:p≠.val .non):decide (x=.non)=false:=by
 cases p with
 |new ds=>obtain⟨b,vs,rfl,_⟩:=d;rfl
 |val m=>
  cases m with
  |non=>exact absurd rfl n
  |bl b=>cases EA d;rfl
  |int b=>cases yP d;rfl
  |str b=>cases bX d;rfl
  |typ b=>cases Am d;rfl
  |obj b b' b''=>obtain⟨_,_,_,_,_,rfl,_⟩:=Pw d;rfl
  |tup b=>obtain⟨_,_,rfl,_⟩:=dP d;rfl
  |scr b=>obtain⟨_,_,rfl,_⟩:=EB d;rfl
  |loc b=>obtain⟨_,rfl,_⟩:=aZ d;rfl
def Bd:RA X W (λx y H Q=>y=.non/\Q (.bl (!decide (x=.non))) H) HS:=by
 intro p q x y α S H Q c d e a;unfold HS at a;split at a
 .cases vO d;exact⟨vO e,Post.val a c (dM _)⟩
 .rename_i h S' b;rw[Bc d (λz=>by first |exact b z|exact b z rfl|exact b _ z|exact b rfl z)];exact⟨vO e,Post.val a c (dM _)⟩
 .exact a.elim
def Be(c:zN X W a f)(d:zN X W b g):rX X W (.Compare a [.IsNot] [b] pos) (λρ S=>((f ρ S).bind λp S1=>(g ρ S1).bind λq S2=>HS p q S2).bind eC):=pZ Gd Bd c d
noncomputable def getL(ds:C1):Er->Sto->R Er
 |.val (.int i),S=>match tI ds i with |some d=>.ok (.val d) S|none=>.no
 |_,_=>.no
def iC:Er->Er->Sto->R Er
 |.val (.str x),.val (.int i),S=>if x.length<=sizeLine then match tI x i with |some c=>.ok (.val (.str [c])) S|none=>.no else .no
 |.val (.tup ds),q,S=>getL ds q S
 |p,q,S=>match jL S p with |some ds=>getL ds q S|none=>.no
def Ih{K:B9}{ds:C1}{vs:List V}{i:Int}{d:MV}(l:DenL K α H ds vs)(e:tI ds i=some d): ∃v,tI vs i=some v/\Den K α H d v:=by
 unfold tI at e ⊢;rw[l.length]
 cases z:JF ds.length i with
 |none=>rw[z]at e;cases e
 |some j=>
  rw[z]at e;obtain⟨v,h1,a⟩:=l.at e;exact⟨v,h1,a⟩
def Xx(A:zN X W a f)(z:zN X W b g)(hs:CQ b:=by exact λ_ _=>rfl):zN X W (.Subscript a b pos) (λρ S=>(f ρ S).bind λp S1=>(g ρ S1).bind λq S2=>iC p q S2):=by
 refine Mx Pj ?_ A z hs;intro p q x y α S H Q m o n c;have j: ∀{ds:C1}{vs:List V}{i:Int}{d:MV},DenL X.K α H ds vs->tI ds i=some d->Post X.g W α H _ Q-> ∃v,tI vs i=some v/\Q v H:=λl e c=>by obtain⟨v,h1,h⟩:=Ih l e;exact⟨v,h1,Post.val c m h⟩
 unfold iC at c;split at c
 .split at c
  .rename_i w;split at c
   .rename_i s e;refine .inr (.inr ⟨_,_,s,bX o,yP n,by rw[gR];exact w,by rw[Gz];exact e,?_⟩);exact Post.val c m (mU [s])
   .exact c.elim
  .exact c.elim
 .unfold getL at c;split at c
  .split at c
   .rename_i d e;obtain⟨k,vs,rfl,r,l1⟩:=dP o;obtain⟨v,h1,h⟩:=j l1 e c;exact .inr (.inl ⟨k,vs,_,v,rfl,yP n,r,h1,h⟩)
   .exact c.elim
  .exact c.elim
 .split at c
  .rename_i ds u;unfold getL at c;split at c
   .split at c
    .rename_i d e;obtain⟨k,vs,rfl,r,l1⟩:=tQ rfl m u o;obtain⟨v,h1,h⟩:=j l1 e c;exact .inl ⟨k,vs,_,v,rfl,yP n,r,h1,h⟩
    .exact c.elim
   .exact c.elim
  .exact c.elim
end
def GL{prog:ō}{w:World}{A:Ō}{E:VP}{s:Ŋ}{t sl:Addr}{i e:ŋ}{lo hi:B7}(j:IsTup s.heap t its)(hs:s.heap.IsSliceOf sl i e .none)(m:IsPart i lo)(k:IsPart e hi)
  (h0:HT.sIx its.size 0 lo=0) (h1:HT.sIx its.size its.size hi=its.size) (h:Q (.ref t) s):wpAny (model prog w) A (getItem (.ref t) (.ref sl)) Q E s:=by
 have b:s.TypeIs (.ref sl) "slice":=by obtain⟨n,c,d,_⟩:=id hs;exact⟨n,c,d⟩
 have a:=j.typeIs;unfold getItem
 try with_reducible refine ù ?_
 first |refine wB _|skip
 refine wB (wpAny_sequenceKey a (by decide) ?_);refine wB (î a ģ (ì ģ a entry_tuple_getitem ?_ (args_tuple_getitem _ _)));show wpAny _ _ (Builtin.Tuple.tupleItemsOf _ >>= _) _ _ s;refine wB (tupleItemsOf_ j (wB (Ğ b ?_)));refine wB (HT.sliceApplied_gen hs m k ?_);show wpAny _ _ (if _=true then _ else _) _ _ s;rw[iP (by rw[h0,h1];simp)];refine wB (wB (Ğ a (wP ?_)));refine wB (ĕ ?_)
 first
  |exact wP ⟨_,rfl,wP h⟩
  |exact wB _
  |exact wB _
section
variable{X:Cx}{W:XW}{a e:Expr}{f h:AX}{pos:Pos}
def Ii:SlR X (λx lo hi H Q=> ∃a xs,x=.ref a/\SqT X.K H a xs/\HT.sIx xs.length 0 lo=0/\HT.sIx xs.length xs.length hi=xs.length/\Q (.ref a) H):=by
 intro pins s σ H x v o n lo hi sl Q I d hs k j h;obtain⟨a,xs,rfl,i,e,h1,q⟩:=h;cases d;obtain⟨its,r,c,m⟩:=I.tuple i;have b:its.toArray.size=xs.length:=by rw[sA0];exact r.length.symm
 exact⟨_,_,PyProof.Rows.slot_tuple_getitem.lookup,c.typeIs,GL c hs k j (by rw[b];exact e) (by rw[b];exact h1) ⟨.ref a,H,I,rfl,q⟩⟩
def vV:Er->Option Int->Option Int->Sto->R Er
 |.val (.str x),lo,hi,S=>if x.length<=sizeLine then .ok (.val (.str (fY x lo hi))) S else .no
 |.val (.tup ds),lo,hi,S=>.ok (.val (.tup (fY ds lo hi))) S
 |p,lo,hi,S=>match jL S p with |some ds=>.ok (.new (fY ds lo hi)) S|none=>.no
def XI{α:Type}{ds:List α}{lo hi:B7}(a:HT.sIx ds.length 0 lo=0)(h1:HT.sIx ds.length ds.length hi=ds.length):fY ds lo hi=ds:=by unfold fY;rw[a,h1];simp
def Rj{lo hi:Option Expr}{lf k:Rho->Sto->R (Option Int)}{p2:Pos}(o:zN X W a f)(r:Px X W lo lf)(n:Px X W hi k):zN X W (.Subscript a (.Slice lo hi none p2) pos) (λρ S=>(f ρ S).bind λp S1=>(lf ρ S1).bind λl S2=>(k ρ S2).bind λu q=>vV p l u q):=by
 refine Ar (Pq.or (Gr.or (Ph.or Ii))) ?_ o r n;intro p lo hi x α S H Q c j b;unfold vV at b;split at b
 .split at b
  .rename_i s;exact .inl ⟨_,bX j,s,Post.val b c (mU _)⟩
  .exact b.elim
 .rename_i _ _ _ ds;obtain⟨h,vs,rfl,d,l1⟩:=dP j;by_cases hw:HT.sIx vs.length 0 lo=0/\HT.sIx vs.length vs.length hi=vs.length
  .have e:=XI (by rw[<-l1.length];exact hw.1) (by rw[<-l1.length];exact hw.2);rw[e]at b;exact .inr (.inr (.inr ⟨h,vs,rfl,d,hw.1,hw.2,Post.val b c (nP d l1)⟩))
  .exact .inr (.inr (.inl ⟨h,vs,rfl,d,hw,λp i=>Post.newt b c i (l1.cut lo hi)⟩))
 .split at b
  .rename_i ds m;obtain⟨h,vs,rfl,d,l1⟩:=tQ rfl c m j;exact .inr (.inl ⟨h,vs,rfl,d,λp i=>Post.newl b c i (l1.cut lo hi)⟩)
  .exact b.elim
theorem DenL.pick{K:B9}{ds:C1}{vs:List V}(l:DenL K α H ds vs): ∀idx:List Nat,DenL K α H (idx.filterMap (ds[·]?)) (idx.filterMap (vs[·]?))
 |[]=>zX
 |i::idx=>by
  cases z:ds[i]? with
  |none=>
   have b:vs[i]? =none:=by rw[ĸ,l.length];exact ĸ.mp z
   rw[Ľ z,Ľ b];exact DenL.pick l idx
  |some d=>
   obtain⟨v,h1,a⟩:=l.at z;rw[Ł z,Ł h1];exact zR a (DenL.pick l idx)
theorem Vals.pick{us:A0}(r:Vals xs us): ∀idx:List Nat,Vals (idx.filterMap (xs[·]?)) (idx.filterMap (us[·]?))
 |[]=>.nil
 |i::idx=>by
  cases z:xs[i]? with
  |none=>rw[Ľ z,Ľ (r.none_of z)];exact Vals.pick r idx
  |some d=>
   obtain⟨v,h1,a⟩:=r.get z;rw[Ł z,Ł h1];exact .cons a (Vals.pick r idx)
end
section
variable{X:Cx}{W:XW}{a b c e:Expr}{f g h:AX}{pos:Pos}
def NT(S:Sto)(n:Nat)(d:MV):List MV->Option (List Bool)
 |[]=>some []
 |y::ys=>(eqv S n y d).bind λk=>(NT S n d ys).map (k::·)
section
variable{α:A9}{S:Sto}{H:Hp}{pins:B5}{σ:St}{s:Ŋ}
def Ij(X:Cx)(α:A9)(S:Sto)(H:Hp)(n:Nat)(d:MV)(u:ŋ):Bool:=open Classical in decide (∃y x,Den X.K α H y x/\RelV x u/\eqv S n y d=some true)
open Classical in
def Ik(I:↑2)(h:Wd X.g α S H){n:Nat}{d y:MV}{x:V}{u:ŋ}{k:Bool}(b:Den X.K α H y x)(r:RelV x u)(e:eqv S n y d=some k):Ij X α S H n d u=k:=by
 unfold Ij
 cases k with
 |true=>exact dT0 ⟨y,x,b,r,e⟩
 |false=>
  refine dF0 λ⟨j,m,a,i,c⟩=>?_;have ex:=r.inj i;subst ex;rw[b.inj I h a]at e;rw[e]at c;cases c
theorem tV(I:↑2)(c:Wd X.g α S H){n:Nat}{A:Ō}{d:MV}{x:V}{v:ŋ}(b:A.units+n<cLine)(m:Den X.K α H d x)(i:RelV x v): ∀{ys:C1}{vs:List V}{us:A0}{bs:B6},DenL X.K α H ys vs->Vals vs us->NT S n d ys=some bs->
  us.map (Ij X α S H n d)=bs/\ ∀u∈us,SeqAt.EqAt A s u v (Ij X α S H n d u)
 |[],_,_,bs,l,r,e=>by cases l.isnil;cases r;cases e;exact⟨rfl,λu b=>by cases b⟩
 |y::ys,_,_,bs,l,r,e=>by
  obtain⟨B,w,rfl,o,q⟩:=l.uncons
  cases r with
  |cons r1 r2=>
   unfold NT at e
   cases z:eqv S n y d with
   |none=>rw[z]at e;cases e
   |some k=>
    rw[z]at e
    cases h:NT S n d ys with
    |none=>simp[h]at e
    |some cs=>
     simp[h]at e;subst e;obtain⟨h1,p⟩:=tV I c b m i q r2 h;have j:=Ik I c o r1 z;refine⟨by rw[ä,h1,j],λu a=>?_⟩;rcases mC.mp a with rfl|a
     .rw[j];exact vS I c n A y d _ _ _ _ k b o m r1 i z
     .exact p u a
end
theorem any_map{us:A0}{f:ŋ->Bool}{bs:B6}(h:us.map f=bs):us.toArray.any f=bs.any id:=by subst h;simp[List.any_map]
def itemsOf(S:Sto):Er->Option (List MV)
 |.val (.tup ds)=>some ds
 |r=>jL S r
def tW(b:Wd X.g α S H){r:Er}{ds:C1}{x:V}(e:itemsOf S r=some ds)(d:DenX X.K α H r x): ∃a vs,x=.ref a/\(SqL X.K H a vs\/SqT X.K H a vs)/\DenL X.K α H ds vs:=by
 unfold itemsOf at e;split at e
 .cases e;obtain⟨a,vs,rfl,s,l⟩:=dP d;exact⟨a,vs,rfl,.inr s,l⟩
 .obtain⟨a,vs,rfl,s,l⟩:=tQ rfl b e d;exact⟨a,vs,rfl,.inl s,l⟩
noncomputable def JX(a:Bool)(p q:Er)(S:Sto):R Er:=match p with
 |.val d=>match itemsOf S q with
  |some ys=>match NT S zG d ys with
   |some bs=>.ok (.val (.bl (if a=true then !bs.any id else bs.any id))) S
   |none=>.no
  |none=>.no
 |.new _=>.no
def CT(a:Bool):Er->Er->Sto->R Er
 |.val (.str [c]),.val (.str y),S=>.ok (.val (.bl (if a=true then !decide (c∈y)else decide (c∈y)))) S
 |p,q,S=>JX a p q S
abbrev Bf(X:Cx)(a:Bool):R2:=λx y H Q=> ∃α S d q ys bs,Wd X.g α S H/\Den X.K α H d x/\DenX X.K α H q y/\itemsOf S q=some ys/\NT S zG d ys=some bs/\Q (.bl (if a=true then !bs.any id else bs.any id)) H
theorem Rk(B:X.A.units+64<cLine):OpR X (compareOp .In) (Bf X false):=by
 intro pins s σ H x y v u Q I k p h;obtain⟨α,S,d,q,ys,bs,e,j,o,z,n,m⟩:=h;obtain⟨a,vs,rfl,b,l⟩:=tW e z o;cases p;rcases b with b|b
 .obtain⟨its,r,i,_⟩:=I.list b;obtain⟨h1,c⟩:=tV I e (A:=X.A.in1) (by show X.A.units+1+zG<cLine;unfold zG;lia) j k l r n;refine SeqAt.in_listAt _ i.isList (λw hw=>c w (by simpa using hw)) ⟨.bl _,H,I,rfl,?_⟩;rw[any_map h1];exact m
 .obtain⟨its,r,i,_⟩:=I.tuple b;obtain⟨h1,c⟩:=tV I e (A:=X.A.in1) (by show X.A.units+1+zG<cLine;unfold zG;lia) j k l r n;refine SeqAt.in_tupleAt _ i (λw hw=>c w (by simpa using hw)) ⟨.bl _,H,I,rfl,?_⟩;rw[any_map h1];exact m
theorem XJ(B:X.A.units+64<cLine):OpR X (compareOp .NotIn) (Bf X true):=by
 intro pins s σ H x y v u Q I k p h;obtain⟨α,S,d,q,ys,bs,e,j,o,z,n,m⟩:=h;obtain⟨a,vs,rfl,b,l⟩:=tW e z o;cases p;rcases b with b|b
 .obtain⟨its,r,i,_⟩:=I.list b;obtain⟨h1,c⟩:=tV I e (A:=X.A.in1) (by show X.A.units+1+zG<cLine;unfold zG;lia) j k l r n;refine SeqAt.notIn_listAt _ i.isList (λw hw=>c w (by simpa using hw)) ⟨.bl _,H,I,rfl,?_⟩;rw[any_map h1];exact m
 .obtain⟨its,r,i,_⟩:=I.tuple b;obtain⟨h1,c⟩:=tV I e (A:=X.A.in1) (by show X.A.units+1+zG<cLine;unfold zG;lia) j k l r n;refine SeqAt.notIn_tupleAt _ i (λw hw=>c w (by simpa using hw)) ⟨.bl _,H,I,rfl,?_⟩;rw[any_map h1];exact m
def JY{b:Bool}:RA X W (λx y H Q=>(∃i j,x=.str i/\y=.str j/\Q (.bl (if b=true then !(!(Builtin.Str.occurrences j i 0 j.length 1).isEmpty)else !(Builtin.Str.occurrences j i 0 j.length 1).isEmpty)) H)\/Bf X b x y H Q) (CT b):=by
 intro p q x y α S H Q c e h a;unfold CT at a;split at a
 .refine .inl ⟨_,_,bX e,bX h,?_⟩;rw[<-Hb,PySem.StrLaws.found_one];exact Post.val a c (dM _)
 .unfold JX at a;split at a
  .rename_i d _;split at a
   .rename_i ys m;split at a
    .rename_i bs k;exact .inr ⟨α,S,_,q,ys,bs,c,e,h,m,k,Post.val a c (dM _)⟩
    .exact a.elim
   .exact a.elim
  .exact a.elim
def OpR.imp{f:ŋ->ŋ->Sem ŋ}{r a:R2}(h:OpR X f r)(i: ∀x y H Q,a x y H Q->r x y H Q):OpR X f a:=λpins s σ H x y v u Q I c b q=>h pins s σ H x y v u Q I c b (i x y H Q q)
def Bg(a:X.A.units+64<cLine):OpR X (compareOp .In) (λx y H Q=>(∃i j,x=.str i/\y=.str j/\Q (.bl (if(false:Bool)=true then !(!(Builtin.Str.occurrences j i 0 j.length 1).isEmpty)else !(Builtin.Str.occurrences j i 0 j.length 1).isEmpty)) H)\/Bf X false x y H Q):=
 OpR.imp (WN.or (Rk a)) λx y H Q q=>q.imp (λq=>q) λq=>q
def XM(a:X.A.units+64<cLine):OpR X (compareOp .NotIn) (λx y H Q=>(∃i j,x=.str i/\y=.str j/\Q (.bl (if(true:Bool)=true then !(!(Builtin.Str.occurrences j i 0 j.length 1).isEmpty)else !(Builtin.Str.occurrences j i 0 j.length 1).isEmpty)) H)\/Bf X true x y H Q):=
 OpR.imp (JD.or (XJ a)) λx y H Q q=>q.imp (λq=>q) λq=>q
def Xy(d:X.A.units+64<cLine)(e:zN X W a f)(c:zN X W b g)(h:behindInMarks .In b=false:=by with_unfolding_all rfl):zN X W (.Compare a [.In] [b] pos) (λρ S=>(f ρ S).bind λp S1=>(g ρ S1).bind λq S2=>CT false p q S2):=An (Bg d) JY e c h
def Xz(d:X.A.units+64<cLine)(e:zN X W a f)(c:zN X W b g)(h:behindInMarks .In b=false:=by with_unfolding_all rfl):rX X W (.Compare a [.In] [b] pos) (λρ S=>((f ρ S).bind λp S1=>(g ρ S1).bind λq S2=>CT false p q S2).bind eC):=pZ (Bg d) JY e c h
def Bh(d:X.A.units+64<cLine)(e:zN X W a f)(c:zN X W b g)(h:behindInMarks .NotIn b=false:=by with_unfolding_all rfl):rX X W (.Compare a [.NotIn] [b] pos) (λρ S=>((f ρ S).bind λp S1=>(g ρ S1).bind λq S2=>CT true p q S2).bind eC):=pZ (XM d) JY e c h
def lW{K:B9}{r:Er}{vs:List V}(d:ArgsX K α H [r] vs): ∃v,vs=[v]/\DenX K α H r v:=by
 cases d with
 |cons a l=>cases l;exact⟨_,rfl,a⟩
def Ya{K:B9}{r b:Er}{vs:List V}(d:ArgsX K α H [r,b] vs): ∃v u,vs=[v,u]/\DenX K α H r v/\DenX K α H b u:=by
 cases d with
 |cons a l=>obtain⟨u,rfl,c⟩:=lW l;exact⟨_,u,rfl,a,c⟩
def mW:List Er->Sto->R Er
 |[.val (.str x)],S=>if x.length<=sizeLine then .ok (.val (.int x.length)) S else .no
 |[r],S=>match itemsOf S r with |some ds=>.ok (.val (.int ds.length)) S|none=>.no
 |_,_=>.no
def Rl:qB X W (λxs H Q=>(∃z,xs=[.str z]/\z.length<=sizeLine/\Q (.int z.length) H)\/ ∃p ys,xs=[.ref p]/\(SqL X.K H p ys\/SqT X.K H p ys)/\Q (.int ys.length) H) mW:=by
 intro rs vs α S H Q c d b;unfold mW at b;split at b
 .split at b
  .rename_i i;obtain⟨v,rfl,h⟩:=lW d;cases bX h;refine .inl ⟨_,rfl,by rw[gR];exact i,?_⟩;exact Post.val b c (yZ _)
  .exact b.elim
 .split at b
  .rename_i ds e;obtain⟨v,rfl,h⟩:=lW d;obtain⟨a,us,rfl,j,l⟩:=tW c e h;refine .inr ⟨a,us,rfl,j,?_⟩;rw[l.length];exact Post.val b c (yZ _)
  .exact b.elim
 .exact b.elim
def XN:CallR X (.builtin "len") (λxs H Q=>(∃z,xs=[.str z]/\z.length<=sizeLine/\Q (.int z.length) H)\/ ∃p ys,xs=[.ref p]/\(SqL X.K H p ys\/SqT X.K H p ys)/\Q (.int ys.length) H):=JM.or JL
def EF(S:Sto):Er->Option String
 |.val .non=>some "NoneType"
 |.val (.bl _)=>some "bool"
 |.val (.int _)=>some "int"
 |.val (.str _)=>some "str"
 |.val (.tup _)=>some "tuple"
 |.val (.typ _)=>none
 |.val (.obj _ _ _)=>none
 |r=>(jL S r).map λ_=>"list"
noncomputable def Il(t T:String):Bool:=t==T || (t=="bool"&&T=="int")
noncomputable def known(T:String):Bool:=T=="int" || T=="bool" || T=="str" || T=="tuple" || T=="list"
noncomputable def vW:List Er->Sto->R Er
 |[r,.val (.typ T)],S=>match EF S r with
  |some t=>if known T=true then .ok (.val (.bl (Il t T))) S else .no
  |none=>.no
 |_,_=>.no
theorem aS(K:B9){t T:String}(c:t="NoneType"\/t="bool"\/t="int"\/t="str"\/t="tuple"\/t="list")(a:known T=true):PySem.W.kitOne K (.type t) (.type T)=some (Il t T):=by
 have b:T="int"\/T="bool"\/T="str"\/T="tuple"\/T="list":=by
  unfold known at a;simp only[Bool.or_eq_true,beq_iff_eq]at a;rcases a with(((h|h)|h)|h)|h
  .exact .inl h
  .exact .inr (.inl h)
  .exact .inr (.inr (.inl h))
  .exact .inr (.inr (.inr (.inl h)))
  .exact .inr (.inr (.inr (.inr h)))
 rcases c with rfl|rfl|rfl|rfl|rfl|rfl<;>rcases b with rfl|rfl|rfl|rfl|rfl<;>kernel_rfl
def Bi:CallR X (.builtin "isinstance") (λxs H Q=> ∃α S r x t T,xs=[x,.ty T]/\Wd X.g α S H/\DenX X.K α H r x/\EF S r=some t/\known T=true/\Q (.bl (Il t T)) H):=by
 intro pins s σ H xs us Q I p h;obtain⟨α,S,r,x,t,T,rfl,m,d,b,c,q⟩:=h;obtain⟨u,w,rfl,e,v⟩:=vals2 p;cases v;have fin: ∀k,EP X pins σ Q _ {s with toks:=k}:=λk=>⟨.bl _,H,I.tok _,rfl,q⟩
 unfold EF at b;split at b
 .cases b;cases vO d;cases e;exact PySem.W.kia_one PySem.W.kitx_none I.kIn True.intro (aS X.K (.inl rfl) c) (λz=>nomatch z) fin
 .cases b;cases EA d;cases e;exact PySem.W.kia_one PySem.W.kitx_bool I.kIn True.intro (aS X.K (.inr (.inl rfl)) c) (λz=>nomatch z) fin
 .cases b;cases yP d;obtain⟨t,rfl⟩:=e;exact PySem.W.kia_one PySem.W.kitx_int I.kIn True.intro (aS X.K (.inr (.inr (.inl rfl))) c) (λz=>nomatch z) fin
 .cases b;cases bX d;obtain⟨t,rfl⟩:=e;exact PySem.W.kia_one PySem.W.kitx_str I.kIn True.intro (aS X.K (.inr (.inr (.inr (.inl rfl)))) c) (λz=>nomatch z) fin
 .cases b;obtain⟨a,vs,rfl,j,l⟩:=dP d;cases e;obtain⟨its,n,p1,_⟩:=I.tuple j;obtain⟨o,h1,i,_⟩:=p1;exact PySem.W.kia_one PySem.W.kitx_tuple I.kIn ⟨o,h1,i⟩ (aS X.K (.inr (.inr (.inr (.inr (.inl rfl))))) c) (λz=>nomatch z) fin
 .cases b
 .cases b
 .cases z:jL S r with
  |none=>rw[z]at b;cases b
  |some ds=>
   rw[z]at b;cases b;obtain⟨a,vs,rfl,j,l⟩:=tQ rfl m z d;cases e;obtain⟨its,n,p1,_⟩:=I.list j;obtain⟨o,h1,i,_⟩:=p1.isList;exact PySem.W.kia_one PySem.W.kitx_list I.kIn ⟨o,h1,i⟩ (aS X.K (.inr (.inr (.inr (.inr (.inr rfl))))) c) (λz=>nomatch z) fin
def Rm:qB X W (λxs H Q=> ∃α S r x t T,xs=[x,.ty T]/\Wd X.g α S H/\DenX X.K α H r x/\EF S r=some t/\known T=true/\Q (.bl (Il t T)) H) vW:=by
 intro rs vs α S H Q b d a;unfold vW at a;split at a
 .split at a
  .rename_i t i;split at a
   .rename_i e;obtain⟨v,u,rfl,c,h⟩:=Ya d;cases Am h;exact⟨α,S,_,v,t,_,rfl,b,c,i,e,Post.val a b (dM _)⟩
   .exact a.elim
  .exact a.elim
 .exact a.elim
def cA:List Er->Sto->R Er
 |[.val (.tup ds)],S=>.ok (.val (.tup ds)) S
 |[r],S=>match jL S r with |some ds=>.ok (.val (.tup ds)) S|none=>.no
 |_,_=>.no
def Bj:qB X W (λxs H Q=> ∃p ys,xs=[.ref p]/\((SqL X.K H p ys/\ ∀l,H l=none->Q (.ref l) (xU H l (.tup ys)))\/(SqT X.K H p ys/\Q (.ref p) H))) cA:=by
 intro rs vs α S H Q h d b;unfold cA at b;split at b
 .obtain⟨v,rfl,i⟩:=lW d;obtain⟨a,us,rfl,c,l⟩:=dP i;exact⟨a,us,rfl,.inr ⟨c,Post.val b h (nP c l)⟩⟩
 .split at b
  .rename_i ds e;obtain⟨v,rfl,i⟩:=lW d;obtain⟨a,us,rfl,c,l⟩:=tQ rfl h e i;exact⟨a,us,rfl,.inl ⟨c,λp j=>Post.newt b h j l⟩⟩
  .exact b.elim
 .exact b.elim
def NU:List Er->Sto->R Er
 |[r],S=>match itemsOf S r with |some ds=>.ok (.new ds) S|none=>.no
 |_,_=>.no
def Im:qB X W (λxs H Q=> ∃p ys,xs=[.ref p]/\(SqL X.K H p ys\/SqT X.K H p ys)/\ ∀l,H l=none->Q (.ref l) (xU H l (.lst ys))) NU:=by
 intro rs vs α S H Q c d b;unfold NU at b;split at b
 .split at b
  .rename_i ds e;obtain⟨v,rfl,i⟩:=lW d;obtain⟨a,us,rfl,j,l⟩:=tW c e i;exact⟨a,us,rfl,j,λp h=>Post.newl b c h l⟩
  .exact b.elim
 .exact b.elim
def Ro:bootBuiltins "len"=some (.builtin "len"):=by decide+kernel
def GM:bootBuiltins "isinstance"=some (.builtin "isinstance"):=by decide+kernel
def Rp:bootBuiltins "int"=some (.type "int"):=by decide+kernel
def Rq:bootBuiltins "str"=some (.type "str"):=by decide+kernel
def Bk:bootBuiltins "tuple"=some (.type "tuple"):=by decide+kernel
def CV:bootBuiltins "list"=some (.type "list"):=by decide+kernel
end
section
variable{X:Cx}{W:XW}{a e o i:Expr}{es:B8}{f g h:AX}{af:Rho->Sto->R (List Er)}{pos apos:Pos}
def NV:CallR X (.type "int") (λxs H Q=>((∃i,xs=[.int i]/\Q (.int i) H)\/ ∃k,xs=[.bl k]/\Q (.int (if k then 1 else 0)) H)\/ ∃x n,xs=[.str x]/\PySem.intText? x=some n/\x.length<=640/\Q (.int n) H):=by refine WO.or ?_;intro pins s σ H xs us Q I r h;obtain⟨x,n,rfl,b,a,q⟩:=h;obtain⟨u,rfl,t,rfl⟩:=vals1 r;exact PySem.W.KIN.call_text b a ⟨.int n,H,I.tok _,⟨_,rfl⟩,q⟩
noncomputable def Bl:List Er->Sto->R Er
 |[.val (.int i)],S=>.ok (.val (.int i)) S
 |[.val (.bl k)],S=>.ok (.val (.int (if k then 1 else 0))) S
 |[.val (.str x)],S=>match PySem.intText? (fX x)with
  |some n=>if x.length<=640 then .ok (.val (.int n)) S else .no
  |none=>.no
 |_,_=>.no
def Rr:qB X W (λxs H Q=>((∃i,xs=[.int i]/\Q (.int i) H)\/ ∃k,xs=[.bl k]/\Q (.int (if k then 1 else 0)) H)\/ ∃x n,xs=[.str x]/\PySem.intText? x=some n/\x.length<=640/\Q (.int n) H) Bl:=by
 intro rs vs α S H Q c d a;unfold Bl at a;split at a
 .obtain⟨v,rfl,b⟩:=lW d;cases yP b;exact .inl (.inl ⟨_,rfl,Post.val a c (yZ _)⟩)
 .obtain⟨v,rfl,b⟩:=lW d;cases EA b;exact .inl (.inr ⟨_,rfl,Post.val a c (yZ _)⟩)
 .obtain⟨v,rfl,b⟩:=lW d;cases bX b;split at a
  .rename_i n h;split at a
   .rename_i e;exact .inr ⟨_,n,rfl,h,by rw[gR];exact e,Post.val a c (yZ _)⟩
   .exact a.elim
  .exact a.elim
 .exact a.elim
def wG(p:Er)(S:Sto):Bool:=(jL S p).isSome
def RJ:TyM X "list" wG:=by
 intro p x α S H b d h;unfold wG at h
 cases z:jL S p with
 |none=>rw[z]at h;cases h
 |some ds=>
  obtain⟨a,vs,rfl,s,l⟩:=tQ rfl b z d;exact .inl ⟨rfl,vs,s⟩
noncomputable def strIdx(x y:Db):Option Nat:=(Builtin.Str.occurrences (fX x) (fX y) 0 (fX x).length 1).head?
noncomputable def GN(p:Er)(S:Sto)(G:List MV->Option (List MV)):R Er:=match p with
 |.val (.loc l)=>match S[l]? with
  |some (.lst ds)=>match G ds with
   |some es=>.ok (.val .non) (S.set l (.lst es))
   |none=>.no
  |_=>.no
 |_=>.no
def HU{c:A9}{p:Er}{x:V}{G:List MV->Option (List MV)}{Q:VK}(e:Wd X.g α S H)(k:Ext c H0 α H)(m:DenX X.K α H p x)(b:Post X.g W c H0 (GN p S G) Q):
  ∃a vs ds es,x=.ref a/\H a=some (.lst vs)/\DenL X.K α H ds vs/\G ds=some es/\ ∀us,DenL X.K α H es us->Q .non (xU H a (.lst us)):=by
 unfold GN at b;split at b
 .rename_i l;obtain⟨a,rfl,h⟩:=aZ m;obtain⟨q,h1,j⟩:=e.of h;rw[h1]at b
  cases q with
  |lst ds=>
   obtain⟨vs,d,l1⟩:=j;have b:Post X.g W c H0 (match G ds with |some es=>R.ok _ _|none=>R.no) Q:=b;split at b
   .rename_i es n;refine⟨a,vs,ds,es,rfl,d,l1,n,λus r=>?_⟩;have i:=e.writex h (Ff d) (o:=.lst us);exact(b.shift (k.trans i)).val (e.write h (Ff d) ⟨us,zT,r.ext i⟩) tO
   .exact b.elim
  |dic _=>exact b.elim
  |ins _ _=>exact b.elim
  |rcd _ _=>exact b.elim
  |fdc _=>exact b.elim
 .exact b.elim
def eF:Er->List Er->Sto->R Er
 |p,[r],S=>(wO r S).bind λy S1=>GN p S1 λds=>if ds.length<sizeLine then some (ds++[y])else none
 |_,_,_=>.no
def XO:NL X W SZ eF:=by
 intro p rs x vs α S H0 H Q h o v z i b
 match rs,i,b with
 |[],_,b=>exact b.elim
 |_::_::_,_,b=>exact b.elim
 |[r],i,b=>
  cases i with
  |cons d n l=>
   cases l;obtain⟨B,S',α',A,w,j,u,q⟩:=bZ o v d;have b:Post X.g W h H0 ((wO r S).bind λy S1=>GN p S1 λds=>if ds.length<sizeLine then some _ else none) Q:=b;rw[A]at b
   have e:DenX X.K α' H p x:=by
    cases p with
    |val m=>exact Den.ex0 j z
    |new ds=>exact b.elim
   obtain⟨a,us,ds,es,rfl,h1,l1,c,k⟩:=HU u w e b;split at c
   .rename_i s;cases c;exact⟨a,us,_,rfl,rfl,h1,by rw[l1.length];exact s,k _ (l1.append (zR q zX))⟩
   .cases c
def XQ(ho:zN X W a f)(b:CS X W (e::es) af)
  (hbase:attributeBase a "append" X.env (eval a X.env)=eval a X.env:=by rfl)
  (hfew:((backTo pos (starEach (e::es) X.env)).all (λx=>!x.1)&&(backToKw pos (keywordEach [] X.env)).all (λx=>x.1.isSome)
   &&decide ((e::es).length+([]:List Keyword).length+(if([]:List Keyword).isEmpty then 0 else 1)<30))=true:=by rfl)
  (hline:(apos.endLine==pos.line)=true:=by rfl) (hs:q9 X e es:=by rfl) (hplain:Q0 X pos es:=by rfl):
  zN X W (.Call (.Attribute a "append" apos) (e::es) [] pos) (λρ S=>(f ρ S).bind λp S1=>if wG p S1=true then(af ρ S1).bind λrs S2=>eF p rs S2 else .no):=
 JR PySem.F.plainAttrs_list PySem.F.slot_list_append PySem.F.type_list_append WT XO RJ ho b hbase hfew hline hs hplain
def HV(p q:Er)(d:MV)(ρ:Rho)(S:Sto):R Rho:=match p,q with
 |.val (.loc l),.val (.int k)=>match S[l]? with
  |some (.lst ds)=>match JF ds.length k with
   |some j=>.ok ρ (S.set l (.lst (ds.set j d)))
   |none=>.no
  |_=>.no
 |_,_=>.no
def Rt(ho:zN X W o f)(hi:zN X W i g)
  (ha: ∀v,assign (.Subscript o i pos) X.env v=(do
   let ov <-holding [v] (eval o X.env);let A <-holding [v,ov] (eval i X.env)
   standAt pos
   holding [v,ov,A] (setItem ov A v)
   release [v,ov,A] []):=by intro _;rfl):XC X W (.Subscript o i pos) (λd ρ S=>(f ρ S).bind λp S1=>(g ρ S1).bind λq S2=>HV p q d ρ S2):=by
 obtain⟨to,ho,G⟩:=ho;obtain⟨T,hi,J⟩:=hi;refine⟨_,QO ho hi set_list ha,λα ρ S σ H d v Q E sl M q=>G α ρ S σ H _ E sl (q.bind λu p S1 w H1 P e N D C=>J w ρ S1 σ H1 _ N (sl.ext e) ((C.shift e).bind λU p2 S2 c F O m z K b=>?_))⟩
 replace b:=b.shift m
 have s:=DenX.ext m D.1;unfold HV at b;split at b
 .rename_i l k;obtain⟨a,rfl,h⟩:=aZ s;cases yP K.1;obtain⟨L,h1,B⟩:=z.of h;rw[h1]at b
  cases L with
  |lst ds=>
   obtain⟨vs,y,l1⟩:=B;have b:Post X.g W c F (match JF ds.length k with |some j=>R.ok ρ _|none=>R.no) Q:=b;split at b
   .rename_i j I;have r:=z.writex h (Ff y) (o:=.lst (vs.set j v));have n:=((sl.ext e).ext m).ext r;exact⟨a,vs,k,j,rfl,rfl,y,by rw[l1.length];exact I,b σ c _ r (z.write h (Ff y) ⟨_,zT,(l1.set ((M.ext e).ext m) j).ext r⟩) n⟩
   .exact b.elim
  |dic _=>exact b.elim
  |ins _ _=>exact b.elim
  |rcd _ _=>exact b.elim
  |fdc _=>exact b.elim
 .exact b.elim
end
def _root_.L2.Inv.turnedL{X:Cx}{pins:B5}{s:Ŋ}{h':Heap}{t':Nat}{fp:A9}(I:↑2)(k: ∀b o,b∉fp->s.heap.get? b=some o->h'.get? b=some o)
  (hf: ∀b∈fp,pP X pins H b):Inv X pins σ H {s with heap:=h',toks:=t'}:=by
 have d: ∀b u,H b=some u->b∉fp:=λb u e z=>by rw[(hf b z).1]at e;cases e
 refine I.step (λb h=>⟨(hf b h).2.2.2.1,(hf b h).2.1,(hf b h).2.2.2.2.1,(hf b h).2.2.2.2.2⟩) (λb o _ _ a e _=>k b o a e) (λb o _ _ a e _=>⟨_,k b o a e⟩) (λ_ _ _ _ n=>n)
  (λb o a e=>⟨o,k b o a e⟩) (λ_ _ e=>e) (λ_ _ _ e=>e) (λb ps e=>⟨#[],by rw[e];simp⟩) (λm i=>?_) (λb u e=>?_) I.bare
 .obtain⟨o,es,ep,j,r⟩:=i;exact⟨o,es,ep,k _ o (λz=>(hf _ z).2.1 rfl) j,r⟩
 .refine(I.hok b u e).stay (λc v a q=>k c v ?_ q) (λ_ q=>q) λ_ _ q=>q;rcases a with z|z
  .rw[z];exact d b u e
  .exact d c _ z
def IsSub(k:Bool)(h:Heap)(it l:Addr)(i:Nat):Prop:=if k=true then h.IsListIter it l i else h.IsTupleIter it l i
def IsSeq(k:Bool)(h:Heap)(l:Addr)(its:A7):Prop:=if k=true then h.IsList l its else h.IsTuple l its
noncomputable def qC(k:Bool)(l:Addr):Obj:={cls:=.type (if k=true then "list_iterator" else "tuple_iterator"),data:=.fields #[.ref l,.int 0 0]}
def IsSub.mk'{k:Bool}{h:Heap}{it l:Addr}(e:h.get? it=some (qC k l)):IsSub k h it l 0:=by
 cases k with
 |true=>exact⟨_,e,rfl,rfl⟩
 |false=>exact⟨_,e,rfl,rfl⟩
def IsSub.there{k:Bool}{h:Heap}{it l:Addr}{i:Nat}(x:IsSub k h it l i): ∃o,h.get? it=some o/\ ∀v,o.data≠.cell v:=by
 cases k with
 |true=>obtain⟨o,e,_,d⟩:=(x:h.IsListIter it l i);exact⟨o,e,λv z=>by rw[d]at z;cases z⟩
 |false=>obtain⟨o,e,_,d⟩:=(x:h.IsTupleIter it l i);exact⟨o,e,λv z=>by rw[d]at z;cases z⟩
def IsSub.move{k:Bool}{h h':Heap}{it l:Addr}{i:Nat}(x:IsSub k h it l i)(f: ∀o,h.get? it=some o->h'.get? it=some o):IsSub k h' it l i:=by
 cases k with
 |true=>obtain⟨o,e,r⟩:=(x:h.IsListIter it l i);exact⟨o,f o e,r⟩
 |false=>obtain⟨o,e,r⟩:=(x:h.IsTupleIter it l i);exact⟨o,f o e,r⟩
def IsSeq.move{k:Bool}{h h':Heap}{l:Addr}(x:IsSeq k h l its)(f: ∀o,h.get? l=some o->h'.get? l=some o):IsSeq k h' l its:=by
 cases k with
 |true=>obtain⟨o,e,r⟩:=(x:h.IsList l its);exact⟨o,f o e,r⟩
 |false=>obtain⟨o,e,r⟩:=(x:h.IsTuple l its);exact⟨o,f o e,r⟩
section
variable{prog:ō}{w:World}{A:Ō}{E:VP}{s:Ŋ}
def qD{k:Bool}{l:Addr}(a:IsSeq k s.heap l its)(h:Q (.ref ↑0) {s with heap:=s.heap.push (qC k l)}):wpAny (model prog w) A (pyIter (.ref l)) Q E s:=by
 cases k with
 |true=>exact wpAny_pyIter_list a h
 |false=>exact wpAny_pyIter_tuple a h
def eH{k:Bool}{it l:Addr}{i:Nat}{x:ŋ}(b:IsSub k s.heap it l i)(h:IsSeq k s.heap l its)(j:its[i]? =some x)
  (hQ: ∀h',IsSub k h' it l (i+1)->Heap.SameBut it s.heap h'->Q x {s with heap:=h'}):wpAny (model prog w) A (Builtin.SmallTypes.nextOf (.ref it)) Q E s:=by
 cases k with
 |true=>exact wpAny_nextOf_list_item b h j hQ
 |false=>
  have a:=b;obtain⟨o,c,m,hd⟩:=id a;obtain⟨p,d,_,n,e⟩:=(h:s.heap.IsTuple l its)
  refine wB (î a.typeIs Ĵ (ì Ĵ a.typeIs F.entry_tuple_iterator_next ?_ (F.args_tuple_iterator_next_1 _)));show wpAny _ _ (field _ 0 >>= _) _ _ s;refine wB (ñ c hd rfl ?_);show wpAny _ _ _ _ _ s;show wpAny _ _ _ _ _ s;refine wB (ñ c hd rfl ?_);show wpAny _ _ _ _ _ s;refine wB (č d e ?_);simp only[Ď,j];refine wB (wpAny_setField c hd (by simp) (wP ⟨x,rfl,wP (hQ _ ?_ (ď ..))⟩));exact⟨_,Heap.get?_update_self _ c (Obj.isFreed_of_fields (Obj.data_mapFields hd _)),(Obj.cls_mapFields ..).trans m,by rw[Obj.data_mapFields hd];simp[rawInt]⟩
def tX{k:Bool}{it l:Addr}{i:Nat}(c:A.handled=none)(b:IsSub k s.heap it l i)(m:IsSeq k s.heap l its)(n:its[i]? =none)
  (hE: ∀h' e,Heap.ExtBut it s.heap h'->(∃o,h'.get? e=some o/\o.cls=.type "StopIteration")->E (.ref e) {s with heap:=h'}):wpAny (model prog w) A (Builtin.SmallTypes.nextOf (.ref it)) Q E s:=by
 cases k with
 |true=>exact wpAny_nextOf_list_end c b m n hE
 |false=>
  have a:s.heap.IsTupleIter it l i:=b;obtain⟨o,j,r,hd⟩:=id a;obtain⟨q,d,_,p,h⟩:=(m:s.heap.IsTuple l its)
  unfold Builtin.SmallTypes.nextOf;refine wB (î a.typeIs Ĵ (ì Ĵ a.typeIs F.entry_tuple_iterator_next ?_ (F.args_tuple_iterator_next_1 _)));show wpAny _ _ (field (.ref it) 0 >>= _) _ _ s;refine wB (ñ j hd (x:=.ref l) rfl ?_);show wpAny _ _ _ _ _ s;rw[iN (show¬((Value.ref l==Value.none)=true)from xF0)];show wpAny _ _ _ _ _ s;refine wB (ñ j hd rfl ?_);show wpAny _ _ _ _ _ s;refine wB (č d h ?_);simp only[Ď,n];refine wB (ĕ (wB (wpAny_setField j hd (by simp) ?_)));show wpAny _ _ _ _ _ _;refine wB ?_;simp only[newExc,newTuple];refine wB (ć ?_ (by size_fits));refine wB (wpAny_of_eq (by first |rfl|(simp only[firstArgMember];rfl)) ?_);refine ć ?_ (by size_fits);simp only[raiseNew];refine wB (wpAny_handled ?_)
  first |rw[show A.in1.handled=none from c]|rw[c]
  refine wB (wP (wpAny_throw ?_));exact hE _ _ (((ď ..).extBut.push _).push _) ⟨_,ã _ rfl,rfl⟩
end
structure ZipSt(k1 k2:Bool)(z TI TO i1 i2 l1 l2:Addr)(i:Nat)(h:Heap):Prop where
 z:IsZip h z TI TO .none
 ti:IsPair h TI (.ref i1) (.ref i2)
 to: ∃a b,IsPair h TO a b
 s1:IsSub k1 h i1 l1 i
 s2:IsSub k2 h i2 l2 i
structure Apart5(z TI TO i1 i2:Addr):Prop where
 TIz:TI≠z
 TOz:TO≠z
 i1z:i1≠z
 i2z:i2≠z
 TITO:TI≠TO
 TIi1:TI≠i1
 TIi2:TI≠i2
 TOi1:TO≠i1
 TOi2:TO≠i2
 i12:i1≠i2
section
variable{prog:ō}{w:World}{A:Ō}{E:VP}{s:Ŋ}{k1 k2:Bool}{z TI TO i1 i2 l1 l2:Addr}{i:Nat}{xs ys:A7}
def Off(l z TO i1 i2:Addr):Prop:=l≠z/\l≠TO/\l≠i1/\l≠i2
def NW{x y:ŋ}(D:Apart5 z TI TO i1 i2)(o1:Off l1 z TO i1 i2)(U:Off l2 z TO i1 i2)(st:ZipSt k1 k2 z TI TO i1 i2 l1 l2 i s.heap)(P:IsSeq k1 s.heap l1 xs)(W:IsSeq k2 s.heap l2 ys)(hx:xs[i]? =some x)(hy:ys[i]? =some y)
  (hQ: ∀h',IsZip h' z TI TO (rawInt ↑0)->IsPair h' TO x y->IsSub k1 h' i1 l1 (i+1)->IsSub k2 h' i2 l2 (i+1)->IsPair h' ↑0 x y->
   (∀c o,c≠z->c≠TO->c≠i1->c≠i2->s.heap.get? c=some o->h'.get? c=some o)->Q (.ref ↑0) {s with heap:=h'}):
  wpAny (model prog w) A (Builtin.«zip.__next__» ⟨[.ref z],[]⟩) (λfin s'=> ∃v,fin=.done (.ret v)/\Q v s') E s:=by
 obtain⟨H,Z,⟨a,b,ae⟩,h1,h2⟩:=st;show wpAny _ _ (field (.ref z) 2 >>= _) _ _ _;refine wB (ñ H rfl (x:=.bool false) rfl ?_);show wpAny _ _ (field (.ref z) 3 >>= _) _ _ _;refine wB (ñ H rfl (x:=.ref TI) rfl (wB (č Z rfl ?_)));show wpAny _ _ (Builtin.SmallTypes.ownedTupleIsFree (.ref z) >>= _) _ _ _;refine wB ?_;unfold Builtin.SmallTypes.ownedTupleIsFree;refine wB (ñ H rfl (x:=.none) rfl (wP ?_));simp only[if_true];refine wB (ĕ (wB (ñ H rfl (x:=.ref TO) rfl (wB (ô H (by simp) λha u j=>?_)))))
 replace u:IsZip ha z TI TO .ellipsis:=u
 refine wB ?_;simp only[zipIdx_cons,zipIdx_nil,forIn_cons,forIn_nil];refine wB (wB (wpAny_onRaise ?_));show wpAny _ _ (Builtin.SmallTypes.nextOf (.ref i1) >>= _) _ _ _;refine wB (eH (h1.move λo e=>j.extBut _ _ D.i1z e) (P.move λo e=>j.extBut _ _ o1.1 e) hx λhb O n=>wP ?_);have G:IsPair hb TO a b:=n.extBut _ _ D.TOi1 (j.extBut _ _ D.TOz ae);refine wB (č G rfl (wB (wpAny_updateSeq_pair G λhc B q=>wB (wpAny_letGo (wP ?_)))))
 replace B:IsPair hc TO x b:=B
 refine wB (wB (wpAny_onRaise ?_));show wpAny _ _ (Builtin.SmallTypes.nextOf (.ref i2) >>= _) _ _ _;have mv: ∀c o,c≠z->c≠TO->c≠i1->s.heap.get? c=some o->hc.get? c=some o:=λc o n1 M Y e=>q.extBut _ _ M (n.extBut _ _ Y (j.extBut _ _ n1 e));refine wB (eH (h2.move λo e=>mv _ o D.i2z D.TOi2.symm D.i12.symm e) (W.move λo e=>mv _ o U.1 U.2.1 U.2.2.1 e) hy λhd aa k=>wP ?_);have C:IsPair hd TO x b:=k.extBut _ _ D.TOi2 B;refine wB (č C rfl (wB (wpAny_updateSeq_pair C λd m h=>wB (wpAny_letGo (wP (wP ?_))))))
 replace m:IsPair d TO x y:=m
 refine wB (č m rfl (wB (wpAny_newTuple ?_)));have J:d.objs.size=s.heap.objs.size:=by rw[h.1,k.1,q.1,n.1,j.1]
 have ze:IsZip d z TI TO .ellipsis:=h.extBut _ _ D.TOz.symm (k.extBut _ _ D.i2z.symm (q.extBut _ _ D.TOz.symm (n.extBut _ _ D.i1z.symm u)));have X: ∀c o,c≠z->c≠TO->c≠i1->c≠i2->s.heap.get? c=some o->d.get? c=some o:=λc o n1 M Y n4 e=>h.extBut _ _ M (k.extBut _ _ n4 (mv c o n1 M Y e));have ab:IsSub k1 d i1 l1 (i+1):=O.move λo e=>h.extBut _ _ D.TOi1.symm (k.extBut _ _ D.i12 (q.extBut _ _ D.TOi1.symm e));have S:IsSub k2 d i2 l2 (i+1):=aa.move λo e=>h.extBut _ _ D.TOi2.symm e;have r:z<d.objs.size:=â ze;show wpAny _ _ (Builtin.SmallTypes.ownedTupleHandOut (.ref z) (.ref d.objs.size) >>= _) _ _ _;refine wB ?_;unfold Builtin.SmallTypes.ownedTupleHandOut;have zf:IsZip (d.push {cls:=.type "tuple",data:=.seq #[x,y]}) z TI TO .ellipsis:=hP0 _ ze;refine wB (ô zf (by simp) λT zg F=>?_)
 replace zg:IsZip T z TI TO (rawInt d.objs.size):=zg
 refine ô zg (by simp) λp N I=>?_
 replace N:IsZip p z TI TO (rawInt d.objs.size):=N
 have L: ∀c o,c≠z->d.get? c=some o->p.get? c=some o:=λc o K e=>I.extBut _ _ K (F.extBut _ _ K (hP0 _ e));have tT:IsPair p d.objs.size x y:=I.extBut _ _ (ø r) (F.extBut _ _ (ø r) (ã _ rfl));rw[J]at N tT;refine wP ⟨_,rfl,?_⟩;show Q (.ref d.objs.size) _;rw[J];exact hQ p N (L _ _ D.TOz m) (ab.move λo e=>L _ o D.i1z e) (S.move λo e=>L _ o D.i2z e) tT λc o K c2 c3 c4 e=>L c o K (X c o K c2 c3 c4 e)
def TV{Q:Fin->Ŋ->Prop}(Y:A.handled=none)(D:Apart5 z TI TO i1 i2)(Z:Off l1 z TO i1 i2)(L:Off l2 z TO i1 i2)(st:ZipSt k1 k2 z TI TO i1 i2 l1 l2 i s.heap)(u:IsSeq k1 s.heap l1 xs)(M:IsSeq k2 s.heap l2 ys)(v:xs[i]? =none\/ys[i]? =none)
  (hE: ∀h' e,(∀c o,c≠z->c≠TO->c≠i1->c≠i2->s.heap.get? c=some o->h'.get? c=some o)->(∃o,h'.get? e=some o/\o.cls=.type "StopIteration")->E (.ref e) {s with heap:=h'}):
  wpAny (model prog w) A (Builtin.«zip.__next__» ⟨[.ref z],[]⟩) Q E s:=by
 obtain⟨F,N,⟨a,b,T⟩,h1,h2⟩:=st;show wpAny _ _ (field (.ref z) 2 >>= _) _ _ _;refine wB (ñ F rfl (x:=.bool false) rfl ?_);show wpAny _ _ (field (.ref z) 3 >>= _) _ _ _;refine wB (ñ F rfl (x:=.ref TI) rfl (wB (č N rfl ?_)));show wpAny _ _ (Builtin.SmallTypes.ownedTupleIsFree (.ref z) >>= _) _ _ _;refine wB ?_;unfold Builtin.SmallTypes.ownedTupleIsFree;refine wB (ñ F rfl (x:=.none) rfl (wP ?_));simp only[if_true];refine wB (ĕ (wB (ñ F rfl (x:=.ref TO) rfl (wB (ô F (by simp) λha p j=>?_)))))
 replace p:IsZip ha z TI TO .ellipsis:=p
 refine wB ?_;simp only[zipIdx_cons,zipIdx_nil,forIn_cons,forIn_nil];refine wB (wB (wpAny_onRaise ?_));show wpAny _ _ (Builtin.SmallTypes.nextOf (.ref i1) >>= _) _ _ _
 cases X:xs[i]? with
 |none=>
  refine wB (tX Y (h1.move λo e=>j.extBut _ _ D.i1z e) (u.move λo e=>j.extBut _ _ Z.1 e) X λO e k P=>?_);obtain⟨J,d,m⟩:=P;have C:IsZip O z TI TO .ellipsis:=k _ _ D.i1z.symm p;have r:e≠z:=λq=>by subst q;rw[C]at d;cases d;simp at m
  exact ô C (by simp) λW _ n=>hE W e (λc o H _ S _ q=>n.extBut _ _ H (k _ _ S (j.extBut _ _ H q))) ⟨J,n.extBut _ _ r d,m⟩
 |some x=>
  have hy:ys[i]? =none:=by rcases v with h|h;(rw[X]at h;cases h);exact h
  refine wB (eH (h1.move λo e=>j.extBut _ _ D.i1z e) (u.move λo e=>j.extBut _ _ Z.1 e) X λO aa k=>wP ?_);have B:IsPair O TO a b:=k.extBut _ _ D.TOi1 (j.extBut _ _ D.TOz T);refine wB (č B rfl (wB (wpAny_updateSeq_pair B λW ab n=>wB (wpAny_letGo (wP ?_)))));refine wB (wB (wpAny_onRaise ?_));show wpAny _ _ (Builtin.SmallTypes.nextOf (.ref i2) >>= _) _ _ _;have U: ∀c o,c≠z->c≠TO->c≠i1->s.heap.get? c=some o->W.get? c=some o:=λc o n1 n2 n3 e=>n.extBut _ _ n2 (k.extBut _ _ n3 (j.extBut _ _ n1 e));refine wB (tX Y (h2.move λo e=>U _ o D.i2z D.TOi2.symm D.i12.symm e) (M.move λo e=>U _ o L.1 L.2.1 L.2.2.1 e) hy λhd e I P=>?_);obtain⟨J,d,m⟩:=P;have G:IsZip hd z TI TO .ellipsis:=I _ _ D.i2z.symm (n.extBut _ _ D.TOz.symm (k.extBut _ _ D.i1z.symm p));have r:e≠z:=λq=>by subst q;rw[G]at d;cases d;simp at m
  exact ô G (by simp) λK _ y=>hE K e (λc o H c2 S c4 q=>y.extBut _ _ H (I _ _ c4 (U c o H c2 S q))) ⟨J,y.extBut _ _ r d,m⟩
def RK(k1 k2:Bool)(l1 l2:Addr)(xs ys:A7):
  Meets (Builtin.«zip.__new__» ⟨[.type "zip",.ref l1,.ref l2],[]⟩) (λ_ R s=>IsSeq k1 s.heap l1 xs/\IsSeq k2 s.heap l2 ys/\
   R (.ok (.ret (.ref (↑0+4)))) {s with heap:=((((s.heap.push (qC k1 l1)).push (qC k2 l2)).push {cls:=.type "tuple",data:=.seq #[.ref ↑0,.ref (↑0+1)]}).push {cls:=.type "tuple",data:=.seq #[.none,.none]}).push {cls:=.type "zip",data:=.fields #[.none,.bool false,.bool false,.ref (↑0+2),.ref (↑0+3)]}}):=
 .of_wp λprog w A R s h=>by
  obtain⟨k,g,d,j,p⟩:=s;obtain⟨a,c,h⟩:=h;have m:=sub_zip;have i:IsSeq k1 (Shared.heap ⟨k,g,d,j,p⟩) l1 xs:=a;have b:IsSeq k2 (Shared.heap ⟨k.push (qC k1 l1),g,d,j,p⟩) l2 ys:=c.move λo e=>hP0 _ e;have n: ∀(h:Heap)(o:Obj),(h.push o).objs.size=h.objs.size+1:=λh o=>į ..;simp only[n]at h ⊢
  wp_walk using qD i,qD b
  exact⟨_,rfl,by simp only[n];exact h⟩
def NY(i:IsSeq k1 s.heap l1 xs)(k:IsSeq k2 s.heap l2 ys)
  (h: ∀h',ZipSt k1 k2 (↑0+4) (↑0+2) (↑0+3) ↑0 (↑0+1) l1 l2 0 h'->(∀c o,s.heap.get? c=some o->h'.get? c=some o)->Q (.ref (↑0+4)) {s with heap:=h'}):
  wpAny (model prog w) A (call (.type "zip") [.ref l1,.ref l2]) Q E s:=by
 refine callType_new F.called_zip (by decide) (F.typeCall_zip_2 _ _) (F.newCall_zip_2 _ _) (λj=>F.args_object_init_3 j _ _) F.entry_zip_new (RK k1 k2 l1 l2 xs ys) ⟨i,k,?_⟩;have d: ∀(h:Heap)(o:Obj),(h.push o).objs.size=h.objs.size+1:=λh o=>į ..;have b: ∀(h:Heap)(o:Obj)(n:Nat),o.isFreed=false->h.objs.size=n->(h.push o).get? n=some o:=λh o n m e=>by subst e;exact ã _ m
 have a: ∀(h:Heap)(o u:Obj)(n:Nat),h.get? n=some u->(h.push o).get? n=some u:=λh o u n e=>hP0 _ e;refine⟨⟨_,b _ _ _ rfl (by simp only[d]),rfl⟩,h _ ⟨b _ _ _ rfl (by simp only[d]),a _ _ _ _ (a _ _ _ _ (b _ _ _ rfl (by simp only[d]))),⟨.none,.none,a _ _ _ _ (b _ _ _ rfl (by simp only[d]))⟩,?_,?_⟩ λc o e=>a _ _ _ _ (a _ _ _ _ (a _ _ _ _ (a _ _ _ _ (a _ _ _ _ e))))⟩
 .exact IsSub.mk' (a _ _ _ _ (a _ _ _ _ (a _ _ _ _ (a _ _ _ _ (b _ _ _ rfl rfl)))))
 .exact IsSub.mk' (a _ _ _ _ (a _ _ _ _ (a _ _ _ _ (b _ _ _ rfl (by simp only[d])))))
end
def apart_new(n:Nat):Apart5 (n+4) (n+2) (n+3) n (n+1):=by constructor<;>(show(_:Nat)≠_;omega)
def GB(k:Bool)(K:B9)(H:Hp)(a:Addr)(xs:List V):Prop:=if k=true then SqL K H a xs else SqT K H a xs
noncomputable def Itz(K:B9)(k1 k2:Bool)(l1 l2:Addr):It:=
 ⟨λi H=> ∃xs ys x y,GB k1 K H l1 xs/\GB k2 K H l2 ys/\xs[i]? =some x/\ys[i]? =some y,
   λi H v H'=> ∃p x y,H p=none/\v=.ref p/\H'=xU H p (.tup [x,y])/\(∀xs,GB k1 K H l1 xs->xs[i]? =some x)/\ ∀ys,GB k2 K H l2 ys->ys[i]? =some y,
   λi H=> ∃xs ys,GB k1 K H l1 xs/\GB k2 K H l2 ys/\(xs.length<=i\/ys.length<=i)⟩
section
variable{X:Cx}{pins:B5}{σ:St}{H:Hp}{s:Ŋ}
def _root_.L2.Inv.seqK(I:↑2){k:Bool}{a:Addr}(h:GB k X.K H a xs): ∃its:List ŋ,Vals xs its/\IsSeq k s.heap a its.toArray/\xs.length<=sizeLine:=by
 cases k with
 |true=>obtain⟨its,r,p,z⟩:=I.list h;exact⟨its,r,p.isList,z⟩
 |false=>obtain⟨its,r,p,z⟩:=I.tuple h;exact⟨its,r,p,z⟩
def _root_.L2.Inv.seqK_inj(I:↑2){k:Bool}{a:Addr}{ys:List V}(h:GB k X.K H a xs)(h':GB k X.K H a ys):xs=ys:=by
 cases k with
 |true=>exact I.list_inj h h'
 |false=>exact I.tuple_inj h h'
def iD(I:↑2){k:Bool}{l b:Addr}(h:GB k X.K H l xs)(a:pP X pins H b):l≠b:=by
 rintro rfl
 have c: ∀o,X.K.lookup l=some o->False:=λo e=>by
  have d:=I.mod.kin l o e;rcases a.2.2.2.1 with z|z
  .exact I.ok.noex l o d z
  .exact absurd (ç (â d) (õ I.ok.bsz z)) (ı _)
 cases k with
 |true=>
  rcases (h:SqL X.K H l xs)with(h|⟨o,h⟩)|⟨o,its,n,h,_⟩
  .rw[a.1]at h;cases h
  .rw[a.1]at h;cases h
  .exact c o h
 |false=>
  rcases (h:SqT X.K H l xs)with(h|⟨o,h⟩)|⟨o,its,n,h,_⟩
  .rw[a.1]at h;cases h
  .rw[a.1]at h;cases h
  .exact c o h
end
def Bm{P:ō}{w:World}{K:B9}{elts:B8}{kt:Nat}{pt:Pos}{k1 k2:Bool}{z TI TO i1 i2 l1 l2:Addr}(D:Apart5 z TI TO i1 i2):
  Turn P w K (.Tuple elts kt pt) (Itz K k1 k2 l1 l2) [z,TI,TO,i1,i2] z (λi h=>ZipSt k1 k2 z TI TO i1 i2 l1 l2 i h) where
 mem:=by simp
 obj:=λi h st b hb=>by
  obtain⟨hz,hTI,⟨a,b',hTO⟩,h1,h2⟩:=st;have hb':b=z\/b=TI\/b=TO\/b=i1\/b=i2:=by simpa using hb
  rcases hb' with rfl|rfl|rfl|rfl|rfl
  .exact⟨_,hz,λv q=>by cases q⟩
  .exact⟨_,hTI,λv q=>by cases q⟩
  .exact⟨_,hTO,λv q=>by cases q⟩
  .exact h1.there
  .exact h2.there
 keep:=λi h h' st k=>by obtain⟨hz,hTI,⟨a,b',hTO⟩,h1,h2⟩:=st;exact⟨k z (by simp) _ hz,k TI (by simp) _ hTI,⟨a,b',k TO (by simp) _ hTO⟩,h1.move λo e=>k i1 (by simp) o e,h2.move λo e=>k i2 (by simp) o e⟩
 item:=by
  intro X hP hw hK hc i pins s σ H E I hf st hg;subst hP hw hK;obtain⟨xs,ys,x,y,q1,q2,hx,hy⟩:=hg;obtain⟨its,r1,p1,_⟩:=I.seqK q1;obtain⟨its2,r2,p2,_⟩:=I.seqK q2;obtain⟨u,hu,ru⟩:=r1.get hx;obtain⟨v,hv,rv⟩:=r2.get hy;have off: ∀{k:Bool}{l:Addr}{xs:List V},GB k X.K H l xs->Off l z TO i1 i2:=λq=>⟨iD I q (hf z (by simp)),iD I q (hf TO (by simp)),iD I q (hf i1 (by simp)),iD I q (hf i2 (by simp))⟩
  have hT:s.TypeIs (.ref z) "zip":=⟨_,st.z,rfl⟩
  unfold pyNext
  refine wB (Ĉ (î (name:=Str.ofString "__next__") hT ĉ (ì ĉ hT ľ
   (NW D (off q1) (off q2) st p1 p2 (x:=u) (y:=v) (by simpa using hu) (by simpa using hv) λh' a1 a2 a3 a4 a5 a6=>wP ⟨_,rfl,?_⟩) (ķ _))))
  refine wpAny_letOwnedTupleGo_zip a1 λh2 z2 sb2=>?_;have hpn:H ↑0=none:=I.hok.fresh (à _)
  have I0:Inv X pins σ (xU H ↑0 (.tup [x,y])) {s with heap:=s.heap.push {cls:=.type "tuple",data:=.seq #[u,v]}}:=
   I.laid (t':=s.toks) (o:=.tup [x,y]) (λb o e=>hP0 _ e) (à _) ⟨by show 2<=sizeLine;decide,[u,v],.cons ru (.cons rv .nil),⟨_,ã _ rfl,rfl,_,rfl⟩⟩
  have lt: ∀b∈[z,TI,TO,i1,i2],b<s.heap.objs.size:=λb hb=>by
   have: ∃o,s.heap.get? b=some o:=by
    obtain⟨hz,hTI,⟨a,b',hTO⟩,g1,g2⟩:=st;have hb':b=z\/b=TI\/b=TO\/b=i1\/b=i2:=by simpa using hb
    rcases hb' with rfl|rfl|rfl|rfl|rfl
    .exact⟨_,hz⟩
    .exact⟨_,hTI⟩
    .exact⟨_,hTO⟩
    .obtain⟨o,e,_⟩:=g1.there;exact⟨o,e⟩
    .obtain⟨o,e,_⟩:=g2.there;exact⟨o,e⟩
   obtain⟨o,e⟩:=this;exact â e
  have fr: ∀b∈[z,TI,TO,i1,i2],xU H ↑0 (.tup [x,y]) b=none:=λb hb=>by rw[zH (ë (lt b hb))];exact(hf b hb).1
  have zne:↑0≠z:=ø (lt z (by simp))
  have mv: ∀b o,b∉[z,TI,TO,i1,i2]->(s.heap.push {cls:=.type "tuple",data:=.seq #[u,v]}).get? b=some o->h2.get? b=some o:=λb o hb e=>by
   simp only[mC,nM,or_false,not_or]at hb;refine sb2.extBut _ _ hb.1 ?_;by_cases hbs:b=↑0
   .subst hbs;rw[ã _ rfl]at e;cases e;exact a5
   .rw[Heap.get?_push_ne _ _ _ hbs]at e;exact a6 b o hb.1 hb.2.2.1 hb.2.2.2.1 hb.2.2.2.2 e
  have I2:=I0.turnedL (h':=h2) (t':=s.toks) mv λb hb=>let ⟨_,c2,c3,c4,c5,c6⟩:=hf b hb;⟨fr b hb,c2,c3,c4,c5,c6⟩;refine⟨.ref ↑0,_,I2,rfl,⟨↑0,x,y,hpn,rfl,rfl,λzs hz=>?_,λzs hz=>?_⟩,⟨z2,?_,⟨u,v,?_⟩,?_,?_⟩,fr⟩
  .rw[I.seqK_inj hz q1];exact hx
  .rw[I.seqK_inj hz q2];exact hy
  .exact sb2.extBut _ _ D.TIz (a6 TI _ D.TIz D.TITO D.TIi1 D.TIi2 st.ti)
  .exact sb2.extBut _ _ D.TOz a2
  .exact a3.move λo e=>sb2.extBut _ _ D.i1z e
  .exact a4.move λo e=>sb2.extBut _ _ D.i2z e
 done:=by
  intro X hP hw hK hc i pins s σ H E I hf st hg;subst hP hw hK;obtain⟨xs,ys,q1,q2,hx⟩:=hg;obtain⟨its,r1,p1,_⟩:=I.seqK q1;obtain⟨its2,r2,p2,_⟩:=I.seqK q2;have off: ∀{k:Bool}{l:Addr}{xs:List V},GB k X.K H l xs->Off l z TO i1 i2:=λq=>⟨iD I q (hf z (by simp)),iD I q (hf TO (by simp)),iD I q (hf i1 (by simp)),iD I q (hf i2 (by simp))⟩
  have hT:s.TypeIs (.ref z) "zip":=⟨_,st.z,rfl⟩
  have e1:=r1.length;have e2:=r2.length;unfold pyNext
  refine wB (Ĉ (î (name:=Str.ofString "__next__") hT ĉ (ì ĉ hT ľ
   (TV (I.ok.hd hc) D (off q1) (off q2) st p1 p2 (by rcases hx with h|h;(exact .inl (by simp;omega));exact .inr (by simp;omega)) λh' e hk he=>?_) (ķ _))))
  obtain⟨o,ho,hcl⟩:=he;refine wB (Ġ (T:="StopIteration") (b:=true) ⟨o,ho,hcl⟩ isSubtype_stop (wP ⟨rfl,?_⟩));refine I.turnedL (h':=h') (t':=s.toks) (λb o hb e=>?_) hf;simp only[mC,nM,or_false,not_or]at hb;exact hk b o hb.1 hb.2.2.1 hb.2.2.2.1 hb.2.2.2.2 e
 self:=λ_ _ _ _ _ st h=>wpAny_pyIter_zip st.z h
structure Sr where
 k:Bool
 ds:List MV
 gs:List (Nat×List MV)
noncomputable def srcOf(S:Sto):Er->Option Sr
 |.val (.tup ds)=>some ⟨false,ds,[]⟩
 |.new ds=>some ⟨true,ds,[]⟩
 |.val (.scr ds)=>some ⟨true,ds,[]⟩
 |.val (.loc l)=>match S[l]? with
  |some (.lst ds)=>some ⟨true,ds,[(l,ds)]⟩
  |_=>none
 |_=>none
structure SrcD(X:Cx)(q:Sr)(l:Addr)(P:List Addr->Sto->Hp->Prop):Prop where
 get: ∀α S H,P α S H-> ∃vs,GB q.k X.K H l vs/\DenL X.K α H q.ds vs
 stays: ∀α1 S1 H1 α2 S2 H2,P α1 S1 H1->Ext α1 H1 α2 H2->Wd X.g α2 S2 H2->stay q.gs S2->P α2 S2 H2
 st: ∀α S H,P α S H->stay q.gs S
def vX{X:Cx}(y:Wd X.g α S H){r:Er}{x:V}{q:Sr}(e:srcOf S r=some q)(d:DenX X.K α H r x): ∃l P,x=.ref l/\P α S H/\SrcD X q l P:=by
 unfold srcOf at e;split at e
 .rename_i ds;cases e;obtain⟨a,vs,rfl,s,l⟩:=dP d;exact⟨a,λα S H=> ∃vs,_,rfl,⟨vs,s,l⟩,λα S H h=>h,λj S1 H1 i S2 m ⟨vs,h1,c⟩ x w _=>⟨vs,x.sqT h1,c.ext x⟩,λ_ _ _ _=>gU⟩
 .rename_i ds;cases e;obtain⟨b,vs,rfl,h,n,l⟩:=d
  exact⟨b,λα S H=> ∃vs,H b=some (.lst vs)/\b∉α/\DenL X.K α H ds vs,rfl,⟨vs,h,n,l⟩,λα S H ⟨vs,h1,_,c⟩=>⟨vs,(SqL.of h1:SqL X.K H b vs),c⟩,
   λj S1 H1 i S2 m ⟨vs,h1,c,z⟩ x w _=>⟨vs,x.keep b _ h1 c,x.out h1 c,z.ext x⟩,λ_ _ _ _=>gU⟩
 .rename_i ds;cases e;obtain⟨a,vs,rfl,s,l⟩:=EB d;exact⟨a,λα S H=> ∃vs,SqF X.K H a vs/\DenL X.K α H ds vs,rfl,⟨vs,s,l⟩,λα S H ⟨vs,h1,c⟩=>⟨vs,h1.l,c⟩,λj S1 H1 i S2 m ⟨vs,h1,c⟩ x w _=>⟨vs,x.sqF h1,c.ext x⟩,λ_ _ _ _=>gU⟩
 .rename_i n;split at e
  .rename_i ds o;cases e;obtain⟨a,rfl,h⟩:=aZ d;obtain⟨vs,h1,c⟩:=y.obj n a _ h o;refine⟨a,λα S H=> ∃vs,H a=some (.lst vs)/\DenL X.K α H ds vs/\α[n]? =some a/\S[n]? =some _,rfl,⟨vs,h1,c,h,o⟩,λα S H ⟨vs,h1,c,_⟩=>⟨vs,(SqL.of h1:SqL X.K H a vs),c⟩,?_,?_⟩
   .intro j S1 H1 i S2 m ⟨vs,D,E,u,v⟩ x w hs;have k:=hs (n,ds) (by simp);obtain⟨us,A,C⟩:=w.obj n a _ (x.at u) k;exact⟨us,A,C,x.at u,k⟩
   .intro α S H ⟨vs,_,_,_,v⟩ p B;have:=by simpa using B
    subst this;exact v
  .cases e
 .cases e
def iZip(K:B9)(ta:TA):TI:=λσ H R=>ta σ H λvs H1=> ∃k1 k2 l1 l2,vs=[.ref l1,.ref l2]/\(∃xs,GB k1 K H1 l1 xs)/\(∃ys,GB k2 K H1 l2 ys)/\R (Itz K k1 k2 l1 l2) H1
section
variable{X:Cx}{W:XW}{a b:Expr}{elts:B8}{kt:Nat}{pt p pos:Pos}{ta:TA}{af:Rho->Sto->R (List Er)}
def Bn:bootBuiltins "zip"=some (.type "zip"):=by decide+kernel
def Io:bootBuiltins "enumerate"=some (.type "enumerate"):=by decide+kernel
def Ru(v:Gl X "zip")(B:X.mg "zip"=none)(y:PA X [a,b] ta)(hs:starEach [a,b] X.env=[(false,eval a X.env),(false,eval b X.env)]:=by rfl)(d:starEach [b] X.env=[(false,eval b X.env)]:=by rfl):
  PI X (.Tuple elts kt pt) (.Call (.Name "zip" p) [a,b] [] pos) (iZip X.K ta):=by
 intro pins s σ H R I h;refine Call_ (mQ I v B Bn (Č (jI (y pos pins s σ H _ I h) λus c ⟨vs,H1,I1,u,k⟩=>?_) (by rw[hs,d]) (by rw[d];rfl)));obtain⟨k1,k2,l1,l2,rfl,⟨xs,A⟩,⟨ys,w⟩,q⟩:=k
 cases u with
 |cons r rr=>
  cases rr with
  |cons r' rr=>
   cases rr;cases r;cases r';obtain⟨its,C,p1,_⟩:=I1.seqK A;obtain⟨j,D,p2,_⟩:=I1.seqK w;refine NY p1 p2 λh' st m=>wpAny_pyIter_zip st.z ?_;have n:Inv X pins σ H1 {c with heap:=h'}:=I1.kept (t':=c.toks) m;refine⟨_,_,_,_,H1,rfl,n,Bm (apart_new _),st,λb o=>?_,q⟩
   have e:c.heap.objs.size<=b:=by
    have i:b=c.heap.objs.size+4\/b=c.heap.objs.size+2\/b=c.heap.objs.size+3\/b=c.heap.objs.size\/b=c.heap.objs.size+1:=by simpa using o
    rcases i with h|h|h|h|h<;>rw[h]<;>(first |exact à _|exact đ _ _)
   exact I1.fpOk e (I1.hok.fresh e)
noncomputable def pairs(xs ys:C1):List MV:=List.zipWith (λx y=>.tup [x,y]) xs ys
noncomputable def Nc(rs:List Er)(S:Sto):R Wk:=match rs with
 |[p,q]=>match srcOf S p with
  |some a=>match srcOf S q with
   |some b=>.ok ⟨pairs a.ds b.ds,a.gs++b.gs⟩ S
   |none=>.no
  |none=>.no
 |_=>.no
def Rv(hg:Gl X "zip")(hm:X.mg "zip"=none)(D:CS X W [a,b] af)(hs:starEach [a,b] X.env=[(false,eval a X.env),(false,eval b X.env)]:=by rfl)(B:starEach [b] X.env=[(false,eval b X.env)]:=by rfl):
  HN X W (.Tuple elts kt pt) (.Call (.Name "zip" p) [a,b] [] pos) (λρ S=>(af ρ S).bind Nc):=by
 obtain⟨t,D,k⟩:=D;refine⟨_,Ru hg hm D hs B,λα ρ S σ H Rc wd sl q=>k α ρ S σ H _ wd sl (q.bind λvs rs S1 G H1 e x1 J d1 c=>?_)⟩
 replace c:=c.shift x1
 unfold Nc at c;split at c
 .rename_i r1 r2;split at c
  .rename_i z U;split at c
   .rename_i s e2;obtain⟨u,v,rfl,du,dv⟩:=Mz d1;obtain⟨l1,T,rfl,p1,m⟩:=vX J U du;obtain⟨l2,P2,rfl,p2,n⟩:=vX J e2 dv;have Z:=m.get _ _ _ p1;have g2:=n.get _ _ _ p2;refine⟨z.k,s.k,l1,l2,rfl,⟨_,Z.choose_spec.1⟩,⟨_,g2.choose_spec.1⟩,c.here (u:=Itz X.K z.k s.k l1 l2) J ⟨λα S H=>T α S H/\P2 α S H,?_,⟨p1,p2⟩,?_,?_⟩⟩
    .intro i F S2 H2 ⟨A,y⟩ N;obtain⟨us,I,L⟩:=m.get _ _ _ A;obtain⟨ws,C,O⟩:=n.get _ _ _ y;have hl:(pairs z.ds s.ds).length=min us.length ws.length:=by unfold pairs;rw[List.length_zipWith,L.length,O.length]
     refine⟨λhi=>?_,λhi=>?_⟩
     .have hi:i<(pairs z.ds s.ds).length:=hi;have h1:i<us.length:=by omega
      have Q:i<ws.length:=by omega
      refine⟨⟨us,ws,us[i],ws[i],I,C,gE h1,gE Q⟩,?_⟩;rintro x H' ⟨pp,M,P,j,rfl,rfl,hx,hy⟩;obtain⟨d,hd,Y⟩:=L.get (hx us I);obtain⟨f,hf,df⟩:=O.get (hy ws C);have r:=N.newx (o:=.tup [M,P]) j;have E:=N.new (o:=.tup [M,P]) j;refine⟨r,E,⟨m.stays _ _ _ _ _ _ A r E (m.st _ _ _ A),n.stays _ _ _ _ _ _ y r E (n.st _ _ _ y)⟩,.tup [d,f],?_,?_⟩
      .unfold pairs;rw[List.getElem?_zipWith,hd,hf]
      .exact nP (.of zT) (zR (Y.ext r) (zR (df.ext r) zX))
     .have hi:(pairs z.ds s.ds).length<=i:=hi;refine⟨us,ws,I,C,?_⟩;by_cases h1:us.length<=i
      .exact .inl h1
      .exact .inr (by omega)
    .intro G S1 H1 F S2 H2 ⟨A,y⟩ x w hs;exact⟨m.stays _ _ _ _ _ _ A x w λp j=>hs p (ă _ j),n.stays _ _ _ _ _ _ y x w λp j=>hs p (ó _ j)⟩
    .intro p j;rcases é.mp j with h|h
     .exact m.st _ _ _ p1 p h
     .exact n.st _ _ _ p2 p h
   .exact c.elim
  .exact c.elim
 .exact c.elim
end
structure EnSt(k:Bool)(e it l:Addr)(i:Nat)(h:Heap):Prop where
 e: ∃old,IsEnum h e it i old
 s:IsSub k h it l i
section
variable{prog:ō}{w:World}{A:Ō}{E:VP}{s:Ŋ}{k:Bool}{e it l:Addr}{i:Nat}{its:A7}
def Ip{x old:ŋ}(T:IsEnum s.heap e it i old)(X:IsSub k s.heap it l i)(hl:IsSeq k s.heap l its)(hx:its[i]? =some x)(j:e≠it)
  (hQ: ∀h',IsEnumOut h' e it ((i:Int)+1) x ↑0->IsSub k h' it l (i+1)->h'.get? ↑0=some {cls:=.type "tuple",data:=.seq #[.int i s.toks,x]}->
   (∀b o,b≠e->b≠it->s.heap.get? b=some o->h'.get? b=some o)->Q (.ref ↑0) {s with heap:=h',toks:=s.toks+1}):
  wpAny (model prog w) A (Builtin.«enumerate.__next__» ⟨[.ref e],[]⟩) (λfin s'=> ∃v,fin=.done (.ret v)/\Q v s') E s:=by
 obtain⟨F,g,d,m,u⟩:=s;show wpAny _ _ (field (.ref e) 2 >>= _) _ _ _;refine wB (ñ T rfl rfl (wB (eH X hl hx λD P a=>?_)))
 replace a:Heap.SameBut it F D:=a
 have U:IsEnum D e it i old:=(a.2 e j).trans T;show wpAny _ _ _ _ _ ⟨D,g,d,m,u⟩;refine wB (ñ U rfl rfl ?_);show wpAny _ _ _ _ _ ⟨D,g,d,m,u⟩;refine wB (ñ U rfl rfl ?_);show wpAny _ _ (mkInt i >>= _) _ _ ⟨D,g,d,m,u⟩;refine wB (wpAny_mkInt ?_);show wpAny _ _ _ _ _ ⟨D,g,d,_,u⟩;refine wB (ô U (by simp) λI Y c=>?_)
 replace c:Heap.SameBut e D I:=c
 replace Y:IsEnum I e it ((i:Int)+1) old:=Y
 show wpAny _ _ _ _ _ ⟨I,g,d,_,u⟩;refine wB (ô Y (by simp) λr O h=>?_)
 replace h:Heap.SameBut e I r:=h
 replace O:IsEnum r e it ((i:Int)+1) old:=O
 show wpAny _ _ _ _ _ ⟨r,g,d,_,u⟩;refine wB (wpAny_newTuple ?_);have G:r.objs.size=F.objs.size:=by rw[h.1,c.1,a.1]
 have S:e<F.objs.size:=â T;have K:IsEnum (r.push {cls:=.type "tuple",data:=.seq #[.int i m,x]}) e it ((i:Int)+1) old:=hP0 _ O;have Z:(r.push {cls:=.type "tuple",data:=.seq #[.int i m,x]}).get? F.objs.size=some {cls:=.type "tuple",data:=.seq #[.int i m,x]}:=by rw[<-G];exact ã _ rfl
 have kd: ∀b o,b≠e->b≠it->F.get? b=some o->(r.push {cls:=.type "tuple",data:=.seq #[.int i m,x]}).get? b=some o:=λb o H W q=>
  hP0 _ (h.extBut b o H (c.extBut b o H (a.extBut b o W q)))
 have sd:IsSub k (r.push {cls:=.type "tuple",data:=.seq #[.int i m,x]}) it l (i+1):=P.move λo q=>hP0 _ (h.extBut _ o (Ne.symm j) (c.extBut _ o (Ne.symm j) q));generalize r.push {cls:=.type "tuple",data:=.seq #[.int i m,x]}=hd at K Z kd sd ⊢;show wpAny _ _ _ _ _ ⟨hd,g,d,_,u⟩;rw[G];refine wB ?_;unfold Builtin.SmallTypes.ownedTupleIsFree;refine wB (ñ K rfl rfl (wP ?_));simp only[if_true];refine wB (ĕ (wB (ñ K rfl rfl (wB (ô K (by simp) λJ ef B=>?_)))))
 replace B:Heap.SameBut e hd J:=B
 replace ef:IsEnum J e it ((i:Int)+1) x:=ef
 show wpAny _ _ _ _ _ ⟨J,g,d,_,u⟩;refine wB ?_;unfold Builtin.SmallTypes.ownedTupleHandOut;refine wB (ô ef (by simp) λz N y=>?_)
 replace y:Heap.SameBut e J z:=y
 replace N:IsEnumOut z e it ((i:Int)+1) x F.objs.size:=N
 refine ô N (by simp) λp M C=>?_
 replace C:Heap.SameBut e z p:=C
 replace M:IsEnumOut p e it ((i:Int)+1) x F.objs.size:=M
 have L: ∀b o,b≠e->hd.get? b=some o->p.get? b=some o:=λb o n q=>C.extBut b o n (y.extBut b o n (B.extBut b o n q));exact wB (wpAny_letGo (wP ⟨_,rfl,hQ p M (sd.move λo q=>L _ o (Ne.symm j) q) (L _ _ (ø S) Z) λb o H W q=>L b o H (kd b o H W q)⟩))
def RL(k:Bool)(l:Addr)(its:A7):
  Meets (Builtin.«enumerate.__new__» ⟨[.type "enumerate",.ref l],[]⟩) (λ_ R s=>IsSeq k s.heap l its/\
   R (.ok (.ret (.ref (↑0+1)))) {s with heap:=(s.heap.push (qC k l)).push {cls:=.type "enumerate",data:=.fields #[.none,.bool false,.ref ↑0,rawInt 0,.none,.none]}}):=
 .of_wp λprog w A R s h=>by
  obtain⟨m,g,d,j,n⟩:=s;obtain⟨i,h⟩:=h;have e:=sub_enumerate;have a:IsSeq k _ l its:=i;have b: ∀(h:Heap)(o:Obj),(h.push o).objs.size=h.objs.size+1:=λh o=>į ..
  wp_walk
  refine wpAny_stack_any λst=>wP ?_;split
  .rename_i c _ _ _ _ _;cases (c==Value.type "enumerate")
   .wp_walk using qD a
    exact⟨_,rfl,by simp only[b];exact h⟩
   .wp_walk using qD a
    exact⟨_,rfl,by simp only[b];exact h⟩
  .wp_walk using qD a
   exact⟨_,rfl,by simp only[b];exact h⟩
end
def HW(K:B9)(F:List MV->Sto->R Er):Sp:=λvs H Q _=> ∃ds,DenL K [] H ds vs/\ds.length=1/\ ∀g:Gm,g.K=K->Post g W0 [] H (F ds []) Q
def Bo{g:Gm}{F:List MV->Sto->R Er}: ∀vs H Q E,HW g.K F vs H Q E->RD g 1 F vs H Q E:=λvs H Q E ⟨ds,l,b,q⟩=>⟨[],[],ds,⟨rfl,by simp,λl a o h=>by simp at h⟩,l,b,q g rfl⟩
def Rx{K:B9}{a:Addr}(b:Ad H)(h:SqL K H a xs):SqF K H a xs:=by
 rcases h with(h|⟨o,h⟩)|h
 .rcases b a with z|⟨o,ys,z⟩
  .rw[z]at h;cases h
  .rw[z]at h;cases h
 .exact .inl ⟨o,h⟩
 .exact .inr h
def Bp{K:B9}{F:List MV->Sto->R Er}{a:Addr}{b:Za}(e:Ad H)(c:SqL K H a (b.map V.int))(h: ∃S,F [.scr (b.map MV.int)] []=.ok (.val (.bl true)) S):HW K F [.ref a] H (λv _=>v=.bl true) λ_ _ _=>False:=by obtain⟨S,h⟩:=h;refine⟨_,zR (TF (Rx e c) (HM b)) zX,rfl,λg _=>?_⟩;rw[h];exact λv α' H' x w d=>EA d.1
theorem jG(b:β)(S:Sto)(k:β->Sto->R γ):(R.ok b S).bind k=k b S:=by have h:=R.bind_ok b S k;exact Eq.trans h rfl
theorem Iq(d:MV)(S:Sto):Hg (some (some d)) S=.ok (.val d) S:=rfl
theorem qE:NP S (S++T):=⟨by rw[lA];lia,λl a=>.inl (á a)⟩
def vY(n:Nat)(i:Int):lo n (.int i):=by unfold lo;trivial
def RM(n:Nat)(i:Db):lo n (.str i):=by unfold lo;trivial
def Yb(n:Nat)(i:Bool):lo n (.bl i):=by unfold lo;trivial
def Bq(n:Nat):lo n .non:=by unfold lo;trivial
def RN{n:Nat}{ds:C1}(h:rY n ds):lo n (.tup ds):=by unfold lo;exact h
theorem gV{n:Nat}: ∀{ds:C1},(∀d∈ds,lo n d)->rY n ds
 |[],_=>by unfold rY;trivial
 |d::ds,h=>by unfold rY;exact⟨h d mF0,gV λe a=>h e (mO _ a)⟩
def Br{d:MV}(h:lo ↑1 d)(a: ∀l,d≠.loc l):jF S (.val d) (S++T)=.ok (.val d) S:=by
 unfold jF;rw[iP qE];have e:(S++T).take ↑1=S:=by simp
 cases d with
 |loc l=>exact absurd rfl (a l)
 |_=>dsimp only;rw[iP h,e]
def Bs{ds:C1}(h:rY ↑1 ds):jF S (.new ds) (S++T)=.ok (.new ds) S:=by
 unfold jF;rw[iP qE];have e:(S++T).take ↑1=S:=by simp
 dsimp only;rw[iP h,e]
theorem Bt{l:Nat}{ds:C1}(b:↑1<=l)(a:(S++T)[l]? =some (.lst ds))(h:rY ↑1 ds):jF S (.val (.loc l)) (S++T)=.ok (.new ds) S:=by
 unfold jF;rw[iP qE];have e:(S++T).take ↑1=S:=by simp
 dsimp only;rw[iN #[0],a];dsimp only;rw[iP h,e]
def EG{n:Nat}{F:List MV->Sto->R Er}{d:MV}(b:rs.length=n)(a:F (zF rs S).1 (zF rs S).2=.ok (.val d) (S++T))(h:lo ↑1 d)(hd: ∀l,d≠.loc l):zK n F rs S=.ok (.val d) S:=by unfold zK;rw[iP b,a];exact Br h hd
def tY{n:Nat}{F:List MV->Sto->R Er}{ds:C1}(b:rs.length=n)(a:F (zF rs S).1 (zF rs S).2=.ok (.new ds) (S++T))(h:rY ↑1 ds):zK n F rs S=.ok (.new ds) S:=by unfold zK;rw[iP b,a];exact Bs h
def tZ{n:Nat}{F:List MV->Sto->R Er}{l:Nat}{ds:C1}(d:rs.length=n)(c:F (zF rs S).1 (zF rs S).2=.ok (.val (.loc l)) (S++T))(a:↑1<=l)(b:(S++T)[l]? =some (.lst ds))(h:rY ↑1 ds):zK n F rs S=.ok (.new ds) S:=by unfold zK;rw[iP d,c];exact Bt a b h
def lX{n:Nat}{F:List MV->Sto->R Er}{d:MV}(b:rs.length=n)(a:F (zF rs S).1 (zF rs S).2=.ok (.val d) S)(h:lo ↑1 d)(hd: ∀l,d≠.loc l):zK n F rs S=.ok (.val d) S:=EG b (by rw[aN];exact a) h hd
section
variable{S:Sto}
theorem Yc(b:Bool)(S:Sto):eC (.val (.bl b)) S=.ok b S:=rfl
theorem as_int(i:Int)(S:Sto):Fg (.val (.int i)) S=.ok (some i) S:=rfl
theorem Ry(b:Bool)(S:Sto):EC (.val (.bl b)) S=.ok b S:=rfl
theorem add_int(i j:Int)(S:Sto):wQ (.val (.int i)) (.val (.int j)) S=.ok (.val (.int (i+j))) S:=rfl
theorem sub_int(i j:Int)(S:Sto):Ax (.val (.int i)) (.val (.int j)) S=.ok (.val (.int (i - j))) S:=rfl
def add_str{x y:Db}(h:x.length+y.length<=sizeLine):wQ (.val (.str x)) (.val (.str y)) S=.ok (.val (.str (x++y))) S:=iP h
def TX{x y:C1}(h:x.length+y.length<=sizeLine):wQ (.val (.tup x)) (.val (.tup y)) S=.ok (.val (.tup (x++y))) S:=iP h
def RO{p q:Er}{x y:C1}(h1:Az S p=some x)(a:Az S q=some y)(h:x.length+y.length<=sizeLine):wQ p q S=.ok (.new (x++y)) S:=by
 have e:TQ p q S=.ok (.new (x++y)) S:=by unfold TQ;rw[h1,a];exact iP h
 unfold wQ;split
 .cases h1
 .cases h1
 .cases h1
 .exact e
theorem Rz{g:Int->Int->Bool}(i j:Int)(S:Sto):Zz g (.val (.int i)) (.val (.int j)) S=.ok (.val (.bl (g i j))) S:=rfl
def Ir(i j:Int):Gu (.int i) (.int j)=decide (i=j):=by
 show(i==j)=_;by_cases h:i=j
 .subst h;simp
 .rw[dF0 h];simpa using h
def Iu(x y:Db):Gu (.str (fX x)) (.str (fX y))=decide (x=y):=by
 show(fX x==fX y)=_;by_cases h:x=y
 .subst h;simp
 .rw[dF0 h];have:=λz=>h (tL z);simpa using this
theorem JZ(n:Nat)(i j:Int):eqv S (n+1) (.int i) (.int j)=some (decide (i=j)):=by rw[<-Ir];rfl
theorem uA(n:Nat)(x y:Db):eqv S (n+1) (.str x) (.str y)=some (decide (x=y)):=by rw[<-Iu];rfl
theorem Sa(n:Nat)(x:Int)(y:Db):eqv S (n+1) (.int x) (.str y)=some false:=rfl
theorem Sb(n:Nat)(x:Db)(y:Int):eqv S (n+1) (.str x) (.int y)=some false:=rfl
theorem Iv(d f:MV):vU (.val d) (.val f) S=match eqv S (zG+1) d f with |some k=>.ok (.val (.bl k)) S|none=>.no:=rfl
theorem Iw(d f:MV):RH (.val d) (.val f) S=match eqv S (zG+1) d f with |some k=>.ok (.val (.bl !k)) S|none=>.no:=rfl
def EH{d f:MV}{k:Bool}(h:eqv S (zG+1) d f=some k):vU (.val d) (.val f) S=.ok (.val (.bl k)) S:=by rw[Iv,h]
def RP{d f:MV}{k:Bool}(h:eqv S (zG+1) d f=some k):RH (.val d) (.val f) S=.ok (.val (.bl !k)) S:=by rw[Iw,h]
def eq_int(i j:Int)(S:Sto):vU (.val (.int i)) (.val (.int j)) S=.ok (.val (.bl (decide (i=j)))) S:=EH (JZ _ i j)
def eq_str(x y:Db)(S:Sto):vU (.val (.str x)) (.val (.str y)) S=.ok (.val (.bl (decide (x=y)))) S:=EH (uA _ x y)
theorem lt_int(i j:Int)(S:Sto):Rh (.val (.int i)) (.val (.int j)) S=.ok (.val (.bl (decide (i<j)))) S:=rfl
theorem lt_str(i j:Db)(S:Sto):Rh (.val (.str i)) (.val (.str j)) S=.ok (.val (.bl (decide (i<j)))) S:=rfl
theorem TZ{b:Int}(h:0<b)(d:b<1073741824)(a:Int)(S:Sto):XH (.val (.int a)) (.val (.int b)) S=.ok (.val (.int (a / b))) S:=by
 refine iP ⟨h,?_⟩;have c:b.natAbs<2 ^ 30:=by omega
 have:=(Nat.log2_lt (by omega:b.natAbs≠0)).mpr c
 lia
def mod_lit{b:Int}(h:0<b)(a:Int)(S:Sto):NS (.val (.int a)) (.val (.int b)) S=.ok (.val (.int (a % b))) S:=iP h
def CW{b:Int}(h: -(2 ^ 64)<b/\b<2 ^ 64)(a:Int)(S:Sto):vT (.val (.int a)) (.val (.int b)) S=.ok (.val (.int (a * b))) S:=iP (Or.inr (Or.inl h))
def NZ{a:Int}(h: -(2 ^ 64)<a/\a<2 ^ 64)(b:Int)(S:Sto):vT (.val (.int a)) (.val (.int b)) S=.ok (.val (.int (a * b))) S:=iP (Or.inl h)
theorem Iy(ρ:Rho)(i:Nat)(d:MV)(S:Sto):GK ρ i (.val d) S=.ok (.next (ρ.set i (some d))) S:=rfl
theorem Iz(ρ:Rho)(i:Nat)(ds:C1)(S:Sto):GK ρ i (.new ds) S=.ok (.next (ρ.set i (some (.loc ↑1)))) (S++[.lst ds]):=rfl
theorem Ja(S:Sto):zF [] S=([],S):=rfl
theorem Jb(d:MV)(rs:List Er)(S:Sto):zF (.val d::rs) S=(d::(zF rs S).1,(zF rs S).2):=rfl
theorem zC{F G:AY}{ρ':Rho}{S:Sto}(h:F ρ S=.ok (.next ρ') S'):zI F G ρ S=G ρ' S':=by unfold zI;rw[h];rfl
theorem mX{F G:AY}{S:Sto}{r:Er}(h:F ρ S=.ok (.ret r) S'):zI F G ρ S=.ok (.ret r) S':=by unfold zI;rw[h];rfl
def nN(S:Sto):stay [] S:=gU
def zZ{b:AY}{gs:C6}{d:MV}{ds:C1}{ρ0 ρ':Rho}{a:Sto}(c:gf d ρ S=.ok ρ0 a)(h:b ρ0 a=.ok (.next ρ') S')(hs:stay gs S'):wF gf b gs (d::ds) ρ S=wF gf b gs ds ρ' S':=by
 conv=>lhs;unfold wF
 rw[c,jG,h,jG];dsimp only;rw[iP hs]
def Jc{b:AY}{gs:C6}{d:MV}{ds:C1}{ρ0:Rho}{a:Sto}{r:Er}(c:gf d ρ S=.ok ρ0 a)(h:b ρ0 a=.ok (.ret r) S'):wF gf b gs (d::ds) ρ S=.ok (.ret r) S':=by
 conv=>lhs;unfold wF
 rw[c,jG,h,jG]
theorem KA{α:Type}{xs:List α}{i:Int}(a:0<=i)(h1:i<xs.length): ∃c,tI xs i=some c:=by refine⟨xs[i.toNat]'#[0],?_⟩;unfold tI JF;rw[iP a,iP h1];exact gE _
def UA{α:Type}{P:α->Prop}{xs:List α}{i:Int}{e:α}(h: ∀e∈xs,P e)(z:tI xs i=some e):P e:=by
 unfold tI at z
 cases q:JF xs.length i with
 |none=>rw[q]at z;cases z
 |some j=>rw[q]at z;exact h e (è z)
def ix_str{x:Db}{i:Int}{c:Nat}(h:x.length<=sizeLine)(a:tI x i=some c):iC (.val (.str x)) (.val (.int i)) S=.ok (.val (.str [c])) S:=by show(if x.length<=sizeLine then match tI x i with |some c=>R.ok _ S|none=>.no else .no)=_;rw[iP h,a]
def RQ{ds:C1}{i:Int}{d:MV}(a:tI ds i=some d):iC (.new ds) (.val (.int i)) S=.ok (.val d) S:=by show(match tI ds i with |some d=>R.ok _ S|none=>.no)=_;rw[a]
def EI{l:Nat}{ds:C1}{i:Int}{d:MV}(a:S[l]? =some (.lst ds))(b:tI ds i=some d):iC (.val (.loc l)) (.val (.int i)) S=.ok (.val d) S:=by
 have e:jL S (.val (.loc l))=some ds:=by unfold jL;dsimp only;rw[a]
 show(match jL S _ with |some ds=>getL ds _ S|none=>.no)=_;rw[e];show(match tI ds i with |some d=>R.ok _ S|none=>.no)=_;rw[b]
def kU{l:Nat}{ds:C1}(a:S[l]? =some (.lst ds)):mW [.val (.loc l)] S=.ok (.val (.int ds.length)) S:=by
 have e:jL S (.val (.loc l))=some ds:=by unfold jL;dsimp only;rw[a]
 have b:itemsOf S (.val (.loc l))=some ds:=by unfold itemsOf;exact e
 show(match itemsOf S _ with |some ds=>R.ok _ S|none=>.no)=_;rw[b]
def lY{l:Nat}{ds:C1}(a:S[l]? =some (.lst ds)):jL S (.val (.loc l))=some ds:=by unfold jL;dsimp only;rw[a]
def UB{l:Nat}{ds:C1}(a:S[l]? =some (.lst ds)):Az S (.val (.loc l))=some ds:=by unfold Az;dsimp only;rw[a]
def xA{l:Nat}{ds:C1}(a:S[l]? =some (.lst ds)):vR (.val (.loc l)) S=.ok ⟨ds,[(l,ds)]⟩ S:=by unfold vR;dsimp only;rw[a]
def yI{l:Nat}{ds:C1}(b:S[l]? =some (.lst ds)):stay [(l,ds)] S:=λp a=>by
 have:=by simpa using a
 subst this;exact b
def vZ{j:Int}(h: -(2 ^ 62)<=j/\j<2 ^ 62):eE [.val (.int j)] S=.ok ⟨(List.range j.toNat).map λk=>.int (k:Nat),[]⟩ S:=iP h
def cut_str{x:Db}(h:x.length<=sizeLine)(lo hi:B7):vV (.val (.str x)) lo hi S=.ok (.val (.str (fY x lo hi))) S:=iP h
def Je{α:Type}(x:List α)(k:Int)(c:0<=k):fY x none (some k)=x.take k.toNat:=by
 unfold fY;have h1:HT.sIx x.length 0 none=0:=rfl;rw[h1];have a:HT.sIx x.length x.length (some k)=min k.toNat x.length:=by unfold HT.sIx;simp only;split<;>omega
 rw[a,drop_zero,Nat.sub_zero];by_cases b:k.toNat<=x.length
 .rw[min_eq_left b]
 .rw[min_eq_right (by omega),take_length,Ā (by omega)]
def fits{n:Nat}(h:n<=1000000):n<=sizeLine:=by rw[Ĕ];exact õ h (by decide)
def sS(h:rs.length<=1000000):xW rs S=.ok (.new (zF rs S).1) (zF rs S).2:=iP (fits h)
def KB(h:rs.length<=1000000):xR rs S=.ok (.val (.tup (zF rs S).1)) (zF rs S).2:=iP (fits h)
def OA(S:Sto):xW [] S=.ok (.new []) S:=sS (by simp)
def lst1(a:MV)(S:Sto):xW [.val a] S=.ok (.new [a]) S:=sS (by simp)
def lst2(a b:MV)(S:Sto):xW [.val a,.val b] S=.ok (.new [a,b]) S:=sS (by simp)
def lst3(a b c:MV)(S:Sto):xW [.val a,.val b,.val c] S=.ok (.new [a,b,c]) S:=sS (by simp)
def lst6(a b c d e f:MV)(S:Sto):xW [.val a,.val b,.val c,.val d,.val e,.val f] S=.ok (.new [a,b,c,d,e,f]) S:=sS (by simp)
def tup2(a b:MV)(S:Sto):xR [.val a,.val b] S=.ok (.val (.tup [a,b])) S:=KB (by simp)
def tup3(a b c:MV)(S:Sto):xR [.val a,.val b,.val c] S=.ok (.val (.tup [a,b,c])) S:=KB (by simp)
theorem Sd(i:Int)(S:Sto):vW [.val (.int i),.val (.typ "str")] S=.ok (.val (.bl false)) S:=rfl
theorem Se(i:Db)(S:Sto):vW [.val (.str i),.val (.typ "str")] S=.ok (.val (.bl true)) S:=rfl
theorem Sf(i:Int)(S:Sto):vW [.val (.int i),.val (.typ "tuple")] S=.ok (.val (.bl false)) S:=rfl
theorem Sh(i:Db)(S:Sto):vW [.val (.str i),.val (.typ "tuple")] S=.ok (.val (.bl false)) S:=rfl
theorem Si(i:C1)(S:Sto):vW [.val (.tup i),.val (.typ "tuple")] S=.ok (.val (.bl true)) S:=rfl
theorem Sj(i:Bool)(S:Sto):vW [.val (.bl i),.val (.typ "bool")] S=.ok (.val (.bl true)) S:=rfl
theorem OB{gf:MV->Rho->Sto->R Rho}{cf:AZ}{ef:AX}{ρb:Rho}{gs:C6}{F:MV->MV}(hs:stay gs S):
  ∀{ds:C1},(∀d∈ds, ∃ρ1,gf d ρb S=.ok ρ1 S/\cf ρ1 S=.ok true S/\ef ρ1 S=.ok (.val (F d)) S)->yE gf cf ef ρb gs ds S=.ok (ds.map F) S
 |[],_=>rfl
 |d::ds,st=>by obtain⟨ρ1,h1,a,b⟩:=st d mF0;have e:=OB hs (ds:=ds) λd hd=>st d (mO _ hd);unfold yE;rw[h1,yL,jG,a,yL,jG,iP rfl,b,yL,jG];unfold wO;rw[jG,iP hs,e];rfl
theorem HX{gf:MV->Rho->Sto->R Rho}{cf:AZ}{ef:AX}{ρb:Rho}{gs:C6}(hs:stay gs S):
  ∀{ds:C1},(∀d∈ds, ∃ρ1,gf d ρb S=.ok ρ1 S/\cf ρ1 S=.ok false S)->yE gf cf ef ρb gs ds S=.ok [] S
 |[],_=>rfl
 |d::ds,st=>by obtain⟨ρ1,h1,a⟩:=st d mF0;have e:=HX hs (ef:=ef) λd hd=>st d (mO _ hd);unfold yE;rw[h1,yL,jG,a,yL,jG,iN xF0,iP hs,e]
def Nm(x:Db):Prop:=1<=x.length/\x.length<=8/\ ∀c∈x,97<=c/\c<=122
def Vl:MV->Prop
 |.int i=> -(10 ^ 30)<i/\i<10 ^ 30
 |.str x=>Nm x
 |_=>False
def Vl.cases{d:MV}(h:Vl d):(∃i,d=.int i/\ -(10 ^ 30)<i/\i<10 ^ 30)\/ ∃x,d=.str x/\Nm x:=by
 cases d with
 |int i=>exact .inl ⟨i,rfl,h⟩
 |str x=>exact .inr ⟨x,rfl,h⟩
 |_=>exact h.elim
end
noncomputable def Ite(K:B9)(k:Bool)(l:Addr):It:=
 ⟨λi H=> ∃xs x,GB k K H l xs/\xs[i]? =some x,
   λi H v H'=> ∃p x,H p=none/\v=.ref p/\H'=xU H p (.tup [.int (i:Nat),x])/\(∀xs,GB k K H l xs->xs[i]? =some x),
   λi H=> ∃xs,GB k K H l xs/\xs.length<=i⟩
section
variable{prog:ō}{w:World}{A:Ō}{E:VP}{s:Ŋ}{k:Bool}{l:Addr}{its:A7}
def XR(e:IsSeq k s.heap l its)
  (h: ∀h',EnSt k (↑0+1) ↑0 l 0 h'->(∀c o,s.heap.get? c=some o->h'.get? c=some o)->Q (.ref (↑0+1)) {s with heap:=h'}):
  wpAny (model prog w) A (call (.type "enumerate") [.ref l]) Q E s:=by
 refine callType_new F.called_enumerate (by decide) (F.typeCall_enumerate_1 _) (F.newCall_enumerate_1 _) (λa=>F.args_object_init_2 a _) F.entry_enumerate_new (RL k l its) ⟨e,?_⟩;have i:(s.heap.push (qC k l)).objs.size=↑0+1:=į ..;have d:=by have:=ã (s.heap.push (qC k l)) (o:={cls:=.type "enumerate",data:=.fields #[.none,.bool false,.ref ↑0,rawInt 0,.none,.none]}) rfl;rw[i]at this;exact this
 refine⟨⟨_,d,rfl⟩,h _ ⟨⟨_,d⟩,IsSub.mk' (hP0 _ (ã _ rfl))⟩ λb o x=>hP0 _ (hP0 _ x)⟩
end
theorem XS{P:ō}{w:World}{K:B9}{elts:B8}{kt:Nat}{pt:Pos}{k:Bool}{e it l:Addr}(hne:e≠it):
  Turn P w K (.Tuple elts kt pt) (Ite K k l) [e,it] e (λi h=>EnSt k e it l i h) where
 mem:=by simp
 obj:=λi h st b hb=>by
  obtain⟨⟨old,he⟩,hs⟩:=st;have hb':b=e\/b=it:=by simpa using hb
  rcases hb' with rfl|rfl
  .exact⟨_,he,λv q=>by cases q⟩
  .exact hs.there
 keep:=λi h h' st kk=>by obtain⟨⟨old,he⟩,hs⟩:=st;exact⟨⟨old,kk e (by simp) _ he⟩,hs.move λo q=>kk it (by simp) o q⟩
 item:=by
  intro X hP hw hK hc i pins s σ H E I hf st hg;subst hP hw hK;obtain⟨xs,x,q1,hx⟩:=hg;obtain⟨its,r1,p1,_⟩:=I.seqK q1;obtain⟨u,hu,ru⟩:=r1.get hx;obtain⟨⟨old,he⟩,hs⟩:=st;have hT:s.TypeIs (.ref e) "enumerate":=⟨_,he,rfl⟩
  unfold pyNext
  refine wB (Ĉ (î hT F.slot_enumerate_next (ì F.slot_enumerate_next hT F.entry_enumerate_next
   (Ip he hs p1 (by simpa using hu) hne λh' a1 a2 a3 a4=>wP ⟨_,rfl,?_⟩) (F.args_enumerate_next_1 _))))
  refine wpAny_letOwnedTupleGo_enum a1 λh2 z2 sb2=>?_;have hpn:H ↑0=none:=I.hok.fresh (à _)
  have I0:Inv X pins σ _ {s with heap:=s.heap.push {cls:=.type "tuple",data:=.seq #[.int i s.toks,u]},toks:=s.toks+1}:=
   I.laid (o:=.tup [.int (i:Nat),x]) (λb o e=>hP0 _ e) (à _) ⟨by show 2<=sizeLine;decide,_,.cons ⟨_,rfl⟩ (.cons ru .nil),⟨_,ã _ rfl,rfl,_,rfl⟩⟩
  have lt: ∀b∈[e,it],b<s.heap.objs.size:=λb hb=>by
   have hb':b=e\/b=it:=by simpa using hb
   rcases hb' with rfl|rfl
   .exact â he
   .obtain⟨o,eo,_⟩:=hs.there;exact â eo
  have fr: ∀b∈[e,it],xU H ↑0 (.tup [.int (i:Nat),x]) b=none:=λb hb=>by rw[zH (ë (lt b hb))];exact(hf b hb).1
  have mv: ∀b o,b∉[e,it]->(s.heap.push {cls:=.type "tuple",data:=.seq #[.int i s.toks,u]}).get? b=some o->h2.get? b=some o:=λb o hb eo=>by
   simp only[mC,nM,or_false,not_or]at hb;refine sb2.extBut _ _ hb.1 ?_;by_cases hbs:b=↑0
   .subst hbs;rw[ã _ rfl]at eo;cases eo;exact a3
   .rw[Heap.get?_push_ne _ _ _ hbs]at eo;exact a4 b o hb.1 hb.2 eo
  have I2:=I0.turnedL (t':=s.toks+1) mv λb hb=>let ⟨_,c2,c3,c4,c5,c6⟩:=hf b hb;⟨fr b hb,c2,c3,c4,c5,c6⟩;refine⟨.ref ↑0,_,I2,rfl,⟨_,x,hpn,rfl,rfl,λzs hz=>?_⟩,⟨⟨u,?_⟩,?_⟩,fr⟩
  .rw[I.seqK_inj hz q1];exact hx
  .simpa using z2
  .exact a2.move λo eo=>sb2.extBut _ _ (Ne.symm hne) eo
 done:=by
  intro X hP hw hK hc i pins s σ H E I hf st hg;subst hP hw hK;obtain⟨xs,q1,hx⟩:=hg;obtain⟨its,r1,p1,_⟩:=I.seqK q1;obtain⟨⟨old,he⟩,hs⟩:=st;have hT:s.TypeIs (.ref e) "enumerate":=⟨_,he,rfl⟩
  have e1:=r1.length;unfold pyNext;refine wB (Ĉ (î hT F.slot_enumerate_next (ì F.slot_enumerate_next hT F.entry_enumerate_next ?_ (F.args_enumerate_next_1 _))));show wpAny _ _ (field (.ref e) 2 >>= _) _ _ _;refine wB (ñ he rfl rfl ?_);refine wB (tX (I.ok.hd hc) hs p1 (by simp;lia) λh' x hk hx'=>?_);obtain⟨o,ho,hcl⟩:=hx';refine wB (Ġ ⟨o,ho,hcl⟩ isSubtype_stop (wP ⟨rfl,?_⟩));refine I.turnedL (λb o hb eo=>?_) hf;simp only[mC,nM,or_false,not_or]at hb;exact hk b o hb.2 eo
 self:=λ_ _ _ _ _ st h=>let ⟨⟨_,he⟩,_⟩:=st;wpAny_pyIter_enum he h
def Yd(K:B9)(ta:TA):TI:=λσ H R=>ta σ H λvs H1=> ∃k l,vs=[.ref l]/\(∃xs,GB k K H1 l xs)/\R (Ite K k l) H1
section
variable{X:Cx}{W:XW}{a:Expr}{elts:B8}{kt:Nat}{pt p pos:Pos}{ta:TA}{af:Rho->Sto->R (List Er)}
def Jf(u:Gl X "enumerate")(z:X.mg "enumerate"=none)(w:PA X [a] ta)(hs:starEach [a] X.env=[(false,eval a X.env)]:=by rfl):
  PI X (.Tuple elts kt pt) (.Call (.Name "enumerate" p) [a] [] pos) (Yd X.K ta):=by
 intro pins s σ H R I h;refine Call_ (mQ I u z Io (Č (jI (w pos pins s σ H _ I h) λus e ⟨vs,H1,I1,o,i⟩=>?_) (by rw[hs];rfl) (by rfl)));obtain⟨k,l,rfl,⟨xs,y⟩,q⟩:=i
 cases o with
 |cons r rr=>
  cases rr;cases r;obtain⟨its,A,p1,_⟩:=I1.seqK y;refine XR p1 λh' st j=>let ⟨⟨_,v⟩,_⟩:=id st;wpAny_pyIter_enum v ?_;have m:Inv X pins σ H1 {e with heap:=h'}:=I1.kept j;refine⟨_,_,_,_,H1,rfl,m,XS (ø (Nat.lt_succ_self _)),st,λb n=>?_,q⟩
  have c:e.heap.objs.size<=b:=by
   have d:=by simpa using n
   rcases d with h|h<;>rw[h]<;>(first |exact à _|exact đ _ _)
  exact I1.fpOk c (I1.hok.fresh c)
noncomputable def RR(xs:C1):List MV:=xs.zipIdx.map λp=>.tup [.int (p.2:Nat),p.1]
def Ye(rs:List Er)(S:Sto):R Wk:=match rs with
 |[p]=>match srcOf S p with
  |some a=>.ok ⟨RR a.ds,a.gs⟩ S
  |none=>.no
 |_=>.no
theorem Jg(O:Gl X "enumerate")(Q:X.mg "enumerate"=none)(s:CS X W [a] af)(hs:starEach [a] X.env=[(false,eval a X.env)]:=by rfl):
  HN X W (.Tuple elts kt pt) (.Call (.Name "enumerate" p) [a] [] pos) (λρ S=>(af ρ S).bind Ye):=by
 obtain⟨t,s,k⟩:=s;refine⟨_,Jf O Q s hs,λα ρ S σ H U J sl q=>k α ρ S σ H _ J sl (q.bind λvs rs S1 r H1 e P D I b=>?_)⟩
 replace b:=b.shift P
 unfold Ye at b;split at b
 .rename_i Z;split at b
  .rename_i j G;obtain⟨u,rfl,M⟩:=HP I;obtain⟨l1,F,rfl,p1,c⟩:=vX D G M;have N:=c.get _ _ _ p1;have y:(RR j.ds).length=j.ds.length:=by unfold RR;rw[lM,List.length_zipIdx]
   refine⟨j.k,l1,rfl,⟨_,N.choose_spec.1⟩,b.here D ⟨λα S H=>F α S H,?_,p1,?_,?_⟩⟩
   .intro i m S2 K h E;obtain⟨us,v,z⟩:=c.get _ _ _ h;have hl:=z.length;refine⟨λhi=>?_,λhi=>?_⟩
    .have hi:i<(RR j.ds).length:=hi;have h1:i<us.length:=by lia
     refine⟨⟨us,_,v,gE h1⟩,?_⟩;rintro x H' ⟨Y,C,A,rfl,rfl,T⟩;obtain⟨d,hd,L⟩:=z.get (T us v);have n:=E.newx (o:=.tup [.int (i:Nat),C]) A;have B:=E.new (o:=.tup [.int (i:Nat),C]) A;refine⟨n,B,c.stays _ _ _ _ _ _ h n B (c.st _ _ _ h),.tup [.int (i:Nat),d],?_,?_⟩
     .unfold RR;rw[ö,List.getElem?_zipIdx,hd];simp
     .exact nP (.of zT) (zR (yZ _) (zR (L.ext n) zX))
    .have hi:(RR j.ds).length<=i:=hi;exact⟨us,v,by lia⟩
   .intro r S1 H1 m S2 K h x w hs;exact c.stays _ _ _ _ _ _ h x w hs
   .exact c.st _ _ _ p1
  .exact b.elim
 .exact b.elim
end
instance:DecidableEq MV:=λ_ _=>Classical.propDecidable _
def look(kvs:C7)(k:MV):Option MV:=(kvs.find? λp=>decide (p.1=k)).map (·.2)
def putK(kvs:C7)(k d:MV):List (MV×MV):=if(look kvs k).isSome=true then kvs.map (λp=>if p.1=k then(p.1,d)else p)else kvs++[(k,d)]
noncomputable def sT:MV->Bool
 |.tup _=>true
 |_=>false
theorem OC:xD .non=some (.key none):=by unfold xD;rfl
theorem eI(i:Int):xD (.int i)=some (.key (some (.inl i))):=by unfold xD;rfl
theorem eK(x:Db):xD (.str x)=some (.key (some (.inr (fX x)))):=by unfold xD;rfl
def eM(ds:C1):xD (.tup ds)=(jE ds).map .tup:=by
 conv=>lhs;unfold xD
theorem qZ:jE []=some []:=by unfold jE;rfl
def eO(d:MV)(ds:C1):jE (d::ds)=(xD d).bind λk=>(jE ds).map (k::·):=by
 conv=>lhs;unfold jE
mutual
theorem uB: ∀{d e:MV}{k:NK},xD d=some k->xD e=some k->d=e
 |.int i,e,k,hd,a=>by
  rw[eI]at hd;cases hd
  cases e with
  |int j=>rw[eI]at a;cases a;rfl
  |str x=>rw[eK]at a;cases a
  |tup ds=>rw[eM]at a;cases z:jE ds<;>rw[z]at a<;>cases a
  |_=>unfold xD at a;cases a
 |.str x,e,k,hd,a=>by
  rw[eK]at hd;cases hd
  cases e with
  |int j=>rw[eI]at a;cases a
  |str y=>
   rw[eK]at a;have a:=å a;injection a with a
   injection a with a
   injection a with a
   rw[tL a]
  |tup ds=>rw[eM]at a;cases z:jE ds<;>rw[z]at a<;>cases a
  |_=>unfold xD at a;cases a
 |.tup ds,e,k,hd,a=>by
  rw[eM]at hd
  cases z:jE ds with
  |none=>rw[z]at hd;cases hd
  |some ks=>
   rw[z]at hd;cases hd
   cases e with
   |int j=>rw[eI]at a;cases a
   |str y=>rw[eK]at a;cases a
   |tup es=>
    rw[eM]at a
    cases b:jE es with
    |none=>rw[b]at a;cases a
    |some ks'=>rw[b]at a;cases a;rw[HY z b]
   |_=>unfold xD at a;cases a
 |.non,e,k,hd,a=>by
  rw[OC]at hd;cases hd
  cases e with
  |non=>rfl
  |int j=>rw[eI]at a;cases a
  |str x=>rw[eK]at a;cases a
  |tup ds=>rw[eM]at a;cases z:jE ds<;>rw[z]at a<;>cases a
  |_=>unfold xD at a;cases a
 |.bl _,e,k,hd,a=>by unfold xD at hd;cases hd
 |.scr _,e,k,hd,a=>by unfold xD at hd;cases hd
 |.loc _,e,k,hd,a=>by unfold xD at hd;cases hd
 |.typ _,e,k,hd,a=>by unfold xD at hd;cases hd
 |.obj _ _ _,e,k,hd,a=>by unfold xD at hd;cases hd
theorem HY: ∀{ds es:C1}{ks:List NK},jE ds=some ks->jE es=some ks->ds=es
 |[],es,ks,hd,he=>by
  rw[qZ]at hd;cases hd
  cases es with
  |nil=>rfl
  |cons e es=>
   rw[eO]at he;cases z:xD e<;>rw[z]at he
   .cases he
   .cases a:jE es<;>rw[a]at he<;>cases he
 |d::ds,es,ks,hd,he=>by
  rw[eO]at hd
  cases z:xD d with
  |none=>rw[z]at hd;cases hd
  |some k=>
   rw[z]at hd
   cases a:jE ds with
   |none=>rw[a]at hd;cases hd
   |some ks2=>
    rw[a]at hd
    cases es with
    |nil=>rw[qZ]at he;cases he;cases hd
    |cons e es=>
     rw[eO]at he
     cases b:xD e with
     |none=>rw[b]at he;cases he
     |some k'=>
      rw[b]at he
      cases c:jE es with
      |none=>rw[c]at he;cases he
      |some ks4=>
       rw[c]at he;cases hd;cases he;rw[uB z b,HY a c]
end
section
variable{X:Cx}{pins:B5}{σ:St}{H:Hp}{s:Ŋ}{α:A9}
mutual
theorem AA(I:↑2): ∀{d:MV}{k:NK}{x:V}{u:ŋ},xD d=some k->Den X.K α H d x->RelV x u->GI (mk X.prog X.w) s.heap k u
 |.int i,k,x,u,hk,hd,r=>by rw[eI]at hk;cases hk;cases xM hd;obtain⟨t,rfl⟩:=r;exact xV.mpr (by show lR (.inl i) (.int i t)=true;simp[lR,Value.isInt])
 |.str y,k,x,u,hk,hd,r=>by rw[eK]at hk;cases hk;cases xN hd;obtain⟨t,rfl⟩:=r;exact xV.mpr (by show lR (.inr (fX y)) (.str (fX y) t)=true;simp[lR,Value.isStrOf])
 |.tup ds,k,x,u,hk,hd,r=>by
  rw[eM]at hk
  cases z:jE ds with
  |none=>rw[z]at hk;cases hk
  |some ks=>
   rw[z]at hk;cases hk;obtain⟨a,vs,rfl,h,l⟩:=yO hd;cases r;obtain⟨its,c,pt,_⟩:=I.tuple h;obtain⟨o,j,e,n,b⟩:=pt;exact xI.mpr ⟨a,o,its.toArray,n,rfl,j,e,b,by simpa using UC I z l c⟩
 |.non,k,x,u,hk,hd,r=>by rw[OC]at hk;cases hk;cases dN hd;cases r;exact xV.mpr rfl
 |.bl _,k,x,u,hk,hd,r=>by unfold xD at hk;cases hk
 |.scr _,k,x,u,hk,hd,r=>by unfold xD at hk;cases hk
 |.loc _,k,x,u,hk,hd,r=>by unfold xD at hk;cases hk
 |.typ _,k,x,u,hk,hd,r=>by unfold xD at hk;cases hk
 |.obj _ _ _,k,x,u,hk,hd,r=>by unfold xD at hk;cases hk
theorem UC(I:↑2): ∀{ds:C1}{ks:List NK}{xs:List V}{us:A0},jE ds=some ks->DenL X.K α H ds xs->Vals xs us->pX (mk X.prog X.w) s.heap ks us
 |[],ks,xs,us,hk,hd,r=>by rw[qZ]at hk;cases hk;cases hd.isnil;cases r;exact wD.mpr rfl
 |d::ds,ks,xs,us,hk,hd,r=>by
  rw[eO]at hk;obtain⟨v,vs,rfl,a,l⟩:=hd.uncons
  cases r with
  |cons r1 r2=>
   cases z:xD d with
   |none=>rw[z]at hk;cases hk
   |some k=>
    rw[z]at hk
    cases b:jE ds with
    |none=>rw[b]at hk;cases hk
    |some ks2=>
     rw[b]at hk;cases hk;exact yK.mpr ⟨_,_,rfl,AA I z a r1,UC I b l r2⟩
end
def DD(X:Cx)(H:Hp)(d:Addr)(xs:List (NK×Addr×ŋ)):Prop:=H d=some (DN X.prog X.w d xs)\/(xs=[]/\H d=some (.dK []))
def DD.nf{d:Addr}{xs:List (NK×Addr×ŋ)}(h:DD X H d xs): ∀a u,H d≠some (.frz a u):=h.elim (λz=>Ff z) λz=>by first |exact Ff z.2|exact z.elim
def Yf{S:Sto}{d:Addr}(ob:ObD X.g α H d (.dic kvs))(b:kvs.all (λp=>sT p.1)=true): ∃xs,DD X H d xs/\DenN X.K α H kvs xs:=by
 rcases ob with⟨ks,h,l⟩|⟨xs,h,l⟩
 .cases l with
  |nil=>exact⟨[],.inr ⟨rfl,h⟩,.nil⟩
  |@cons k k' dd v fs gs hkd a l=>
   rw[List.all_cons,aE]at b
   cases k with
   |tup ds=>exact absurd hkd (by unfold KeyD;exact λz=>z)
   |_=>exact absurd b.1 xF0
 .exact⟨xs,.inl h,l⟩
theorem KC(I:↑2): ∀{kvs:C7}{xs:List (NK×Addr×ŋ)},DenN X.K α H kvs xs-> ∀x∈xs,(zV X.prog X.w).is s.heap x.1 x.2.1
 |_,_,.nil=>λx b=>by simp at b
 |_,_,.cons k e a d r l=>λx b=>by
  rcases mC.mp b with rfl|b
  .exact⟨AA I k a rfl,e⟩
  .exact KC I l x b
def rA(I:↑2){xs:List (NK×Addr×ŋ)}{d:Addr}(h:DD X H d xs)(l:DenN X.K α H kvs xs):s.heap.DictOfH (zV X.prog X.w) d xs/\xs.length<=sizeLine/\(d==sysModules)=false:=by
 rcases h with h|⟨rfl,h⟩
 .obtain⟨⟨m,hs,o,es,ep,j,i,hd,c,q⟩,_⟩:=(I.hok d _ h)
  exact⟨⟨o,es,ep,j,i,hd,c,KC I l,q⟩,m,hs⟩
 .obtain⟨_,hs,vs,n,o,es,ep,j,i,hd,_,k,_⟩:=(I.hok d _ h)
  cases n;have c:es.toList=[]:=by cases e:es.toList with |nil=>rfl|cons a b=>rw[e]at k;cases k
  exact⟨⟨o,es,ep,j,i,hd,by rw[c];rfl,λx p=>by simp at p,nodup_nil⟩,zero_le _,hs⟩
def yY(p:MV×MV)(kvs:C7)(k:MV):look (p::kvs) k=if p.1=k then some p.2 else look kvs k:=by
 unfold look;rw[find?_cons];by_cases h:p.1=k
 .rw[dT0 h,iP h];rfl
 .rw[dF0 h,iN h]
def sU(x:NK×Addr×ŋ)(xs:List (NK×Addr×ŋ))(k:NK):atKey (x::xs) k=if x.1=k then some x.2 else atKey xs k:=by
 unfold atKey;rw[find?_cons];by_cases h:x.1=k
 .rw[dT0 h,iP h];rfl
 .rw[dF0 h,iN h]
theorem CY: ∀{kvs:C7}{xs:List (NK×Addr×ŋ)}{k:MV}{nk:NK},DenN X.K α H kvs xs->xD k=some nk->(atKey xs nk).isSome=(look kvs k).isSome
 |_,_,k,nk,.nil,hk=>rfl
 |_,_,k,nk,.cons (k:=k') (nk:=nk') hk' e a d r l,hk=>by
  rw[yY,sU];by_cases h:k'=k
  .subst h;have:=by rw[hk]at hk';exact(å hk').symm
   rw[iP this,iP rfl];rfl
  .have:nk'≠nk:=λz=>h (uB hk' (by rw[hk,z]));rw[iN this,iN h];exact CY l hk
theorem KD: ∀{kvs:C7}{xs:List (NK×Addr×ŋ)}{k d:MV}{nk:NK}{v:V}{u:ŋ},DenN X.K α H kvs xs->xD k=some nk->Den X.K α H d v->RelV v u->DenN X.K α H (kvs.map λp=>if p.1=k then(p.1,d)else p) (xs.map (putAt nk u))
 |_,_,k,d,nk,v,u,.nil,hk,hd,r=>.nil
 |_,_,k,d,nk,v,u,.cons (k:=k') (nk:=nk') hk' e a dd rr l,hk,hd,r=>by
  rw[ä,ä];unfold putAt;by_cases h:k'=k
  .have b:=by subst h;rw[hk]at hk';exact(å hk').symm
   rw[iP h,iP b];exact .cons hk' e a hd r (KD l hk hd r)
  .have b:nk'≠nk:=λz=>h (uB hk' (by rw[hk,z]));rw[iN h,iN b];exact .cons hk' e a dd rr (KD l hk hd r)
theorem DenN.append: ∀{kvs b:C7}{xs c:List (NK×Addr×ŋ)},DenN X.K α H kvs xs->DenN X.K α H b c->DenN X.K α H (kvs++b) (xs++c)
 |_,_,_,_,.nil,h=>h
 |_,_,_,_,.cons hk e a d r l,h=>.cons hk e a d r (DenN.append l h)
def KE{xs:List (NK×Addr×ŋ)}{k d:MV}{nk:NK}{a:Addr}{u:ŋ}(l:DenN X.K α H kvs xs)(c:xD k=some nk)(e:aX nk<=4)(i:Den X.K α H k (.ref a))(hd:Den X.K α H d v)(r:RelV v u):DenN X.K α H (putK kvs k d) (storedH xs nk a u):=by
 unfold putK;have b:=CY l c;by_cases h:(look kvs k).isSome=true
 .rw[iP h];rw[h]at b;obtain⟨p,j⟩:=ï.mp b;rw[storedH_old j];exact KD l c hd r
 .rw[iN h]
  have m:atKey xs nk=none:=by
   cases z:atKey xs nk with
   |none=>rfl
   |some p=>rw[z]at b;exact absurd b.symm h
  rw[storedH_new m];exact l.append (.cons c e i hd r .nil)
end
section
variable{X:Cx}{W:XW}{a b o i:Expr}{f g:AX}{pos:Pos}
def KF{pins:B5}{s:Ŋ}(I:↑2):sysModules<s.heap.objs.size:=lt_trans (by decide) ((I.mod.glob.keeps I.bk).lt)
theorem Wd.put{i:Gm}{p:Addr}{ho:HO}{m:MO}(w:Wd i α S H)(e:H p=none)(q:ObD i (α++[p]) (xU H p ho) p m):Ext α H (α++[p]) (xU H p ho)/\Wd i (α++[p]) (S++[m]) (xU H p ho):=by
 have x:=w.newx (o:=ho) e;have s:=w.new (o:=ho) e;have n:=w.fresh e;refine⟨⟨⟨⟨[p],rfl⟩,x.tup,x.frz⟩,λb y=>?_,x.keep,x.has⟩,⟨?_,?_,λl c v h1 d=>?_⟩⟩
 .rcases é.mp y with h|h
  .exact .inl h
  .rw[mS.mp h];exact .inr e
 .rw[lA,lA,w.len];rfl
 .exact ĥ.mpr ⟨w.nd,by simp,λa r c u=>by rw[mS.mp u];rintro rfl;exact n r⟩
 .by_cases k:l<α.length
  .rw[á k]at h1;rw[á (by rw[<-w.len];exact k)]at d;exact(s.obj l c v h1 d).move (Ex0.grow α [p] _) rfl
  .have j:l=α.length:=by
    have:=(gS.mp h1).1;rw[lA,lS]at this
    lia
   subst j;rw[æ (à _),sub_self]at h1;rw[æ (by rw[w.len];exact à _),w.len,sub_self]at d;cases h1;cases d;exact q
noncomputable def EK(S:Sto):R Er:=.ok (.val (.loc ↑1)) (S++[.dic []])
def Bu:zN X W (.Dict [] [] pos) (λ_ S=>EK S):=by
 refine⟨λσ H Q=> ∀p,H p=none->Q (.ref p) (xU H p (.dK [])),λpins s σ H Q I h=>?_,λα ρ S σ H Q a sl q p c=>?_⟩
 .exact wpAny_Dict_empty ⟨.ref ↑0,_,I.laid (o:=.dK []) (λ_ _ q=>hP0 _ q) (à _)
   ⟨zero_le _,ŀ.mpr (Ne.symm (ë (KF I))),[],.nil,Heap.DictOf.new s.heap⟩,rfl,h _ (I.hok.fresh (à _))⟩
 .obtain⟨x,b⟩:=a.put (m:=.dic []) c (.inl ⟨[],zT,.nil⟩);exact q _ _ _ x b (DenE.val (mV (by rw[<-a.len,æ (à _),sub_self];rfl)))
def bT(S:Sto):Er->Option (Nat×List (MV×MV))
 |.val (.loc l)=>match S[l]? with
  |some (.dic kvs)=>if kvs.all (λp=>sT p.1)=true then some (l,kvs)else none
  |_=>none
 |_=>none
def keyOk(k:MV):Bool:=sT k&&(match xD k with |some nk=>decide (aX nk<=4)|none=>false)
def uC{k:MV}(h:keyOk k=true): ∃a,xD k=some a/\aX a<=4/\sT k=true:=by
 unfold keyOk at h;rw[aE]at h
 cases z:xD k with
 |none=>rw[z]at h;exact absurd h.2 xF0
 |some a=>rw[z]at h;exact⟨a,rfl,Ę h.2,h.1⟩
def sV(i:Wd X.g α S H){r:Er}{x:V}{l:Nat}(e:bT S r=some (l,kvs))(d:DenX X.K α H r x):
  ∃c xs,x=.ref c/\α[l]? =some c/\S[l]? =some (.dic kvs)/\DD X H c xs/\DenN X.K α H kvs xs:=by
 unfold bT at e;split at e
 .rename_i n;obtain⟨c,rfl,h⟩:=aZ d;split at e
  .rename_i k a;split at e
   .rename_i j;obtain⟨rfl,rfl⟩:=Prod.mk.inj (å e);obtain⟨xs,b,l⟩:=Yf (S:=S) (i.obj _ c _ h a) j;exact⟨c,xs,rfl,h,a,b,l⟩
   .cases e
  .cases e
 .cases e
def CZ{k:MV}{x:V}(h:sT k=true)(d:Den X.K α H k x): ∃a,x=.ref a:=by
 cases k with
 |tup ds=>obtain⟨a,_,rfl,_⟩:=yO d;exact⟨a,rfl⟩
 |_=>exact absurd h xF0
def Yg(X:Cx):TSet:=λo i v H Q=> ∃(α:A9)(kvs:C7)(xs:List (NK×Addr×ŋ))(a d:Addr)(k:MV)(nk:NK),o=.ref d/\i=.ref a/\DD X H d xs/\DenN X.K α H kvs xs/\xD k=some nk/\aX nk<=4/\Den X.K α H k (.ref a)/\xs.length<sizeLine/\
 ∀u,RelV v u->Q (xU H d (DN X.prog X.w d (storedH xs nk a u)))
def sW{xs:List (NK×Addr×ŋ)}{k:NK}{a:Addr}{u:ŋ}:(storedH xs k a u).length<=xs.length+1:=by
 cases h:atKey xs k with
 |none=>rw[storedH_new h,lA];exact à _
 |some p=>rw[storedH_old h,lM];exact le_succ _
theorem XT(hu:X.A.units+64<cLine):Fz X (Yg X):=by
 intro pins s σ H o i v ov iv u Q I Y L E h;obtain⟨α,kvs,xs,a,d,k,N,rfl,rfl,D,l,F,e,P,hz,q⟩:=h;cases Y;cases L;obtain⟨U,B,hs⟩:=rA I D l;refine wpAny_setItem_heap (knd:=zV X.prog X.w) (show X.A.units+1+4<cLine by omega) ⟨AA I F P rfl,e⟩ U (λh' C n=>⟨_,?_,q u E⟩) B;have K:Od (H d):=by rcases D with z|⟨_,z⟩<;>rw[z]<;>exact trivial
 obtain⟨m,es,ep,p,T,hd,O,_,Z⟩:=C;refine I.write K (.inl rfl) (λb uo M G=>(n.2 b M).trans G) ⟨m,p⟩ ?_;refine⟨⟨by have:=sW (xs:=xs) (k:=N) (a:=a) (u:=u);lia,hs,m,es,ep,p,T,hd,O,Z⟩,⟨m,p⟩,?_⟩;rintro h1 h2 ⟨J,W,o',j,y,c,r⟩ S;exact⟨J,W,o',j,y,S o' c,r⟩
noncomputable def HZ(p q:Er)(d:MV)(ρ:Rho)(S:Sto):R Rho:=match q with
 |.val k=>match bT S p with
  |some (l,kvs)=>if keyOk k=true/\kvs.length<1000000 then .ok ρ (S.set l (.dic (putK kvs k d)))else .no
  |none=>.no
 |_=>.no
theorem DenN.length: ∀{kvs xs},DenN X.K α H kvs xs->xs.length=kvs.length
 |_,_,.nil=>rfl
 |_,_,.cons _ _ _ _ _ l=>by rw[lC,lC,DenN.length l]
def Jh(P:X.A.units+64<cLine)(ho:zN X W o f)(hi:zN X W i g)
  (ha: ∀v,assign (.Subscript o i pos) X.env v=(do
   let ov <-holding [v] (eval o X.env);let E <-holding [v,ov] (eval i X.env)
   standAt pos
   holding [v,ov,E] (setItem ov E v)
   release [v,ov,E] []):=by intro _;rfl):XC X W (.Subscript o i pos) (λd ρ S=>(f ρ S).bind λp S1=>(g ρ S1).bind λq S2=>HZ p q d ρ S2):=by
 obtain⟨to,ho,O⟩:=ho;obtain⟨ti,hi,T⟩:=hi;refine⟨_,QO ho hi (XT P) ha,λα ρ S σ H d v Q N sl U q=>O α ρ S σ H _ N sl (q.bind λu p S1 B H1 e1 h w1 M L=>T B ρ S1 σ H1 _ w1 (sl.ext h) ((L.shift h).bind λu2 p2 S2 b H2 e2 j D y a=>?_))⟩
 replace a:=a.shift j
 have z:=DenX.ext j M.1;have m:=(U.ext h).ext j;unfold HZ at a;split at a
 .rename_i k;split at a
  .rename_i l kvs e;split at a
   .rename_i G;obtain⟨I,h1,F,Y⟩:=uC G.1;obtain⟨c,xs,rfl,J,hS,r,C⟩:=sV D e z;obtain⟨K,rfl⟩:=CZ Y y.1;refine⟨b,kvs,xs,K,c,k,I,rfl,rfl,r,C,h1,F,y.1,?_,λu Z=>?_⟩
    .rw[C.length];exact ç G.2 (fits (à _))
    .have s:=D.writex J r.nf (o:=DN X.prog X.w c (storedH xs I K u));have n:=((sl.ext h).ext j).ext s;exact a σ b _ s (D.write J r.nf (.inr ⟨_,zT,(KE C h1 F y.1 m Z).ex0 s.toEx0⟩)) n
   .exact a.elim
  .exact a.elim
 .exact a.elim
end
def FsD(g:Gm)(α:A9)(H:Hp)(d:Option Addr)(fs:List (Str×MV)):Prop:=fs=[]\/ ∃a gs od,d=some a/\H a=some (.frz od (.xd gs))/\DenF g.K α H fs gs
abbrev WE(g:Gm)(E:XK):XW:=λc fs _ α H=> ∀C d,g.mg c=some (.ref C)->FsD g α H d fs->E (.ref C) d H
noncomputable def Sk:MV->Bool
 |.non=>true
 |.bl _=>true
 |.int _=>true
 |.str _=>true
 |_=>false
def Post.wmono[Dn β τ]{g:Gm}{W a:XW}(f: ∀c fs S α' H',W c fs S α' H'->a c fs S α' H'): ∀{m:R β}{Q:τ->Hp->Prop},Post g W α H m Q->Post g a α H m Q
 |.ok b S,Q,q=>q
 |.exc c fs S,_,q=>λα' H' x w=>f _ _ _ _ _ (q α' H' x w)
 |.no,_,q=>q
def XCl(K:B9)(C:Addr)(j:A0)(a:Option ŋ):Prop:=
 ∃e q N bs hd o b k c d i k1 k2 m h,K.lookup C=some (excClassObj e q C N bs j hd o b k c d i k1 k2 m h "ValueError.__new__")/\PySem.W.nsOkIn K N=true/\PySem.W.nsIn K N "__init__"=some a/\(∀n∈qn,PySem.W.nsIn K N n=some none)/\hd=true
def XEach(K:B9)(mg:B3)(M:Addr):List (Str×Addr)->Prop
 |[]=>True
 |(c,C)::r=>(mg c=some (.ref C)/\ ∃i,XCl K C (.ref M::Zx) i)/\XEach K mg M r
theorem XEach.at{K:B9}{mg:B3}{M:Addr}: ∀{cs:List (Str×Addr)},XEach K mg M cs-> ∀{c C},(c,C)∈cs->mg c=some (.ref C)/\ ∃i,XCl K C (.ref M::Zx) i
 |_::r,h,c',C',z=>by
  rcases mC.mp z with z|z
  .cases z;exact h.1
  .exact XEach.at h.2 z
def spX(g:Gm)(n:Nat)(F:List MV->Sto->R Er):Sp:=λvs H Q E=> ∃α S ds,Wd g α S H/\DenL g.K α H ds vs/\ds.length=n/\Post g (WE g E) α H (F ds S) Q
def UD(n:Nat)(F:List MV->Sto->R Er)(rs:List Er)(S:Sto):R Er:=if rs.length=n then(match F (zF rs S).1 (zF rs S).2 with
 |.ok r S2=>jF S r S2
 |.exc c fs S2=>if fs.all (λp=>Sk p.2)=true then(jF S (.val .non) S2).bind λ_ a=>.exc c fs a else .no
 |.no=>.no)else .no
section
variable{P:ō}{w:World}{K:B9}{mg:B3}{base:Heap}
def _root_.L2.FnOk.noX{k n:Nat}{f:Addr}{fd:FuncData}{ps:B0}{g:Gm}{F:List MV->Sto->R Er}(G:FnOk P w K mg base (CXe P w) k f fd ps (spX g n F)):FnOk P w K mg base DT k f fd ps (RD g n F):=by
 have c: ∀{vs H Q}, ∀{E},RD g n F vs H Q E->spX g n F vs H Q E0:=λ⟨α,S,ds,h1,j,o,q⟩=>⟨α,S,ds,h1,j,o,q.wmono λ_ _ _ _ _ z=>z.elim⟩
 refine⟨λvs H Q E h=>G.len vs H Q E0 (c h),λA a s H b us vs Q E i p m u h=>codeAny_mono (G.run A a s H b us vs Q E0 i p m u (c h)) λr s' d=>?_⟩
 cases r with
 |error e=>
  obtain⟨_,_,_,_,_,_,_,_,_,_,_,_,_,_,_,z⟩:=d;exact z
 |ok fl=>cases fl<;>exact d
end
end M
end L2
namespace L2
open PySem PySem.Spec PyProof.Rows
structure Out(X:Cx)(pins:B5)(H:Hp)(s:Ŋ)(b:Addr):Prop where
 s0:X.s₀.heap.get? b=none
 h:H b=none
 pin: ∀p∈X.pn++pins,p.1≠b
 fld: ∃o vs,s.heap.get? b=some o/\o.data=.fields vs
section
variable{X:Cx}{pins:B5}{σ:St}{H:Hp}{s:Ŋ}{e b:Addr}
def Out.ne(o:Out X pins H s b){c:Addr}{a:Obj}(d:s.heap.get? c=some a)(nf: ∀vs,a.data≠.fields vs):c≠b:=λz=>by obtain⟨h,vs,h1,e⟩:=o.fld;rw[z,h1]at d;cases d;exact nf vs e
def Out.loc(o:Out X pins H s b)(I:↑2):X.env.locals≠b:=by obtain⟨m,⟨c,es,ep,h1,a,_⟩,_⟩:=I.loc;exact o.ne h1 λvs z=>by rw[a]at z;cases z
def HdA(A:Ō)(H:Hp):Prop:= ∃e a u,A.handled=some (.ref e)/\H e=some (.frz a u)/\ ∃vs,a.data=.fields vs/\vs[2]? =some .none
end
end L2
namespace L2
namespace M
open PySem PySem.Spec PyProof.Rows
noncomputable def endF(i:Nat):Fl->Sto->R Fl
 |.next ρ,S=>.ok (.next (ρ.set i none)) S
 |.ret r,S=>.ok (.ret r) S
 |.brk ρ,S=>.ok (.brk (ρ.set i none)) S
 |.cont ρ,S=>.ok (.cont (ρ.set i none)) S
def Sl(a:B0)(i:Nat)(kn:Er->Sto->R Fl)(b:AY)(ρ:Rho):R Er->R Fl
 |.ok r S=>kn r S
 |.exc c fs S=>if c∈a then(noX (b (ρ.set i (some (.loc S.length))) (S++[.ins c fs]))).bind (endF i)else .no
 |.no=>.no
end M
end L2
namespace Srt
open PySem PyProof.Rows
def nQ:Bool->Keyed->Array Keyed->Nat->Nat->Nat->StateT SortSt Sem (Option Nat):=sortPriv% PySem.Builtin.gallop
def wL:Nat->StateT SortSt Sem Unit:=sortPriv% PySem.Builtin.setMinGallop
def EL:Array Keyed->Array Keyed->StateT SortSt Sem (Array Keyed):=sortPriv% PySem.Builtin.mergeLo
def EM:Array Keyed->Array Keyed->StateT SortSt Sem (Array Keyed):=sortPriv% PySem.Builtin.mergeHi
section
variable{M:Model}{A:Ō}{E:VP}{s:Ŋ}{σ:Type}
def Ji{x:σ}{Q:PUnit->σ->Prop}{st:σ}(h:Q ⟨⟩ x):wpS M A E s (set x:StateT σ Sem PUnit) Q st:=by unfold wpS;rw[StateT.run_set];exact wP ⟨rfl,h⟩
def eP{x:String}{Q:Unit->σ->Prop}{st:σ}(h:Q () st):wpS M A E s (liftM (rule x):StateT σ Sem Unit) Q st:=wpS_lift (ĕ ⟨rfl,h⟩)
end
end Srt
set_option autoImplicit false
namespace Srt
variable{β:Type}{le:β->β->Prop}
structure Two(le:β->β->Prop)(T out xs ys:List β):Prop where
 hx:(out++xs).Pairwise le
 hy:(out++ys).Pairwise le
 pm:(out++(xs++ys)).Perm T
def Two.movexs{T out e xs ys:List β}(h:Two le T out (e++xs) ys)(j: ∀z,z∈e-> ∀y,y∈ys->le z y):Two le T (out++e) xs ys:=by
 refine⟨by simpa only[aA]using h.hx,?_,by simpa only[aA]using h.pm⟩;have a:=ê.mp h.hx;have b:=ê.mp h.hy;have c:=ê.mp a.2.1;refine ê.mpr ⟨ê.mpr ⟨a.1,c.1,λx i y d=>a.2.2 x i y (ă _ d)⟩,b.2.1,λx i y d=>?_⟩
 cases é.mp i with
 |inl q=>exact b.2.2 x q y d
 |inr q=>exact j x q y d
def Two.swap{T out xs ys:List β}(h:Two le T out xs ys):Two le T out ys xs:=
 ⟨h.hy,h.hx,(List.Perm.append_left out List.perm_append_comm).trans h.pm⟩
def Two.moveys{T out a xs ys:List β}(h:Two le T out xs (a++ys))(b: ∀z,z∈a-> ∀x,x∈xs->le z x):Two le T (out++a) xs ys:=
 (h.swap.movexs b).swap
def Two.fin{T out xs ys:List β}(h:Two le T out xs ys)(d: ∀x,x∈xs-> ∀y,y∈ys->le x y):(out++xs++ys).Pairwise le/\(out++xs++ys).Perm T:=by
 have a:=ê.mp h.hx;have b:=ê.mp h.hy;refine⟨ê.mpr ⟨h.hx,b.2.1,λx e y c=>?_⟩,by rw[aA];exact h.pm⟩
 cases é.mp e with
 |inl q=>exact b.2.2 x q y c
 |inr q=>exact d x q y c
structure TwoR(le:β->β->Prop)(T xs ys R:List β):Prop where
 hx:(xs++R).Pairwise le
 hy:(ys++R).Pairwise le
 pm:(xs++ys++R).Perm T
def TwoR.swap{T R xs ys:List β}(h:TwoR le T xs ys R):TwoR le T ys xs R:=
 ⟨h.hy,h.hx,(List.Perm.append_right R List.perm_append_comm).trans h.pm⟩
def TwoR.moveys{T R e xs ys:List β}(h:TwoR le T xs (ys++e) R)(j: ∀x,x∈xs-> ∀z,z∈e->le x z):TwoR le T xs ys (e++R):=by
 refine⟨?_,by simpa only[aA]using h.hy,by simpa only[aA]using h.pm⟩;have a:=ê.mp h.hx;have b:=ê.mp h.hy;have c:=ê.mp b.1;refine ê.mpr ⟨a.1,ê.mpr ⟨c.2.1,a.2.1,λz k y d=>b.2.2 z (ó _ k) y d⟩,λx i y d=>?_⟩
 cases é.mp d with
 |inl q=>exact j x i y q
 |inr q=>exact a.2.2 x i y q
def TwoR.movexs{T R a xs ys:List β}(h:TwoR le T (xs++a) ys R)(b: ∀y,y∈ys-> ∀z,z∈a->le y z):TwoR le T xs ys (a++R):=
 (h.swap.moveys b).swap
def TwoR.fin{T R xs ys:List β}(h:TwoR le T xs ys R)(d: ∀x,x∈xs-> ∀y,y∈ys->le x y):(xs++ys++R).Pairwise le/\(xs++ys++R).Perm T:=by
 have a:=ê.mp h.hx;have b:=ê.mp h.hy;refine⟨ê.mpr ⟨ê.mpr ⟨a.1,b.1,d⟩,a.2.1,λx e y c=>?_⟩,h.pm⟩
 cases é.mp e with
 |inl q=>exact a.2.2 x q y c
 |inr q=>exact b.2.2 x q y c
def EN(l:List β)(i k:Nat):l.drop i=(l.drop i).take k++l.drop (i+k):=by rw[<-List.drop_drop,Ŀ]
def EO(l:List β)(i k:Nat)(h:i<=k):l.take k=l.take i++(l.take k).drop i:=by have:=Ŀ i (l.take k);rw[List.take_take,min_eq_left h]at this;exact this.symm
end Srt
namespace Srt
open PySem PyProof.Rows
abbrev SM:=StateT SortSt Sem
noncomputable def bey(lf:Bool)(x:Keyed)(v:Array Keyed)(b i:Nat):SM (Option Bool):=
 elem' v (b+i) >>= λy=>if lf=true then lt' y x else lt' x y >>= λr=>pure (r.map λq=>!q)
abbrev G3:=Option (Option Nat)×Nat×Nat
noncomputable def gUp(f:Nat->SM (Option Bool))(n m h:Nat):SM G3:=
 forIn [0:n] ((none,0,1):G3) λ_ c=>
  if c.2.2>=m then pure (.done (none,c.2.1,c.2.2))else f (h+c.2.2) >>= λo=>match o with
   |some q=>if(!q)=true then pure (.done (none,c.2.1,c.2.2))else pure (.yield (none,c.2.2,2 * c.2.2+1))
   |_=>pure (.done (some none,c.2.1,c.2.2))
noncomputable def gDn(f:Nat->SM (Option Bool))(n m h:Nat):SM G3:=
 forIn [0:n] ((none,0,1):G3) λ_ c=>
  if c.2.2>=m then pure (.done (none,c.2.1,c.2.2))else f (h - c.2.2) >>= λo=>match o with
   |some q=>if q=true then pure (.done (none,c.2.1,c.2.2))else pure (.yield (none,c.2.2,2 * c.2.2+1))
   |_=>pure (.done (some none,c.2.1,c.2.2))
noncomputable def Yh(f:Nat->SM (Option Bool))(n lo hi:Nat):SM G3:=
 forIn [0:n] ((none,lo,hi):G3) λ_ c=>
  if c.2.1>=c.2.2 then pure (.done (none,c.2.1,c.2.2))else f (c.2.1+(c.2.2 - c.2.1) / 2) >>= λo=>match o with
   |some q=>if q=true then pure (.yield (none,c.2.1+(c.2.2 - c.2.1) / 2+1,c.2.2))else pure (.yield (none,c.2.1,c.2.1+(c.2.2 - c.2.1) / 2))
   |_=>pure (.done (some none,c.2.1,c.2.2))
def Jj(f:Nat->SM (Option Bool))(n lo hi:Nat):SM (Option Nat):=
 Yh f n lo hi >>= λc=>match c.1 with
  |some r=>pure r
  |none=>pure (some c.2.2)
def gal(f:Nat->SM (Option Bool))(n h:Nat):SM (Option Nat):=
 f h >>= λo=>match o with
  |some q=>if q=true then gUp f n (n - h) h >>= λc=>(match c.1 with
     |some r=>pure r
     |none=>Jj f n (h+c.2.1+1) (h+min c.2.2 (n - h)))
    else gDn f n (h+1) h >>= λc=>(match c.1 with
     |some r=>pure r
     |none=>Jj f n (h+1 - min c.2.2 (h+1)) (h - c.2.1))
  |_=>pure none
theorem EQ(lf:Bool)(x:Keyed)(v:Array Keyed)(b n h:Nat):nQ lf x v b n h=gal (bey lf x v b) n h:=by kernel_rfl
section
variable{M:Model}{A:Ō}{E:VP}{s:Ŋ}
def Tells(M:Model)(A:Ō)(E:VP)(s:Ŋ)(st:SortSt)(f:Nat->SM (Option Bool))(p:Nat->Bool)(n:Nat):Prop:=
 ∀i,i<n-> ∀Q:Option Bool->SortSt->Prop,Q (some (p i)) st->wpS M A E s (f i) Q st
variable{st:SortSt}{f:Nat->SM (Option Bool)}{p:Nat->Bool}{n h:Nat}
def Sm{Q:G3->SortSt->Prop}(k:Tells M A E s st f p n)(q:h<n)(m:p h=true)
  (hq: ∀l o,l<o->h+l<n->p (h+l)=true->(n - h<=o\/(h+o<n/\p (h+o)=false))->Q (none,l,o) st):
  wpS M A E s (gUp f n (n - h) h) Q st:=by
 unfold gUp;refine Ć (I:=λx c a=>a=st/\ ∃l o,c=(none,l,o)/\x+1<=o/\l<o/\h+l<n/\p (h+l)=true) ?_ ?_ ⟨rfl,0,1,rfl,by omega,by omega,by omega,m⟩
 .rintro x c a _ r ⟨rfl,l,o,rfl,h1,e,i,d⟩;dsimp only;by_cases b:o>=n - h
  .rw[iP b];exact wpS_pure (hq l o e i d (.inl b))
  .rw[iN b];refine wpS_bind (k (h+o) (by omega) _ ?_)
   cases j:p (h+o)with
   |false=>exact wpS_pure (hq l o e i d (.inr ⟨by omega,j⟩))
   |true=>exact wpS_pure ⟨rfl,o,2 * o+1,rfl,by omega,by omega,by omega,j⟩
 .rintro c a ⟨rfl,l,o,rfl,h1,e,i,d⟩;exact hq l o e i d (.inl (by omega))
def Sn{Q:G3->SortSt->Prop}(k:Tells M A E s st f p n)(q:h<n)(m:p h=false)
  (hq: ∀l o,l<o->l<=h->p (h - l)=false->(h+1<=o\/(o<=h/\p (h - o)=true))->Q (none,l,o) st):
  wpS M A E s (gDn f n (h+1) h) Q st:=by
 unfold gDn;refine Ć (I:=λx c a=>a=st/\ ∃l o,c=(none,l,o)/\x+1<=o/\l<o/\l<=h/\p (h - l)=false) ?_ ?_ ⟨rfl,0,1,rfl,by omega,by omega,by omega,m⟩
 .rintro x c a _ r ⟨rfl,l,o,rfl,h1,e,i,d⟩;dsimp only;by_cases b:o>=h+1
  .rw[iP b];exact wpS_pure (hq l o e i d (.inl b))
  .rw[iN b];refine wpS_bind (k (h - o) (by omega) _ ?_)
   cases j:p (h - o)with
   |true=>exact wpS_pure (hq l o e i d (.inr ⟨by omega,j⟩))
   |false=>exact wpS_pure ⟨rfl,o,2 * o+1,rfl,by omega,by omega,by omega,j⟩
 .rintro c a ⟨rfl,l,o,rfl,h1,e,i,d⟩;exact hq l o e i d (.inl (by omega))
def UE{Q:Option Nat->SortSt->Prop}{lo hi:Nat}(v:Tells M A E s st f p n)(u: ∀i j,i<=j->j<n->p j=true->p i=true)
  (h1:lo<=hi) (h2:hi<=n) (h3: ∀i,i<lo->p i=true) (h4: ∀i,hi<=i->i<n->p i=false)
  (hq: ∀r,r<=n->(∀i,i<r->p i=true)->(∀i,r<=i->i<n->p i=false)->Q (some r) st):
  wpS M A E s (Jj f n lo hi) Q st:=by
 unfold Jj Yh
 refine wpS_bind (wpS_mono (Ć (I:=λx c a=>a=st/\ ∃l r,c=(none,l,r)/\l<=r/\r<=n/\r - l<=n - x/\(∀i,i<l->p i=true)/\(∀i,r<=i->i<n->p i=false))
  (Q:=λc a=>a=st/\ ∃l r,c=(none,l,r)/\r<=n/\(∀i,i<r->p i=true)/\(∀i,r<=i->i<n->p i=false)) ?_ ?_ ⟨rfl,lo,hi,rfl,h1,h2,by omega,h3,h4⟩) ?_)
 .rintro x c a _ z ⟨rfl,l,r,rfl,w,e,y,d,b⟩;dsimp only;by_cases h:l>=r
  .rw[iP h];have:l=r:=by omega
   subst this;exact wpS_pure ⟨rfl,l,l,rfl,e,d,b⟩
  .rw[iN h];refine wpS_bind (v (l+(r - l) / 2) (by omega) _ ?_)
   cases m:p (l+(r - l) / 2)with
   |true=>exact wpS_pure ⟨rfl,_,r,rfl,by omega,e,by omega,λi hi=>u i _ (by omega) (by omega) m,b⟩
   |false=>
    refine wpS_pure ⟨rfl,l,_,rfl,by omega,by omega,by omega,d,λi k q=>?_⟩
    cases o:p i with
    |false=>rfl
    |true=>rw[u _ i k q o]at m;cases m
 .rintro c a ⟨rfl,l,r,rfl,w,e,y,d,b⟩;have:l=r:=by omega
  subst this;exact⟨rfl,l,l,rfl,e,d,b⟩
 .rintro c a ⟨rfl,l,r,rfl,e,d,b⟩;exact wpS_pure (hq r e d b)
def Bv{Q:Option Nat->SortSt->Prop}(c:Tells M A E s st f p n)(d: ∀i j,i<=j->j<n->p j=true->p i=true)(k:h<n)
  (hq: ∀r,r<=n->(∀i,i<r->p i=true)->(∀i,r<=i->i<n->p i=false)->Q (some r) st):
  wpS M A E s (gal f n h) Q st:=by
 have v: ∀i j,i<=j->j<n->p i=false->p j=false:=by
  intro i j h1 e b
  cases w:p j with
  |false=>rfl
  |true=>rw[d i j h1 e w]at b;cases b
 unfold gal;refine wpS_bind (c h k _ ?_)
 cases q:p h with
 |true=>
  refine wpS_bind (Sm c k q λl o h1 e b a=>?_);dsimp only;refine UE c d (by omega) (by omega) (λi hi=>d i (h+l) (by omega) e b) (λi u m=>?_) hq;rcases a with a|⟨a,h7⟩
  .omega
  .exact v _ i (by omega) m h7
 |false=>
  refine wpS_bind (Sn c k q λl o h1 e b a=>?_);dsimp only;refine UE c d (by omega) (by omega) (λi hi=>?_) (λi u m=>v _ i u m b) hq;rcases a with a|⟨a,h7⟩
  .omega
  .exact d i (h - o) (by omega) (by omega) h7
end
end Srt
namespace Srt
open PySem PyProof.Rows
variable{v:Array Keyed}
def wY{β:Type}{l:List β}{i:Nat}{z:β}(h:z∈l.drop i): ∃j,i+j<l.length/\l[i+j]? =some z:=by obtain⟨j,a,e⟩:=List.mem_iff_getElem.mp h;rw[þ]at a;refine⟨j,by omega,?_⟩;rw[getElem_drop]at e;rw[<-e,gE (by omega)]
def sX{β:Type}{l:List β}{i k:Nat}{z:β}(h:z∈(l.drop i).take k): ∃j,j<k/\i+j<l.length/\l[i+j]? =some z:=by obtain⟨j,a,e⟩:=List.mem_iff_getElem.mp h;rw[lT,þ]at a;refine⟨j,by omega,by omega,?_⟩;rw[getElem_take,getElem_drop]at e;rw[<-e,gE (by omega)]
def iE{β:Type}{l:List β}{k:Nat}{z:β}(h:z∈l.take k): ∃j,j<k/\j<l.length/\l[j]? =some z:=by obtain⟨j,a,e⟩:=List.mem_iff_getElem.mp h;rw[lT]at a;refine⟨j,by omega,by omega,?_⟩;rw[getElem_take]at e;rw[<-e,gE (by omega)]
section
variable{M:Model}{A:Ō}{E:VP}{s:Ŋ}
structure Cmp(M:Model)(A:Ō)(E:VP)(s:Ŋ)(kd:SortKind)(D:Keyed->Prop)(lt:Keyed->Keyed->Bool):Prop where
 go: ∀x y,D x->D y-> ∀st:SortSt,kindOf st=kd-> ∀Q:Option Bool->SortSt->Prop,Q (some (lt x y)) st->wpS M A E s (lt' x y) Q st
 tr: ∀x y z,lt y x=false->lt z y=false->lt z x=false
 as: ∀x y,lt x y=true->lt y x=false
variable{kd:SortKind}{D:Keyed->Prop}{lt:Keyed->Keyed->Bool}
abbrev Le(lt:Keyed->Keyed->Bool)(x y:Keyed):Prop:=lt y x=false
def Cmp.rf(C:Cmp M A E s kd D lt)(x:Keyed):Le lt x x:=by
 show lt x x=false
 cases h:lt x x with
 |false=>rfl
 |true=>exact absurd h (by rw[C.as x x h];simp)
def SL(lt:Keyed->Keyed->Bool)(l:List Keyed)(b n:Nat):Prop:= ∀i j x y,i<=j->j<n->l[b+i]? =some x->l[b+j]? =some y->lt y x=false
def yF{st:SortSt}{i:Nat}{Q:Keyed->SortSt->Prop}{x:Keyed}(e:v.toList[i]? =some x)(h:Q x st):wpS M A E s (elem' v i) Q st:=by
 rw[elem'_eq];have:v[i]? =some x:=by rw[<-ò];exact e
 rw[this];exact wpS_pure h
def wR{i:Nat}(h:i<v.size): ∃x,v.toList[i]? =some x:=⟨v.toList[i]'(by simpa using h),gE _⟩
noncomputable def pB(lt:Keyed->Keyed->Bool)(lf:Bool)(x:Keyed)(l:List Keyed)(b i:Nat):Bool:=(l[b+i]?).elim false λy=>if lf=true then lt y x else !lt x y
def tells(C:Cmp M A E s kd D lt){st:SortSt}(h:kindOf st=kd)(j: ∀y,y∈v.toList->D y){x:Keyed}(e:D x){b n:Nat}(k:b+n<=v.size)(lf:Bool):
  Tells M A E s st (bey lf x v b) (pB lt lf x v.toList b) n:=by
 intro i hi Q c;obtain⟨y,d⟩:=wR (v:=v) (i:=b+i) (by omega);have a:=j y (è d);unfold bey;unfold pB at c;rw[d]at c;refine wpS_bind (yF d ?_)
 cases lf with
 |true=>exact C.go y x a e st h _ c
 |false=>
  show wpS M A E s (lt' x y >>= λr=>pure (r.map λq=>!q)) Q st;exact wpS_bind (C.go x y e a st h _ (wpS_pure c))
def KG(C:Cmp M A E s kd D lt){st:SortSt}(w:kindOf st=kd)(p: ∀y,y∈v.toList->D y){x:Keyed}(u:D x){b n h:Nat}(F:b+n<=v.size)(q:h<n)
  (hs:SL lt v.toList b n) {Q:Option Nat->SortSt->Prop}
  (hq: ∀r,r<=n->(∀i y,i<r->v.toList[b+i]? =some y->lt x y=false)->(∀i y,r<=i->i<n->v.toList[b+i]? =some y->lt x y=true)->Q (some r) st):
  wpS M A E s (nQ false x v b n h) Q st:=by
 rw[EQ];refine Bv (tells C w p u F false) (λi j h1 d a=>?_) q (λr h1 d a=>hq r h1 (λi y c k=>?_) (λi y c k B=>?_))
 .obtain⟨y,m⟩:=wR (v:=v) (i:=b+i) (by omega);obtain⟨z,o⟩:=wR (v:=v) (i:=b+j) (by omega);unfold pB at a ⊢;rw[o]at a;rw[m];have e:(!lt x z)=true:=a;show(!lt x y)=true;have:=hs i j y z h1 d m o;have c:lt x z=false:=by simpa using e
  rw[C.tr y z x this c];rfl
 .have:=d i c;unfold pB at this;rw[k]at this;have h':(!lt x y)=true:=this;simpa using h'
 .have:=a i c k;unfold pB at this;rw[B]at this;have h':(!lt x y)=false:=this;simpa using h'
def KH(C:Cmp M A E s kd D lt){st:SortSt}(B:kindOf st=kd)(q: ∀y,y∈v.toList->D y){x:Keyed}(w:D x){b n h:Nat}(G:b+n<=v.size)(u:h<n)
  (hs:SL lt v.toList b n) {Q:Option Nat->SortSt->Prop}
  (hq: ∀r,r<=n->(∀i y,i<r->v.toList[b+i]? =some y->lt y x=true)->(∀i y,r<=i->i<n->v.toList[b+i]? =some y->lt y x=false)->Q (some r) st):
  wpS M A E s (nQ true x v b n h) Q st:=by
 rw[EQ];refine Bv (tells C B q w G true) (λi j h1 c a=>?_) u (λr h1 c a=>hq r h1 (λi y e m=>?_) (λi y e m F=>?_))
 .obtain⟨y,o⟩:=wR (v:=v) (i:=b+i) (by omega);obtain⟨z,p⟩:=wR (v:=v) (i:=b+j) (by omega);unfold pB at a ⊢;rw[p]at a;rw[o];have d:lt z x=true:=a;show lt y x=true;have:=hs i j y z h1 c o p
  cases k:lt y x with
  |true=>rfl
  |false=>exact absurd d (by rw[C.tr x y z k this];simp)
 .have:=c i e;unfold pB at this;rw[m]at this;exact this
 .have:=a i e m;unfold pB at this;rw[F]at this;exact this
end
end Srt
namespace Srt
open PySem PyProof.Rows
abbrev V:=Array Keyed
abbrev L5:=Option V×V×Nat×Nat×Nat
abbrev L6:=Option V×V×Nat×Nat×Nat×Nat
abbrev L7:=Option V×V×Nat×Nat×Nat×Nat×Nat
noncomputable abbrev ZL(a b o:V)(i j:Nat):V:=o++a.extract i a.size++b.extract j b.size
noncomputable abbrev Vt(a b o:V)(i j:Nat):V:=o++b.extract j b.size++a.extract i a.size
def So(a b:V)(g:Nat)(c:L6):SM (ForInStep L6):=
 elem' b c.2.2.2.1 >>= λy=>elem' a c.2.2.1 >>= λx=>lt' y x >>= λr=>match r with
  |some q=>if q=true then elem' b c.2.2.2.1 >>= λy=>
     if(c.2.2.2.1+1==b.size)=true then pure (.done (some (ZL a b (c.2.1.push y) c.2.2.1 (c.2.2.2.1+1)),c.2.1.push y,c.2.2.1,c.2.2.2.1+1,0,c.2.2.2.2.2+1))
     else if c.2.2.2.2.2+1>=g then pure (.done (none,c.2.1.push y,c.2.2.1,c.2.2.2.1+1,0,c.2.2.2.2.2+1))
     else pure (.yield (none,c.2.1.push y,c.2.2.1,c.2.2.2.1+1,0,c.2.2.2.2.2+1))
    else elem' a c.2.2.1 >>= λx=>
     if(c.2.2.1+1+1==a.size)=true then pure (.done (some (Vt a b (c.2.1.push x) (c.2.2.1+1) c.2.2.2.1),c.2.1.push x,c.2.2.1+1,c.2.2.2.1,c.2.2.2.2.1+1,0))
     else if c.2.2.2.2.1+1>=g then pure (.done (none,c.2.1.push x,c.2.2.1+1,c.2.2.2.1,c.2.2.2.2.1+1,0))
     else pure (.yield (none,c.2.1.push x,c.2.2.1+1,c.2.2.2.1,c.2.2.2.2.1+1,0))
  |_=>pure (.done (some (ZL a b c.2.1 c.2.2.1 c.2.2.2.1),c.2.1,c.2.2.1,c.2.2.2.1,c.2.2.2.2.1,c.2.2.2.2.2))
def in1(a b:V)(t g:Nat)(c:L6):SM L6:=forIn [0:t] c λ_ c=>So a b g c
def Jk(a b o:V)(i j g p q:Nat):SM (ForInStep L7):=
 elem' a i >>= λx=>if(i+1+1==a.size)=true then pure (.done (some (Vt a b (o.push x) (i+1) j),o.push x,i+1,j,g,p,q))
  else if(decide (p<7)&&decide (q<7))=true then pure (.done (none,o.push x,i+1,j,g,p,q))else pure (.yield (none,o.push x,i+1,j,g,p,q))
def Jl(a b o:V)(i j g p q:Nat):SM (ForInStep L7):=
 elem' b j >>= λy=>if(j+1==b.size)=true then pure (.done (some (ZL a b (o.push y) i (j+1)),o.push y,i,j+1,g,p,q))
  else elem' a i >>= λx=>nQ true x b (j+1) (b.size - (j+1)) 0 >>= λr=>match r with
   |some k=>if k>0 then
      if(j+1+k==b.size)=true then pure (.done (some (ZL a b (o.push y++b.extract (j+1) (j+1+k)) i (j+1+k)),o.push y++b.extract (j+1) (j+1+k),i,j+1+k,g,p,k))
      else Jk a b (o.push y++b.extract (j+1) (j+1+k)) i (j+1+k) g p k
     else Jk a b (o.push y) i (j+1) g p k
   |_=>pure (.done (some (ZL a b (o.push y) i (j+1)),o.push y,i,j+1,g,p,q))
def Jm(a b o:V)(i j g p q:Nat):SM (ForInStep L7):=
 wL g >>= λ_=>elem' b j >>= λy=>nQ false y a i (a.size - i) 0 >>= λr=>match r with
  |some k=>if k>0 then
     if(i+k+1==a.size)=true then pure (.done (some (Vt a b (o++a.extract i (i+k)) (i+k) j),o++a.extract i (i+k),i+k,j,g,k,q))
     else if(i+k==a.size)=true then pure (.done (some (ZL a b (o++a.extract i (i+k)) (i+k) j),o++a.extract i (i+k),i+k,j,g,k,q))
     else Jl a b (o++a.extract i (i+k)) (i+k) j g k q
    else Jl a b o i j g k q
  |_=>pure (.done (some (ZL a b o i j),o,i,j,g,p,q))
def in2(a b:V)(t:Nat)(c:L7):SM L7:=forIn [0:t] c λ_ c=>
 if c.2.2.2.2.1>1 then Jm a b c.2.1 c.2.2.1 c.2.2.2.1 (c.2.2.2.2.1 - 1) c.2.2.2.2.2.1 c.2.2.2.2.2.2
 else Jm a b c.2.1 c.2.2.1 c.2.2.2.1 c.2.2.2.2.1 c.2.2.2.2.2.1 c.2.2.2.2.2.2
def Sq(a b:V)(t:Nat)(c:L5):SM L5:=forIn [0:t] c λ_ c=>
 in1 a b t c.2.2.2.2 (none,c.2.1,c.2.2.1,c.2.2.2.1,0,0) >>= λd=>match d.1 with
  |some r=>pure (.done (some r,d.2.1,d.2.2.1,d.2.2.2.1,c.2.2.2.2))
  |none=>liftM (rule "list.sort.gallop") >>= λ_=>in2 a b t (none,d.2.1,d.2.2.1,d.2.2.2.1,c.2.2.2.2+1,d.2.2.2.2.1,d.2.2.2.2.2) >>= λe=>match e.1 with
   |some r=>pure (.done (some r,e.2.1,e.2.2.1,e.2.2.2.1,e.2.2.2.2.1))
   |none=>wL (e.2.2.2.2.1+1) >>= λ_=>pure (.yield (none,e.2.1,e.2.2.1,e.2.2.2.1,e.2.2.2.2.1+1))
def mLo(a b:V):SM V:=
 liftM (rule "list.sort.merge-lo") >>= λ_=>elem' b 0 >>= λy=>if(1==b.size)=true then pure (ZL a b #[y] 0 1)
  else if(0+1==a.size)=true then pure (Vt a b #[y] 0 1)
  else get >>= λst=>Sq a b (a.size+b.size) (none,#[y],0,1,gallopOf st) >>= λc=>match c.1 with
   |some r=>pure r
   |none=>liftM (unsupported "internal:list.sort.merge-bound")
theorem OE(a b:V):EL a b=mLo a b:=by kernel_rfl
end Srt
namespace Srt
open PySem PyProof.Rows
variable{o:V}{j:Nat}
def AB(v:V)(i:Nat):(v.extract i v.size).toList=v.toList.drop i:=by rw[Array.toList_extract,ĺ];exact Ā (by simp)
def KI(v:V)(i k:Nat):(v.extract i (i+k)).toList=(v.toList.drop i).take k:=by rw[Array.toList_extract,ĺ,Nat.add_sub_cancel_left]
theorem Jn(g:Nat):wL g=modify λs=>SortSt.mk' (kindOf s) (arrOf s) (pendingOf s) g (failedOf s):=rfl
def Sg(st a:SortSt):Prop:= ∃g,a=SortSt.mk' (kindOf st) (arrOf st) (pendingOf st) g (failedOf st)
def Sg.refl(st:SortSt):Sg st st:=⟨gallopOf st,rfl⟩
theorem Sg.kind{st a:SortSt}(h:Sg st a):kindOf a=kindOf st:=by obtain⟨g,rfl⟩:=h;rfl
section
variable{M:Model}{A:Ō}{E:VP}{s:Ŋ}{kd:SortKind}{D:Keyed->Prop}{lt:Keyed->Keyed->Bool}{a b:V}
def DA{st a:SortSt}(h:Sg st a){g:Nat}{Q:Unit->SortSt->Prop}(b: ∀a,Sg st a->Q () a):wpS M A E s (wL g) Q a:=by rw[Jn];obtain⟨c,rfl⟩:=h;exact wpS_modify (b _ ⟨g,rfl⟩)
abbrev TwoA(lt:Keyed->Keyed->Bool)(a b o:V)(i j:Nat):Prop:=Two (Le lt) (a.toList++b.toList) o.toList (a.toList.drop i) (b.toList.drop j)
def FinA(lt:Keyed->Keyed->Bool)(a b r:V):Prop:=r.toList.Pairwise (Le lt)/\r.toList.Perm (a.toList++b.toList)
def KL{β:Type}{l:List β}{i:Nat}{x:β}(h:l[i]? =some x):l.drop i=x::l.drop (i+1):=by obtain⟨hi,e⟩:=gS.mp h;rw[<-e];exact Ħ hi
def heads{β:Type}{le:β->β->Prop}(rf: ∀x,le x x){l:List β}{i:Nat}{x:β}(h:(l.drop i).Pairwise le)(e:l[i]? =some x): ∀z,z∈l.drop i->le x z:=by
 rw[KL e]at h ⊢;intro z a
 cases a with
 |head=>exact rf x
 |tail _ a=>exact(List.pairwise_cons.mp h).1 z a
def TwoA.sa{i:Nat}(h:TwoA lt a b o i j):(a.toList.drop i).Pairwise (Le lt):=(ê.mp h.hx).2.1
def TwoA.sb{i:Nat}(h:TwoA lt a b o i j):(b.toList.drop j).Pairwise (Le lt):=(ê.mp h.hy).2.1
def UF{l:List Keyed}{i n:Nat}(h:(l.drop i).Pairwise (Le lt))(rf: ∀x,Le lt x x):SL lt l i n:=by
 intro p q x y h1 j b a;by_cases e:p=q
 .subst e;rw[b]at a;cases a;exact rf x
 .obtain⟨k,d⟩:=gS.mp b;obtain⟨m,c⟩:=gS.mp a;have:=List.pairwise_iff_getElem.mp h p q (by rw[þ];omega) (by rw[þ];omega) (by omega);rw[getElem_drop,getElem_drop,d,c]at this;exact this
def TwoA.pushB{i:Nat}{y:Keyed}(h:TwoA lt a b o i j)(e:b.toList[j]? =some y)(d: ∀x,x∈a.toList.drop i->Le lt y x):TwoA lt a b (o.push y) i (j+1):=by
 have h':Two (Le lt) (a.toList++b.toList) o.toList (a.toList.drop i) ([y]++b.toList.drop (j+1)):=by rw[show [y]++b.toList.drop (j+1)=b.toList.drop j from(KL e).symm];exact h
 have:=h'.moveys λz c x k=>by rw[mS.mp c];exact d x k
 show Two _ _ (o.push y).toList _ _;rw[Array.toList_push];exact this
def TwoA.pushA{i:Nat}{x:Keyed}(h:TwoA lt a b o i j)(e:a.toList[i]? =some x)(c: ∀y,y∈b.toList.drop j->Le lt x y):TwoA lt a b (o.push x) (i+1) j:=by
 have h':Two (Le lt) (a.toList++b.toList) o.toList ([x]++a.toList.drop (i+1)) (b.toList.drop j):=by rw[show [x]++a.toList.drop (i+1)=a.toList.drop i from(KL e).symm];exact h
 have:=h'.movexs λz k y d=>by rw[mS.mp k];exact c y d
 show Two _ _ (o.push x).toList _ _;rw[Array.toList_push];exact this
def TwoA.cutA{i k:Nat}(h:TwoA lt a b o i j)(c: ∀n z,n<k->a.toList[i+n]? =some z-> ∀y,y∈b.toList.drop j->Le lt z y):TwoA lt a b (o++a.extract i (i+k)) (i+k) j:=by
 have h':Two (Le lt) (a.toList++b.toList) o.toList ((a.toList.drop i).take k++a.toList.drop (i+k)) (b.toList.drop j):=by rw[<-EN];exact h
 have:=h'.movexs λz m y d=>by obtain⟨n,h1,_,e⟩:=sX m;exact c n z h1 e y d
 show Two _ _ (o++a.extract i (i+k)).toList _ _;rw[ü,KI];exact this
def TwoA.cutB{i k:Nat}(h:TwoA lt a b o i j)(c: ∀n z,n<k->b.toList[j+n]? =some z-> ∀x,x∈a.toList.drop i->Le lt z x):TwoA lt a b (o++b.extract j (j+k)) i (j+k):=by
 have h':Two (Le lt) (a.toList++b.toList) o.toList (a.toList.drop i) ((b.toList.drop j).take k++b.toList.drop (j+k)):=by rw[<-EN];exact h
 have:=h'.moveys λz m y d=>by obtain⟨n,h1,_,e⟩:=sX m;exact c n z h1 e y d
 show Two _ _ (o++b.extract j (j+k)).toList _ _;rw[ü,KI];exact this
def TwoA.dnB{i:Nat}(h:TwoA lt a b o i j)(d:b.size<=j):FinA lt a b (ZL a b o i j):=by
 have e:(ZL a b o i j).toList=o.toList++a.toList.drop i++b.toList.drop j:=by rw[ü,ü,AB,AB]
 unfold FinA;rw[e];exact h.fin λx _ y c=>by rw[drop_of_length_le (by simpa using d)]at c;cases c
def TwoA.dnA{i:Nat}(h:TwoA lt a b o i j)(hi:a.size<=i):FinA lt a b (ZL a b o i j):=by
 have e:(ZL a b o i j).toList=o.toList++a.toList.drop i++b.toList.drop j:=by rw[ü,ü,AB,AB]
 unfold FinA;rw[e];exact h.fin λx c y _=>by rw[drop_of_length_le (by simpa using hi)]at c;cases c
def TwoA.la{i:Nat}(h:TwoA lt a b o i j)(hi:i+1=a.size)(hz: ∀x y,a.toList[a.size - 1]? =some x->y∈b.toList->Le lt y x):FinA lt a b (Vt a b o i j):=by
 have e:(Vt a b o i j).toList=o.toList++b.toList.drop j++a.toList.drop i:=by rw[ü,ü,AB,AB]
 unfold FinA;rw[e];refine h.swap.fin λy c x k=>?_;obtain⟨n,h1,d⟩:=wY k;have m:a.toList.length=a.size:=by simp
 exact hz x y (by rw[show a.size - 1=i+n by omega];exact d) (List.mem_of_mem_drop c)
def TwoA.len{i:Nat}(h:TwoA lt a b o i j):o.size+((a.size - i)+(b.size - j))=a.size+b.size:=by have:=h.pm.length_eq;simpa [lA,þ]using this
def I1(lt:Keyed->Keyed->Bool)(a b o:V)(i j:Nat):Prop:=i+1<a.size/\j<b.size/\TwoA lt a b o i j
structure Set2(M:Model)(A:Ō)(E:VP)(s:Ŋ)(kd:SortKind)(D:Keyed->Prop)(lt:Keyed->Keyed->Bool)(a b:V):Prop where
 C:Cmp M A E s kd D lt
 da: ∀x,x∈a.toList->D x
 db: ∀x,x∈b.toList->D x
 lst: ∀x y,a.toList[a.size - 1]? =some x->y∈b.toList->Le lt y x
def N6(lt:Keyed->Keyed->Bool)(a b:V)(n:Nat)(c:L6):Prop:= ∃o i j p q,c=(none,o,i,j,p,q)/\I1 lt a b o i j/\n<=o.size
def P6(lt:Keyed->Keyed->Bool)(a b:V)(n:Nat)(c:L6):Prop:=(∃r e,c=(some r,e)/\FinA lt a b r)\/N6 lt a b n c
def N7(lt:Keyed->Keyed->Bool)(a b:V)(n:Nat)(c:L7):Prop:= ∃o i j g p q,c=(none,o,i,j,g,p,q)/\I1 lt a b o i j/\n<=o.size
def P7(lt:Keyed->Keyed->Bool)(a b:V)(n:Nat)(c:L7):Prop:=(∃r e,c=(some r,e)/\FinA lt a b r)\/N7 lt a b n c
def Jo(Z:Set2 M A E s kd D lt a b){st:SortSt}(F:kindOf st=kd){i p q g:Nat}(h:I1 lt a b o i j){Q:ForInStep L6->SortSt->Prop}
  (hd: ∀c,P6 lt a b (o.size+1) c->Q (.done c) st) (hy: ∀c,N6 lt a b (o.size+1) c->Q (.yield c) st):wpS M A E s (So a b g (none,o,i,j,p,q)) Q st:=by
 obtain⟨h1,w,r⟩:=h;obtain⟨y,e⟩:=wR w;obtain⟨x,ex⟩:=wR (v:=a) (i:=i) (by omega);have G:=heads Z.C.rf r.sb e;have B:=heads Z.C.rf r.sa ex;unfold So;refine wpS_bind (yF e (wpS_bind (yF ex (wpS_bind (Z.C.go y x (Z.db y (è e)) (Z.da x (è ex)) st F _ ?_)))))
 cases n:lt y x with
 |true=>
  have k:=r.pushB e λz u=>Z.C.tr y x z (Z.C.as y x n) (B z u);have hs:(o.push y).size=o.size+1:=ĝ ..;refine wpS_bind (yF e ?_);dsimp only;by_cases d:j+1=b.size
  .rw[iP (by simpa using d)];exact wpS_pure (hd _ (.inl ⟨_,_,rfl,k.dnB (by omega)⟩))
  .rw[iN (by simpa using d)];have m:I1 lt a b (o.push y) i (j+1):=⟨h1,by omega,k⟩
   split
   .exact wpS_pure (hd _ (.inr ⟨_,_,_,_,_,rfl,m,by omega⟩))
   .exact wpS_pure (hy _ ⟨_,_,_,_,_,rfl,m,by omega⟩)
 |false=>
  have k:=r.pushA ex λz u=>Z.C.tr x y z n (G z u);have hs:(o.push x).size=o.size+1:=ĝ ..;refine wpS_bind (yF ex ?_);dsimp only;by_cases d:i+1+1=a.size
  .rw[iP (by simpa using d)];exact wpS_pure (hd _ (.inl ⟨_,_,rfl,k.la d Z.lst⟩))
  .rw[iN (by simpa using d)];have m:I1 lt a b (o.push x) (i+1) j:=⟨by omega,w,k⟩
   split
   .exact wpS_pure (hd _ (.inr ⟨_,_,_,_,_,rfl,m,by omega⟩))
   .exact wpS_pure (hy _ ⟨_,_,_,_,_,rfl,m,by omega⟩)
def N6.mono{n m:Nat}{c:L6}(h:N6 lt a b n c)(e:m<=n):N6 lt a b m c:=by obtain⟨o,i,j,p,q,h1,d,k⟩:=h;exact⟨o,i,j,p,q,h1,d,by omega⟩
def P6.mono{n m:Nat}{c:L6}(h:P6 lt a b n c)(e:m<=n):P6 lt a b m c:=h.imp id λh=>h.mono e
def Ss(Z:Set2 M A E s kd D lt a b){st:SortSt}(k:kindOf st=kd){i g t:Nat}(u:1<=t)(h:I1 lt a b o i j){Q:L6->SortSt->Prop}
  (hq: ∀c,P6 lt a b (o.size+1) c->Q c st):wpS M A E s (in1 a b t g (none,o,i,j,0,0)) Q st:=by
 unfold in1;refine Ć (I:=λx c d=>d=st/\N6 lt a b (o.size+x) c) ?_ ?_ ⟨rfl,o,i,j,0,0,rfl,h,by omega⟩
 .rintro x c d _ _ ⟨rfl,o',p,r,q,n,rfl,h',v⟩;refine Jo Z k h' (λc e=>hq c (e.mono (by omega))) (λc e=>⟨rfl,e.mono (by omega)⟩)
 .rintro c d ⟨rfl,m⟩;exact hq c (.inr (m.mono (by omega)))
def UG(Z:Set2 M A E s kd D lt a b){st:SortSt}{i g p q:Nat}(h1:i+1<a.size)(k:j<b.size)(m:TwoA lt a b o i j)
  (hl: ∀x,a.toList[i]? =some x-> ∀y,y∈b.toList.drop j->Le lt x y) {n:Nat} (hn:n<=o.size) {Q:ForInStep L7->SortSt->Prop}
  (hd: ∀c,P7 lt a b n c->Q (.done c) st) (hy: ∀c,N7 lt a b n c->Q (.yield c) st):wpS M A E s (Jk a b o i j g p q) Q st:=by
 obtain⟨x,ex⟩:=wR (v:=a) (i:=i) (by omega);have e:=m.pushA ex (hl x ex);have hs:(o.push x).size=o.size+1:=ĝ ..;unfold Jk;refine wpS_bind (yF ex ?_);by_cases d:i+1+1=a.size
 .rw[iP (by simpa using d)];exact wpS_pure (hd _ (.inl ⟨_,_,rfl,e.la d Z.lst⟩))
 .rw[iN (by simpa using d)];have h:I1 lt a b (o.push x) (i+1) j:=⟨by omega,k,e⟩
  split
  .exact wpS_pure (hd _ (.inr ⟨_,_,_,_,_,_,rfl,h,by omega⟩))
  .exact wpS_pure (hy _ ⟨_,_,_,_,_,_,rfl,h,by omega⟩)
def UH(Z:Set2 M A E s kd D lt a b){st:SortSt}(S:kindOf st=kd){i g p q:Nat}(h1:i+1<a.size)(O:j<b.size)(I:TwoA lt a b o i j)
  (hl: ∀y,b.toList[j]? =some y-> ∀x,x∈a.toList.drop i->Le lt y x) {n:Nat} (hn:n<=o.size) {Q:ForInStep L7->SortSt->Prop}
  (hd: ∀c,P7 lt a b n c->Q (.done c) st) (hy: ∀c,N7 lt a b n c->Q (.yield c) st):wpS M A E s (Jl a b o i j g p q) Q st:=by
 obtain⟨y,w⟩:=wR O;obtain⟨x,ex⟩:=wR (v:=a) (i:=i) (by omega);have r:=I.pushB w (hl y w);have hs:(o.push y).size=o.size+1:=ĝ ..;have P:=heads Z.C.rf I.sa ex;unfold Jl;refine wpS_bind (yF w ?_);by_cases J:j+1=b.size
 .rw[iP (by simpa using J)];exact wpS_pure (hd _ (.inl ⟨_,_,rfl,r.dnB (by omega)⟩))
 .rw[iN (by simpa using J)];refine wpS_bind (yF ex (wpS_bind (KH Z.C S Z.db (Z.da x (è ex)) (by omega) (by omega) (UF r.sb Z.C.rf) λk k1 k2 L=>?_)));dsimp only;by_cases G:k>0
  .rw[iP G];have K:=r.cutB (k:=k) λm z T U h d=>Z.C.tr z x h (Z.C.as z x (k2 m z T U)) (P h d);have N:(o.push y++b.extract (j+1) (j+1+k)).size>=o.size+1:=by rw[Array.size_append];omega
   by_cases H:j+1+k=b.size
   .rw[iP (by simpa using H)];exact wpS_pure (hd _ (.inl ⟨_,_,rfl,K.dnB (by omega)⟩))
   .rw[iN (by simpa using H)];refine UG Z h1 (by omega) K (λh d u e=>?_) (by omega) hd hy;rw[ex]at d;cases d;obtain⟨m,B,F⟩:=wY e;rw[í]at B;exact L (k+m) u (by omega) (by omega) (by rw[<-add_assoc];exact F)
  .rw[iN G];refine UG Z h1 (by omega) r (λh d u e=>?_) (by omega) hd hy;rw[ex]at d;cases d;obtain⟨m,B,F⟩:=wY e;rw[í]at B;exact L m u (by omega) (by omega) F
def UI(Z:Set2 M A E s kd D lt a b){r st:SortSt}(hg:Sg r st)(W:kindOf r=kd){i g p q:Nat}(h:I1 lt a b o i j){n:Nat}(hn:n<=o.size)
  {Q:ForInStep L7->SortSt->Prop} (hd: ∀c st,Sg r st->P7 lt a b n c->Q (.done c) st) (hy: ∀c st,Sg r st->N7 lt a b n c->Q (.yield c) st):
  wpS M A E s (Jm a b o i j g p q) Q st:=by
 obtain⟨h1,H,G⟩:=h;obtain⟨y,B⟩:=wR H;have Y:=heads Z.C.rf G.sb B;unfold Jm;refine wpS_bind (DA hg λI d=>?_);have u:kindOf I=kd:=d.kind.trans W;refine wpS_bind (yF B (wpS_bind (KG Z.C u Z.da (Z.db y (è B)) (by omega) (by omega) (UF G.sa Z.C.rf) λk k1 k2 T=>?_)));dsimp only;by_cases P:k>0
 .rw[iP P];have O:=G.cutA (k:=k) λm z hm X F e=>Z.C.tr z y F (k2 m z hm X) (Y F e);have U:(o++a.extract i (i+k)).size>=o.size:=by rw[Array.size_append];omega
  by_cases L:i+k+1=a.size
  .rw[iP (by simpa using L)];exact wpS_pure (hd _ _ d (.inl ⟨_,_,rfl,O.la L Z.lst⟩))
  .rw[iN (by simpa using L)];by_cases S:i+k=a.size
   .rw[iP (by simpa using S)];exact wpS_pure (hd _ _ d (.inl ⟨_,_,rfl,O.dnA (by omega)⟩))
   .rw[iN (by simpa using S)];refine UH Z u (by omega) H O (λF e K w=>?_) (by omega) (λc v=>hd c _ d v) (λc v=>hy c _ d v);rw[B]at e;cases e;obtain⟨m,N,J⟩:=wY w;rw[í]at N;exact Z.C.as _ _ (T (k+m) K (by omega) (by omega) (by rw[<-add_assoc];exact J))
 .rw[iN P];refine UH Z u h1 H G (λF e K w=>?_) hn (λc v=>hd c _ d v) (λc v=>hy c _ d v);rw[B]at e;cases e;obtain⟨m,N,J⟩:=wY w;rw[í]at N;exact Z.C.as _ _ (T m K (by omega) (by omega) J)
def Su(Z:Set2 M A E s kd D lt a b){d st:SortSt}(v:Sg d st)(u:kindOf d=kd){i g p q t:Nat}(h:I1 lt a b o i j){n:Nat}(w:n<=o.size)
  {Q:L7->SortSt->Prop} (hq: ∀c st,Sg d st->P7 lt a b n c->Q c st):wpS M A E s (in2 a b t (none,o,i,j,g,p,q)) Q st:=by
 unfold in2;refine Ć (I:=λx c k=>Sg d k/\N7 lt a b n c) ?_ ?_ ⟨v,o,i,j,g,p,q,rfl,h,w⟩
 .rintro x c k _ _ ⟨e,o',B,F,G,C,z,rfl,h',r⟩;dsimp only;split
  .exact UI Z e u h' r (λc st hs m=>hq c st hs m) (λc st hs m=>⟨hs,m⟩)
  .exact UI Z e u h' r (λc st hs m=>hq c st hs m) (λc st hs m=>⟨hs,m⟩)
 .rintro c k ⟨e,y⟩;exact hq c k e (.inr y)
def Sv(Z:Set2 M A E s kd D lt a b){st:SortSt}(K:kindOf st=kd)(sa:a.toList.Pairwise (Le lt))(sb:b.toList.Pairwise (Le lt))(U:1<=a.size)(nb:1<=b.size)
  (h0: ∀x y,a.toList[0]? =some x->b.toList[0]? =some y->Le lt y x)
  {Q:V->SortSt->Prop} (hq: ∀r h,Sg st h->FinA lt a b r->Q r h):wpS M A E s (EL a b) Q st:=by
 rw[OE];unfold mLo;refine wpS_bind (eP ?_);obtain⟨y,B⟩:=wR (v:=b) (i:=0) (by omega);obtain⟨x,ex⟩:=wR (v:=a) (i:=0) (by omega);have J:TwoA lt a b #[] 0 0:=⟨by simpa using sa,by simpa using sb,by simp⟩
 have u:=heads Z.C.rf J.sa ex;have H:TwoA lt a b #[y] 0 1:=J.pushB B λz N=>Z.C.tr y x z (h0 x y ex B) (u z N);refine wpS_bind (yF B ?_);by_cases L:1=b.size
 .rw[iP (by simpa using L)];exact wpS_pure (hq _ _ (Sg.refl st) (H.dnB (by omega)))
 .rw[iN (by simpa using L)];by_cases G:0+1=a.size
  .rw[iP (by simpa using G)];exact wpS_pure (hq _ _ (Sg.refl st) (H.la G Z.lst))
  .rw[iN (by simpa using G)];refine wpS_bind (wpS_get ?_);refine wpS_bind (wpS_mono (m:=Sq a b (a.size+b.size) (none,#[y],0,1,gallopOf st)) (Q:=λc h=>Sg st h/\ ∃r e,c=(some r,e)/\FinA lt a b r) ?_ ?_)
   .unfold Sq;refine Ć (I:=λx c h=>Sg st h/\ ∃o i j g,c=(none,o,i,j,g)/\I1 lt a b o i j/\x+1<=o.size) ?_ ?_ ⟨Sg.refl st,_,_,_,_,rfl,⟨by omega,by omega,H⟩,by simp⟩
    .rintro n c h _ _ ⟨k,o,i,j,g,rfl,F,T⟩;dsimp only;refine wpS_bind (Ss Z (k.kind.trans K) (by omega) F λd hd=>?_);rcases hd with⟨r,e,rfl,p⟩|⟨o',i',j',p',q',rfl,hI',hn'⟩
     .exact wpS_pure ⟨k,r,_,rfl,p⟩
     .dsimp only;refine wpS_bind (eP ?_);refine wpS_bind (Su Z k K hI' hn' λe S q P=>?_);rcases P with⟨r,e,rfl,p⟩|⟨o2,i2,j2,g2,p2,q2,rfl,hI2,hn2⟩
      .exact wpS_pure ⟨q,r,_,rfl,p⟩
      .dsimp only;refine wpS_bind (DA q λO w=>?_);exact wpS_pure ⟨w,o2,i2,j2,_,rfl,hI2,by omega⟩
    .rintro c h ⟨k,o,i,j,g,rfl,F,T⟩;have:=F.2.2.len;omega
   .rintro c h ⟨k,r,e,rfl,p⟩;exact wpS_pure (hq r h k p)
end
end Srt
namespace Srt
open PySem PyProof.Rows
variable{o:V}{j:Nat}
abbrev H5:=Option V×Nat×Nat×V×Nat
abbrev H6:=Option V×Nat×Nat×V×Nat×Nat
abbrev H7:=Option V×Nat×Nat×V×Nat×Nat×Nat
noncomputable abbrev Fk(a b o:V)(i j:Nat):V:=a.extract 0 i++b.extract 0 j++o.reverse
noncomputable abbrev Vu(a b o:V)(i j:Nat):V:=b.extract 0 j++a.extract 0 i++o.reverse
def Sw(a b:V)(g:Nat)(c:H6):SM (ForInStep H6):=
 elem' b (c.2.2.1 - 1) >>= λy=>elem' a (c.2.1 - 1) >>= λx=>lt' y x >>= λr=>match r with
  |some q=>if q=true then elem' a (c.2.1 - 1) >>= λx=>
     if(c.2.1 - 1==0)=true then pure (.done (some (Fk a b (c.2.2.2.1.push x) (c.2.1 - 1) c.2.2.1),c.2.1 - 1,c.2.2.1,c.2.2.2.1.push x,c.2.2.2.2.1+1,0))
     else if c.2.2.2.2.1+1>=g then pure (.done (none,c.2.1 - 1,c.2.2.1,c.2.2.2.1.push x,c.2.2.2.2.1+1,0))
     else pure (.yield (none,c.2.1 - 1,c.2.2.1,c.2.2.2.1.push x,c.2.2.2.2.1+1,0))
    else elem' b (c.2.2.1 - 1) >>= λy=>
     if(c.2.2.1 - 1==1)=true then pure (.done (some (Vu a b (c.2.2.2.1.push y) c.2.1 (c.2.2.1 - 1)),c.2.1,c.2.2.1 - 1,c.2.2.2.1.push y,0,c.2.2.2.2.2+1))
     else if c.2.2.2.2.2+1>=g then pure (.done (none,c.2.1,c.2.2.1 - 1,c.2.2.2.1.push y,0,c.2.2.2.2.2+1))
     else pure (.yield (none,c.2.1,c.2.2.1 - 1,c.2.2.2.1.push y,0,c.2.2.2.2.2+1))
  |_=>pure (.done (some (Fk a b c.2.2.2.1 c.2.1 c.2.2.1),c.2.1,c.2.2.1,c.2.2.2.1,c.2.2.2.2.1,c.2.2.2.2.2))
def Sx(a b:V)(t g:Nat)(c:H6):SM H6:=forIn [0:t] c λ_ c=>Sw a b g c
def A3(a b o:V)(i j g p q:Nat):SM (ForInStep H7):=
 elem' a (i - 1) >>= λx=>if(i - 1==0)=true then pure (.done (some (Fk a b (o.push x) (i - 1) j),i - 1,j,o.push x,g,p,q))
  else if(decide (p<7)&&decide (q<7))=true then pure (.done (none,i - 1,j,o.push x,g,p,q))else pure (.yield (none,i - 1,j,o.push x,g,p,q))
def A4(a b o:V)(i j g p q:Nat):SM (ForInStep H7):=
 elem' b (j - 1) >>= λy=>if(j - 1==1)=true then pure (.done (some (Vu a b (o.push y) i (j - 1)),i,j - 1,o.push y,g,p,q))
  else elem' a (i - 1) >>= λx=>nQ true x b 0 (j - 1) (j - 1 - 1) >>= λr=>match r with
   |some k=>if j - 1 - k>0 then
      if(k==1)=true then pure (.done (some (Vu a b (o.push y++(b.extract k (j - 1)).reverse) i k),i,k,o.push y++(b.extract k (j - 1)).reverse,g,p,j - 1 - k))
      else if(k==0)=true then pure (.done (some (Fk a b (o.push y++(b.extract k (j - 1)).reverse) i k),i,k,o.push y++(b.extract k (j - 1)).reverse,g,p,j - 1 - k))
      else A3 a b (o.push y++(b.extract k (j - 1)).reverse) i k g p (j - 1 - k)
     else A3 a b (o.push y) i (j - 1) g p (j - 1 - k)
   |_=>pure (.done (some (Fk a b (o.push y) i (j - 1)),i,j - 1,o.push y,g,p,q))
def A5(a b o:V)(i j g p q:Nat):SM (ForInStep H7):=
 wL g >>= λ_=>elem' b (j - 1) >>= λy=>nQ false y a 0 i (i - 1) >>= λr=>match r with
  |some k=>if i - k>0 then
     if(k==0)=true then pure (.done (some (Fk a b (o++(a.extract k i).reverse) k j),k,j,o++(a.extract k i).reverse,g,i - k,q))
     else A4 a b (o++(a.extract k i).reverse) k j g (i - k) q
    else A4 a b o i j g (i - k) q
  |_=>pure (.done (some (Fk a b o i j),i,j,o,g,p,q))
def Sy(a b:V)(t:Nat)(c:H7):SM H7:=forIn [0:t] c λ_ c=>
 if c.2.2.2.2.1>1 then A5 a b c.2.2.2.1 c.2.1 c.2.2.1 (c.2.2.2.2.1 - 1) c.2.2.2.2.2.1 c.2.2.2.2.2.2
 else A5 a b c.2.2.2.1 c.2.1 c.2.2.1 c.2.2.2.2.1 c.2.2.2.2.2.1 c.2.2.2.2.2.2
def Sz(a b:V)(t:Nat)(c:H5):SM H5:=forIn [0:t] c λ_ c=>
 Sx a b t c.2.2.2.2 (none,c.2.1,c.2.2.1,c.2.2.2.1,0,0) >>= λd=>match d.1 with
  |some r=>pure (.done (some r,d.2.1,d.2.2.1,d.2.2.2.1,c.2.2.2.2))
  |none=>liftM (rule "list.sort.gallop") >>= λ_=>Sy a b t (none,d.2.1,d.2.2.1,d.2.2.2.1,c.2.2.2.2+1,d.2.2.2.2.1,d.2.2.2.2.2) >>= λe=>match e.1 with
   |some r=>pure (.done (some r,e.2.1,e.2.2.1,e.2.2.2.1,e.2.2.2.2.1))
   |none=>wL (e.2.2.2.2.1+1) >>= λ_=>pure (.yield (none,e.2.1,e.2.2.1,e.2.2.2.1,e.2.2.2.2.1+1))
def mHi(a b:V):SM V:=
 liftM (rule "list.sort.merge-hi") >>= λ_=>elem' a (a.size - 1) >>= λx=>if(a.size - 1==0)=true then pure (Fk a b #[x] (a.size - 1) b.size)
  else if(b.size==1)=true then pure (Vu a b #[x] (a.size - 1) b.size)
  else get >>= λst=>Sz a b (a.size+b.size) (none,a.size - 1,b.size,#[x],gallopOf st) >>= λc=>match c.1 with
   |some r=>pure r
   |none=>liftM (unsupported "internal:list.sort.merge-bound")
theorem OG(a b:V):EM a b=mHi a b:=by kernel_rfl
theorem KM(v:V)(i:Nat):(v.extract 0 i).toList=v.toList.take i:=by rw[Array.toList_extract,ĺ];rfl
def Ta(v:V)(t i:Nat):(v.extract t i).toList=(v.toList.take i).drop t:=by rw[Array.toList_extract,ĺ,drop_take]
def sY{β:Type}{l:List β}{t i:Nat}{z:β}(h:z∈(l.take i).drop t): ∃n,t<=n/\n<i/\l[n]? =some z:=by obtain⟨j,h1,a⟩:=wY h;rw[lT]at h1;rw[Ī (by omega)]at a;exact⟨t+j,by omega,by omega,a⟩
def DB{β:Type}{l:List β}{i:Nat}{x:β}(h:l[i]? =some x):l.take (i+1)=l.take i++[x]:=by obtain⟨hi,e⟩:=gS.mp h;rw[<-e];exact(List.take_append_getElem hi).symm
def OH{β:Type}{le:β->β->Prop}(rf: ∀x,le x x){l:List β}{i:Nat}{x:β}(h:(l.take (i+1)).Pairwise le)(e:l[i]? =some x): ∀z,z∈l.take (i+1)->le z x:=by
 rw[DB e]at h ⊢;intro z a;rcases é.mp a with q|q
 .exact(ê.mp h).2.2 z q x (mS.mpr rfl)
 .rw[mS.mp q];exact rf x
section
variable{M:Model}{A:Ō}{E:VP}{s:Ŋ}{kd:SortKind}{D:Keyed->Prop}{lt:Keyed->Keyed->Bool}{a b:V}
def UJ{l:List Keyed}{n:Nat}(h:(l.take n).Pairwise (Le lt))(rf: ∀x,Le lt x x):SL lt l 0 n:=by
 intro p q x y h1 i b a;rw[Ă]at b a;by_cases e:p=q
 .subst e;rw[b]at a;cases a;exact rf x
 .obtain⟨j,d⟩:=gS.mp b;obtain⟨k,c⟩:=gS.mp a;have:=List.pairwise_iff_getElem.mp h p q (by rw[lT];omega) (by rw[lT];omega) (by omega);rw[getElem_take,getElem_take,d,c]at this;exact this
abbrev TwoH(lt:Keyed->Keyed->Bool)(a b o:V)(i j:Nat):Prop:=TwoR (Le lt) (a.toList++b.toList) (a.toList.take i) (b.toList.take j) o.toList.reverse
def TwoH.sa{i:Nat}(h:TwoH lt a b o i j):(a.toList.take i).Pairwise (Le lt):=(ê.mp h.hx).1
def TwoH.sb{i:Nat}(h:TwoH lt a b o i j):(b.toList.take j).Pairwise (Le lt):=(ê.mp h.hy).1
def TwoH.pushA{i:Nat}{x:Keyed}(h:TwoH lt a b o (i+1) j)(e:a.toList[i]? =some x)(c: ∀y,y∈b.toList.take j->Le lt y x):TwoH lt a b (o.push x) i j:=by
 have h':TwoR (Le lt) (a.toList++b.toList) (a.toList.take i++[x]) (b.toList.take j) o.toList.reverse:=by rw[<-DB e];exact h
 have:=h'.movexs λy d z k=>by rw[mS.mp k];exact c y d
 show TwoR _ _ _ _ (o.push x).toList.reverse;rw[Array.toList_push,List.reverse_append];exact this
def TwoH.pushB{i:Nat}{y:Keyed}(h:TwoH lt a b o i (j+1))(e:b.toList[j]? =some y)(c: ∀x,x∈a.toList.take i->Le lt x y):TwoH lt a b (o.push y) i j:=by
 have h':TwoR (Le lt) (a.toList++b.toList) (a.toList.take i) (b.toList.take j++[y]) o.toList.reverse:=by rw[<-DB e];exact h
 have:=h'.moveys λx d z k=>by rw[mS.mp k];exact c x d
 show TwoR _ _ _ _ (o.push y).toList.reverse;rw[Array.toList_push,List.reverse_append];exact this
def UK(o v:V)(t i:Nat):(o++(v.extract t i).reverse).toList.reverse=(v.toList.take i).drop t++o.toList.reverse:=by rw[ü,List.reverse_append,Array.toList_reverse,List.reverse_reverse,Ta]
def TwoH.cutA{i t:Nat}(p:t<=i)(h:TwoH lt a b o i j)(c: ∀n z,t<=n->n<i->a.toList[n]? =some z-> ∀y,y∈b.toList.take j->Le lt y z):TwoH lt a b (o++(a.extract t i).reverse) t j:=by
 have h':TwoR (Le lt) (a.toList++b.toList) (a.toList.take t++(a.toList.take i).drop t) (b.toList.take j) o.toList.reverse:=by rw[<-EO _ t i p];exact h
 have:=h'.movexs λy d z m=>by obtain⟨n,h1,e,k⟩:=sY m;exact c n z h1 e k y d
 show TwoR _ _ _ _ (o++(a.extract t i).reverse).toList.reverse;rw[UK];exact this
def TwoH.cutB{i t:Nat}(p:t<=j)(h:TwoH lt a b o i j)(d: ∀n z,t<=n->n<j->b.toList[n]? =some z-> ∀x,x∈a.toList.take i->Le lt x z):TwoH lt a b (o++(b.extract t j).reverse) i t:=by
 have h':TwoR (Le lt) (a.toList++b.toList) (a.toList.take i) (b.toList.take t++(b.toList.take j).drop t) o.toList.reverse:=by rw[<-EO _ t j p];exact h
 have:=h'.moveys λx m z c=>by obtain⟨n,h1,e,k⟩:=sY c;exact d n z h1 e k x m
 show TwoR _ _ _ _ (o++(b.extract t j).reverse).toList.reverse;rw[UK];exact this
def TwoH.dn{i:Nat}(h:TwoH lt a b o i j)(hz:i=0\/j=0):FinA lt a b (Fk a b o i j):=by
 have e:(Fk a b o i j).toList=a.toList.take i++b.toList.take j++o.toList.reverse:=by rw[ü,ü,KM,KM,Array.toList_reverse]
 unfold FinA;rw[e];refine h.fin λx c y d=>?_;rcases hz with rfl|rfl
 .cases c
 .cases d
def TwoH.fb{i:Nat}(h:TwoH lt a b o i 1)(hz: ∀x y,x∈a.toList->b.toList[0]? =some y->Le lt y x):FinA lt a b (Vu a b o i 1):=by
 have e:(Vu a b o i 1).toList=b.toList.take 1++a.toList.take i++o.toList.reverse:=by rw[ü,ü,KM,KM,Array.toList_reverse]
 unfold FinA;rw[e];refine h.swap.fin λy c x j=>?_;obtain⟨n,h1,k,d⟩:=iE c;exact hz x y (mem_of_mem_take j) (by rw[show 0=n by omega];exact d)
theorem TwoH.len{i:Nat}(h:TwoH lt a b o i j)(h1:i<=a.size)(c:j<=b.size):o.size+(i+j)=a.size+b.size:=by
 have:=h.pm.length_eq;simp only[lA,lT,List.length_reverse,í]at this
 lia
def J1(lt:Keyed->Keyed->Bool)(a b o:V)(i j:Nat):Prop:=1<=i/\i<=a.size/\2<=j/\j<=b.size/\TwoH lt a b o i j
structure Set3(M:Model)(A:Ō)(E:VP)(s:Ŋ)(kd:SortKind)(D:Keyed->Prop)(lt:Keyed->Keyed->Bool)(a b:V):Prop extends Set2 M A E s kd D lt a b where
 fst: ∀x y,x∈a.toList->b.toList[0]? =some y->Le lt y x
def R6(lt:Keyed->Keyed->Bool)(a b:V)(n:Nat)(c:H6):Prop:= ∃i j o p q,c=(none,i,j,o,p,q)/\J1 lt a b o i j/\n<=o.size
def S6(lt:Keyed->Keyed->Bool)(a b:V)(n:Nat)(c:H6):Prop:=(∃r e,c=(some r,e)/\FinA lt a b r)\/R6 lt a b n c
def R7(lt:Keyed->Keyed->Bool)(a b:V)(n:Nat)(c:H7):Prop:= ∃i j o g p q,c=(none,i,j,o,g,p,q)/\J1 lt a b o i j/\n<=o.size
def S7(lt:Keyed->Keyed->Bool)(a b:V)(n:Nat)(c:H7):Prop:=(∃r e,c=(some r,e)/\FinA lt a b r)\/R7 lt a b n c
def R6.mono{n m:Nat}{c:H6}(h:R6 lt a b n c)(e:m<=n):R6 lt a b m c:=by obtain⟨o,i,j,p,q,h1,d,k⟩:=h;exact⟨o,i,j,p,q,h1,d,by omega⟩
def S6.mono{n m:Nat}{c:H6}(h:S6 lt a b n c)(e:m<=n):S6 lt a b m c:=h.imp id λh=>h.mono e
def Jp(Z:Set3 M A E s kd D lt a b){st:SortSt}(H:kindOf st=kd){i p q g:Nat}(h:J1 lt a b o i j){Q:ForInStep H6->SortSt->Prop}
  (hd: ∀c,S6 lt a b (o.size+1) c->Q (.done c) st) (hy: ∀c,R6 lt a b (o.size+1) c->Q (.yield c) st):wpS M A E s (Sw a b g (none,i,j,o,p,q)) Q st:=by
 obtain⟨h1,B,F,I,u⟩:=h;obtain⟨i,rfl⟩: ∃k,i=k+1:=⟨i - 1,by omega⟩
 obtain⟨j,rfl⟩: ∃k,j=k+1:=⟨j - 1,by omega⟩
 obtain⟨y,e⟩:=wR (v:=b) (i:=j) (by omega);obtain⟨x,ex⟩:=wR (v:=a) (i:=i) (by omega);have J:=OH Z.C.rf u.sb e;have G:=OH Z.C.rf u.sa ex;unfold Sw;simp only[add_sub_cancel];refine wpS_bind (yF e (wpS_bind (yF ex (wpS_bind (Z.C.go y x (Z.db y (è e)) (Z.da x (è ex)) st H _ ?_)))))
 cases r:lt y x with
 |true=>
  have m:=u.pushA ex λz w=>Z.C.tr z y x (J z w) (Z.C.as y x r);have hs:(o.push x).size=o.size+1:=ĝ ..;refine wpS_bind (yF ex ?_);by_cases d:i=0
  .rw[iP (by simpa using d)];exact wpS_pure (hd _ (.inl ⟨_,_,rfl,m.dn (.inl d)⟩))
  .rw[iN (by simpa using d)];have n:J1 lt a b (o.push x) i (j+1):=⟨by omega,by omega,F,I,m⟩
   split
   .exact wpS_pure (hd _ (.inr ⟨_,_,_,_,_,rfl,n,by omega⟩))
   .exact wpS_pure (hy _ ⟨_,_,_,_,_,rfl,n,by omega⟩)
 |false=>
  have m:=u.pushB e λz w=>Z.C.tr z x y (G z w) r;have hs:(o.push y).size=o.size+1:=ĝ ..;refine wpS_bind (yF e ?_);by_cases d:j=1
  .rw[iP (by simpa using d)];subst d;exact wpS_pure (hd _ (.inl ⟨_,_,rfl,m.fb Z.fst⟩))
  .rw[iN (by simpa using d)];have n:J1 lt a b (o.push y) (i+1) j:=⟨h1,B,by omega,by omega,m⟩
   split
   .exact wpS_pure (hd _ (.inr ⟨_,_,_,_,_,rfl,n,by omega⟩))
   .exact wpS_pure (hy _ ⟨_,_,_,_,_,rfl,n,by omega⟩)
def Jq(Z:Set3 M A E s kd D lt a b){st:SortSt}(k:kindOf st=kd){i g t:Nat}(u:1<=t)(h:J1 lt a b o i j){Q:H6->SortSt->Prop}
  (hq: ∀c,S6 lt a b (o.size+1) c->Q c st):wpS M A E s (Sx a b t g (none,i,j,o,0,0)) Q st:=by
 unfold Sx;refine Ć (I:=λx c d=>d=st/\R6 lt a b (o.size+x) c) ?_ ?_ ⟨rfl,i,j,o,0,0,rfl,h,by omega⟩
 .rintro x c d _ _ ⟨rfl,p,r,o',q,n,rfl,h',v⟩;refine Jp Z k h' (λc e=>hq c (e.mono (by omega))) (λc e=>⟨rfl,e.mono (by omega)⟩)
 .rintro c d ⟨rfl,m⟩;exact hq c (.inr (m.mono (by omega)))
def Bw(Z:Set3 M A E s kd D lt a b){st:SortSt}{i g p q:Nat}(h1:i+1<=a.size)(m:2<=j)(e:j<=b.size)(r:TwoH lt a b o (i+1) j)
  (hl: ∀x,a.toList[i]? =some x-> ∀y,y∈b.toList.take j->Le lt y x) {n:Nat} (hn:n<=o.size) {Q:ForInStep H7->SortSt->Prop}
  (hd: ∀c,S7 lt a b n c->Q (.done c) st) (hy: ∀c,R7 lt a b n c->Q (.yield c) st):wpS M A E s (A3 a b o (i+1) j g p q) Q st:=by
 obtain⟨x,ex⟩:=wR (v:=a) (i:=i) (by omega);have h:=r.pushA ex (hl x ex);have hs:(o.push x).size=o.size+1:=ĝ ..;unfold A3;simp only[add_sub_cancel];refine wpS_bind (yF ex ?_);by_cases d:i=0
 .rw[iP (by simpa using d)];exact wpS_pure (hd _ (.inl ⟨_,_,rfl,h.dn (.inl d)⟩))
 .rw[iN (by simpa using d)];have k:J1 lt a b (o.push x) i j:=⟨by omega,by omega,m,e,h⟩
  split
  .exact wpS_pure (hd _ (.inr ⟨_,_,_,_,_,_,rfl,k,by omega⟩))
  .exact wpS_pure (hy _ ⟨_,_,_,_,_,_,rfl,k,by omega⟩)
def Bx(Z:Set3 M A E s kd D lt a b){st:SortSt}(T:kindOf st=kd){i g p q:Nat}(h1:i+1<=a.size)(h2:1<=j)(X:j+1<=b.size)(O:TwoH lt a b o (i+1) (j+1))
  (hl: ∀y,b.toList[j]? =some y-> ∀x,x∈a.toList.take (i+1)->Le lt x y) {n:Nat} (hn:n<=o.size) {Q:ForInStep H7->SortSt->Prop}
  (hd: ∀c,S7 lt a b n c->Q (.done c) st) (hy: ∀c,R7 lt a b n c->Q (.yield c) st):wpS M A E s (A4 a b o (i+1) (j+1) g p q) Q st:=by
 obtain⟨y,G⟩:=wR (v:=b) (i:=j) (by omega);obtain⟨x,ex⟩:=wR (v:=a) (i:=i) (by omega);have w:=O.pushB G (hl y G);have hs:(o.push y).size=o.size+1:=ĝ ..;have W:=OH Z.C.rf O.sa ex;unfold A4;simp only[add_sub_cancel];refine wpS_bind (yF G ?_);by_cases K:j=1
 .rw[iP (by simpa using K)];subst K;exact wpS_pure (hd _ (.inl ⟨_,_,rfl,w.fb Z.fst⟩))
 .rw[iN (by simpa using K)];refine wpS_bind (yF ex (wpS_bind (KH Z.C T Z.db (Z.da x (è ex)) (by omega) (by omega) (UJ w.sb Z.C.rf) λk k1 k2 k3=>?_)));dsimp only;have r: ∀h,h∈b.toList.take k->Le lt h x:=by intro h e;obtain⟨m,Y,m2,S⟩:=iE e;exact Z.C.as _ _ (k2 m h Y (by rw[Ă];exact S))
  by_cases N:j - k>0
  .rw[iP N];have L:=w.cutB k1 λm z F B U u d=>Z.C.tr u x z (W u d) (k3 m z F B (by rw[Ă];exact U));have P:(o.push y++(b.extract k j).reverse).size>=o.size+1:=by rw[Array.size_append];omega
   by_cases I:k=1
   .rw[iP (by simpa using I)];subst I;exact wpS_pure (hd _ (.inl ⟨_,_,rfl,L.fb Z.fst⟩))
   .rw[iN (by simpa using I)];by_cases H:k=0
    .rw[iP (by simpa using H)];exact wpS_pure (hd _ (.inl ⟨_,_,rfl,L.dn (.inr H)⟩))
    .rw[iN (by simpa using H)];refine Bw Z h1 (by omega) (by omega) L (λu d h e=>?_) (by omega) hd hy;rw[ex]at d;cases d;exact r h e
  .rw[iN N];have J:k=j:=by omega
   subst J;refine Bw Z h1 (by omega) (by omega) w (λu d h e=>?_) (by omega) hd hy;rw[ex]at d;cases d;exact r h e
def By(Z:Set3 M A E s kd D lt a b){u st:SortSt}(hg:Sg u st)(X:kindOf u=kd){i g p q:Nat}(h:J1 lt a b o i j){n:Nat}(hn:n<=o.size)
  {Q:ForInStep H7->SortSt->Prop} (hd: ∀c st,Sg u st->S7 lt a b n c->Q (.done c) st) (hy: ∀c st,Sg u st->R7 lt a b n c->Q (.yield c) st):
  wpS M A E s (A5 a b o i j g p q) Q st:=by
 obtain⟨h1,h2,h3,h4,J⟩:=h;obtain⟨j,rfl⟩: ∃k,j=k+1:=⟨j - 1,by omega⟩
 obtain⟨y,G⟩:=wR (v:=b) (i:=j) (by omega);have hb:=OH Z.C.rf J.sb G;unfold A5;simp only[add_sub_cancel];refine wpS_bind (DA hg λN e=>?_);have B:kindOf N=kd:=e.kind.trans X;refine wpS_bind (yF G (wpS_bind (KG Z.C B Z.da (Z.db y (è G)) (by omega) (by omega) (UJ J.sa Z.C.rf) λk k1 k2 k3=>?_)));dsimp only;have H: ∀w,w∈a.toList.take k->Le lt w y:=by intro w r;obtain⟨m,m1,m2,W⟩:=iE r;exact k2 m w m1 (by rw[Ă];exact W)
 by_cases T:i - k>0
 .rw[iP T];have S:=J.cutA k1 λm z L K Y I d=>Z.C.tr I y z (hb I d) (Z.C.as _ _ (k3 m z L K (by rw[Ă];exact Y)));have U:(o++(a.extract k i).reverse).size>=o.size:=by rw[Array.size_append];omega
  by_cases P:k=0
  .rw[iP (by simpa using P)];exact wpS_pure (hd _ _ e (.inl ⟨_,_,rfl,S.dn (.inl P)⟩))
  .rw[iN (by simpa using P)];obtain⟨k,rfl⟩: ∃m,k=m+1:=⟨k - 1,by omega⟩
   refine Bx Z B (by omega) (by omega) (by omega) S (λI d w r=>?_) (by omega) (λc F=>hd c _ e F) (λc F=>hy c _ e F);rw[G]at d;cases d;exact H w r
 .rw[iN T];have O:k=i:=by omega
  subst O;obtain⟨k,rfl⟩: ∃m,k=m+1:=⟨k - 1,by omega⟩
  refine Bx Z B (by omega) (by omega) (by omega) J (λI d w r=>?_) hn (λc F=>hd c _ e F) (λc F=>hy c _ e F);rw[G]at d;cases d;exact H w r
def Jr(Z:Set3 M A E s kd D lt a b){d st:SortSt}(v:Sg d st)(u:kindOf d=kd){i g p q t:Nat}(h:J1 lt a b o i j){n:Nat}(w:n<=o.size)
  {Q:H7->SortSt->Prop} (hq: ∀c st,Sg d st->S7 lt a b n c->Q c st):wpS M A E s (Sy a b t (none,i,j,o,g,p,q)) Q st:=by
 unfold Sy;refine Ć (I:=λx c k=>Sg d k/\R7 lt a b n c) ?_ ?_ ⟨v,i,j,o,g,p,q,rfl,h,w⟩
 .rintro x c k _ _ ⟨e,B,F,o',G,C,z,rfl,h',r⟩;dsimp only;split
  .exact By Z e u h' r (λc st hs m=>hq c st hs m) (λc st hs m=>⟨hs,m⟩)
  .exact By Z e u h' r (λc st hs m=>hq c st hs m) (λc st hs m=>⟨hs,m⟩)
 .rintro c k ⟨e,y⟩;exact hq c k e (.inr y)
def Tb(Z:Set3 M A E s kd D lt a b){st:SortSt}(F:kindOf st=kd)(sa:a.toList.Pairwise (Le lt))(sb:b.toList.Pairwise (Le lt))(L:1<=a.size)(nb:1<=b.size)
  {Q:V->SortSt->Prop} (hq: ∀r h,Sg st h->FinA lt a b r->Q r h):wpS M A E s (EM a b) Q st:=by
 rw[OG];unfold mHi;refine wpS_bind (eP ?_);obtain⟨x,ex⟩:=wR (v:=a) (i:=a.size - 1) (by omega)
 have K:TwoH lt a b #[] (a.size - 1+1) b.size:=by
  rw[Nat.sub_add_cancel L];refine⟨?_,?_,?_⟩
  .rw[Ā (by simp)];simpa using sa
  .rw[Ā (by simp)];simpa using sb
  .rw[Ā (by simp),Ā (by simp)];simp
 have w:TwoH lt a b #[x] (a.size - 1) b.size:=K.pushA ex λy N=>Z.lst x y ex (mem_of_mem_take N);refine wpS_bind (yF ex ?_);by_cases C:a.size - 1=0
 .rw[iP (by simpa using C)];exact wpS_pure (hq _ _ (Sg.refl st) (w.dn (.inl C)))
 .rw[iN (by simpa using C)];by_cases z:b.size=1
  .rw[iP (by simpa using z)];rw[z]at w ⊢;exact wpS_pure (hq _ _ (Sg.refl st) (w.fb Z.fst))
  .rw[iN (by simpa using z)];refine wpS_bind (wpS_get ?_);refine wpS_bind (wpS_mono (m:=Sz a b (a.size+b.size) (none,a.size - 1,b.size,#[x],gallopOf st)) (Q:=λc h=>Sg st h/\ ∃r e,c=(some r,e)/\FinA lt a b r) ?_ ?_)
   .unfold Sz;refine Ć (I:=λx c h=>Sg st h/\ ∃i j o g,c=(none,i,j,o,g)/\J1 lt a b o i j/\x+1<=o.size) ?_ ?_ ⟨Sg.refl st,_,_,_,_,rfl,⟨by omega,by omega,by omega,by omega,w⟩,by simp⟩
    .rintro n c h _ _ ⟨k,i,j,o,g,rfl,u,O⟩;dsimp only;refine wpS_bind (Jq Z (k.kind.trans F) (by omega) u λd hd=>?_);rcases hd with⟨r,e,rfl,p⟩|⟨i',j',o',p',q',rfl,hI',hn'⟩
     .exact wpS_pure ⟨k,r,_,rfl,p⟩
     .dsimp only;refine wpS_bind (eP ?_);refine wpS_bind (Jr Z k F hI' hn' λe J q H=>?_);rcases H with⟨r,e,rfl,p⟩|⟨i2,j2,o2,g2,p2,q2,rfl,hI2,hn2⟩
      .exact wpS_pure ⟨q,r,_,rfl,p⟩
      .dsimp only;refine wpS_bind (DA q λG B=>?_);exact wpS_pure ⟨B,i2,j2,o2,_,rfl,hI2,by omega⟩
    .rintro c h ⟨k,i,j,o,g,rfl,u,O⟩;have:=u.2.2.2.2.len u.2.1 u.2.2.2.1;omega
   .rintro c h ⟨k,r,e,rfl,p⟩;exact wpS_pure (hq r h k p)
end
end Srt
namespace Srt
open PySem PyProof.Rows
variable{j m:Nat}{v:V}
abbrev C2:=Option (Option Nat)×Nat
abbrev C3:=Option (Option Nat)×Nat×Nat
noncomputable def Tc(lo a n:Nat):SM C2:=forIn [a:n] ((none,a):C2) λ_ c=>ltAt' (lo+c.2) (lo+c.2 - 1) >>= λo=>match o with
 |some q=>if q=true then pure (.done (none,c.2))else pure (.yield (none,c.2+1))
 |_=>pure (.done (some none,c.2))
def tl3(lo m n:Nat):SM (Option Nat):=reverseSlice' lo (lo+m) >>= λ_=>Tc lo m n >>= λc=>match c.1 with
 |some r=>pure r
 |none=>pure (some c.2)
noncomputable def Td(lo a n:Nat):SM C3:=forIn [a:n] ((none,a,0):C3) λ_ c=>ltAt' (lo+c.2.1) (lo+c.2.1 - 1) >>= λo=>match o with
 |some q=>if q=true then
    if c.2.2>0 then reverseSlice' (lo+c.2.1 - (c.2.2+1)) (lo+c.2.1) >>= λ_=>pure (.yield (none,c.2.1+1,0))else pure (.yield (none,c.2.1+1,0))
   else ltAt' (lo+c.2.1 - 1) (lo+c.2.1) >>= λo=>match o with
    |some q=>if q=true then pure (.done (none,c.2.1,c.2.2))else pure (.yield (none,c.2.1+1,c.2.2+1))
    |_=>pure (.done (some none,c.2.1,c.2.2))
 |_=>pure (.done (some none,c.2.1,c.2.2))
def Te(lo m n:Nat):SM (Option Nat):=liftM (rule "list.sort.descending-run") >>= λ_=>Td lo (m+1) n >>= λc=>match c.1 with
 |some r=>pure r
 |none=>if c.2.2>0 then reverseSlice' (lo+c.2.1 - (c.2.2+1)) (lo+c.2.1) >>= λ_=>tl3 lo c.2.1 n else tl3 lo c.2.1 n
def Yi(lo n:Nat):SM (Option Nat):=Tc lo 1 n >>= λc=>match c.1 with
 |some r=>pure r
 |none=>if(c.2==n)=true then pure (some c.2)else if c.2>1 then ltAt' lo (lo+c.2 - 1) >>= λo=>(match o with
    |some q=>if q=true then pure (some c.2)else reverseSlice' lo (lo+c.2) >>= λ_=>Te lo c.2 n
    |_=>pure none)
   else Te lo c.2 n
theorem GO(lo n:Nat):countRun' lo n=Yi lo n:=by kernel_rfl
noncomputable def binI(lo k:Nat):SM (Option Bool×Nat×Nat):=forIn [0:k] ((none,0,k):Option Bool×Nat×Nat) λ_ c=>
 if c.2.1>=c.2.2 then pure (.done (none,c.2.1,c.2.2))else ltAt' (lo+k) (lo+(c.2.1+c.2.2) / 2) >>= λo=>match o with
  |some q=>if q=true then pure (.yield (none,c.2.1,(c.2.1+c.2.2) / 2))else pure (.yield (none,(c.2.1+c.2.2) / 2+1,c.2.2))
  |_=>pure (.done (some false,c.2.1,c.2.2))
def Yj(lo n ok:Nat):SM Bool:=(forIn [max ok 1:n] ((none,()):Option Bool×Unit) λk _=>binI lo k >>= λc=>match c.1 with
  |some r=>pure (.done (some r,()))
  |none=>moveDown' (lo+k) (lo+c.2.1) >>= λ_=>pure (.yield (none,()))) >>= λc=>match c.1 with
 |some r=>pure r
 |none=>pure true
theorem CO(lo n ok:Nat):binarySort' lo n ok=Yj lo n ok:=by kernel_rfl
noncomputable def Kx(d:Keyed)(v:V)(i:Nat):Keyed:=(v[i]?).getD d
def qF{d:Keyed}{u:V}{i:Nat}(h:v[i]? =u[j]?):Kx d v i=Kx d u j:=by unfold Kx;rw[h]
def AC{d:Keyed}{i:Nat}(a:j<=v.size)(k:Nat):Kx d (mirror v i j ((j - i) / 2)) k=if i<=k/\k<j then Kx d v (i+j - 1 - k)else Kx d v k:=by
 have e:=getElem?_mirror_all (i:=i) a k;by_cases h1:i<=k/\k<j
 .rw[iP h1]at e ⊢; exact qF e
 .rw[iN h1]at e ⊢; exact qF e
def IA{d:Keyed}{a:Nat}(hs:a<v.size)(c:m<=a)(k:Nat):
  Kx d (bubble v a m) k=if k=a - m then Kx d v a else if a - m<k/\k<=a then Kx d v (k - 1)else Kx d v k:=by
 have e:=getElem?_bubble hs m c k;by_cases h1:k=a - m
 .rw[iP h1]at e ⊢; exact qF e
 .rw[iN h1]at e ⊢;by_cases b:a - m<k/\k<=a
  .rw[iP b]at e ⊢; exact qF e
  .rw[iN b]at e ⊢; exact qF e
structure SB(a₀:V)(kd:SortKind)(pd:Array (Nat×Nat×Nat))(f:V)(lo:Nat)(st:SortSt):Prop where
 pm:(arrOf st).Perm a₀
 kind:kindOf st=kd
 fl:failedOf st=none
 pd:pendingOf st=pd
 fx: ∀i,i<lo->(arrOf st)[i]? =f[i]?
section
variable{M:Model}{A:Ō}{E:VP}{s:Ŋ}{kd:SortKind}{D:Keyed->Prop}{lt:Keyed->Keyed->Bool}{a₀ f:V}{pd:Array (Nat×Nat×Nat)}{lo:Nat}{st:SortSt}{d:Keyed}
def SB.size(h:SB a₀ kd pd f lo st):(arrOf st).size=a₀.size:=h.pm.size_eq
theorem SB.rev(h:SB a₀ kd pd f lo st){i:Nat}(hi:lo<=i)(a:j<=a₀.size):SB a₀ kd pd f lo (setArr st (mirror (arrOf st) i j ((j - i) / 2))):=
 ⟨(mirror_perm _ _ _ _).trans h.pm,h.kind,h.fl,h.pd,λk b=>by show _[k]? =_;rw[getElem?_mirror_all (by rw[h.size];exact a),iN #[0]];exact h.fx k b⟩
theorem SB.bub(h:SB a₀ kd pd f lo st){i:Nat}(hi:lo+m<=i)(a:i<a₀.size):SB a₀ kd pd f lo (setArr st (bubble (arrOf st) i m)):=
 ⟨(bubble_perm _ _ _).trans h.pm,h.kind,h.fl,h.pd,λk b=>by show _[k]? =_;rw[getElem?_bubble (by rw[h.size];exact a) _ #[0],iN #[0],iN #[0]];exact h.fx k b⟩
def uD(C:Cmp M A E s kd D lt)(h:SB a₀ kd pd f lo st)(b: ∀x,x∈a₀.toList->D x){i:Nat}(hi:i<a₀.size)(c:j<a₀.size){Q:Option Bool->SortSt->Prop}
  (hq:Q (some (lt (Kx d (arrOf st) i) (Kx d (arrOf st) j))) st):wpS M A E s (ltAt' i j) Q st:=by
 obtain⟨x,ex⟩:=wR (by rw[h.size];exact hi);obtain⟨y,a⟩:=wR (by rw[h.size];exact c);have m:=(ĵ.mp h.pm).mem_iff.mp (è ex);have n:=(ĵ.mp h.pm).mem_iff.mp (è a);have k:Kx d (arrOf st) i=x:=by unfold Kx;rw[<-ò,ex];rfl
 have e:Kx d (arrOf st) j=y:=by unfold Kx;rw[<-ò,a];rfl
 rw[k,e]at hq;refine wpS_bind (wpS_get ?_);exact wpS_bind (yF ex (wpS_bind (yF a (C.go x y (b x m) (b y n) st h.kind _ hq))))
def KN{i:Nat}{Q:Unit->SortSt->Prop}(h:Q () (setArr st (mirror (arrOf st) i j ((j - i) / 2)))):wpS M A E s (reverseSlice' i j) Q st:=by rw[reverseSlice'_eq];exact wpS_modify h
def Up(lt:Keyed->Keyed->Bool)(d:Keyed)(v:V)(lo n:Nat):Prop:= ∀i j,i<=j->j<n->Le lt (Kx d v (lo+i)) (Kx d v (lo+j))
def Dn(lt:Keyed->Keyed->Bool)(d:Keyed)(v:V)(lo n:Nat):Prop:= ∀i j,i<=j->j<n->Le lt (Kx d v (lo+j)) (Kx d v (lo+i))
theorem Up.step(C:Cmp M A E s kd D lt){x:Nat}(hs:Up lt d v lo x)(m:1<=x)(h:lt (Kx d v (lo+x)) (Kx d v (lo+x - 1))=false):Up lt d v lo (x+1):=by
 intro i j e k;by_cases c:j<x
 .exact hs i j e c
 .have b:j=x:=by lia
  subst b;by_cases a:i=j
  .subst a;exact C.rf _
  .have:=hs i (j - 1) #[0] #[0];rw[show lo+(j - 1)=lo+j - 1 by lia]at this;exact C.tr _ _ _ this h
theorem UL(C:Cmp M A E s kd D lt)(o: ∀x,x∈a₀.toList->D x)(h:SB a₀ kd pd f lo st){a n:Nat}(r:lo+n<=a₀.size)(q:1<=a)(i:a<=n)(hs:Up lt d (arrOf st) lo a){Q:C2->SortSt->Prop}
  (hq: ∀m,a<=m->m<=n->Up lt d (arrOf st) lo m->(m=n\/lt (Kx d (arrOf st) (lo+m)) (Kx d (arrOf st) (lo+m - 1))=true)->Q (none,m) st):wpS M A E s (Tc lo a n) Q st:=by
 refine Ć (I:=λx c e=>e=st/\c=(none,x)/\Up lt d _ lo x) ?_ ?_ ⟨rfl,rfl,hs⟩
 .rintro x c e j p ⟨rfl,rfl,b⟩;refine wpS_bind (uD (d:=d) C h o #[0] #[0] ?_)
  cases k:lt _ _ with
  |true=>exact wpS_pure (hq x j #[0] b (.inr k))
  |false=>exact wpS_pure ⟨rfl,rfl,b.step C #[0] k⟩
 .rintro c e ⟨rfl,rfl,b⟩;rw[show max a n=n by lia]at b ⊢;exact hq n i (à _) b (.inl rfl)
theorem Up.of_mirror(h:SB a₀ kd pd f lo st)(a:lo+m<=a₀.size)(hs:Dn lt d (arrOf st) lo m):Up lt d (mirror (arrOf st) lo (lo+m) ((lo+m - lo) / 2)) lo m:=by intro i j b c;rw[AC (by rw[h.size];exact a),AC (by rw[h.size];exact a),iP (by omega),iP #[0]];have:=hs (m - 1 - j) (m - 1 - i) (by omega) (by omega);rw[show lo+(m - 1 - j)=lo+(lo+m) - 1 - (lo+j) by omega,show lo+_=lo+(lo+m) - 1 - (lo+i) by omega]at this;exact this
theorem Bz(C:Cmp M A E s kd D lt)(c: ∀x,x∈a₀.toList->D x)(h:SB a₀ kd pd f lo st){n:Nat}(i:lo+n<=a₀.size)(h1:1<=m)(b:m<=n)(hs:Dn lt d (arrOf st) lo m){Q:Option Nat->SortSt->Prop}
  (hq: ∀m a,SB a₀ kd pd f lo a->1<=m->m<=n->Up lt d (arrOf a) lo m->Q (some m) a):wpS M A E s (tl3 lo m n) Q st:=by
 refine wpS_bind (KN ?_);have h':=h.rev (j:=lo+m) (à _) #[0];exact wpS_bind (UL C c h' i h1 b (Up.of_mirror h #[0] hs) λk k1 k2 e _=>wpS_pure (hq k _ h' #[0] k2 e))
def Yk(lt:Keyed->Keyed->Bool)(d:Keyed)(v:V)(i j:Nat):Prop:= ∀k l,i<=k->k<j->i<=l->l<j->Le lt (Kx d v k) (Kx d v l)
def Dn.mirror(C:Cmp M A E s kd D lt)(h:SB a₀ kd pd f lo st){i n:Nat}(e:j<=a₀.size)(c:Yk lt d (arrOf st) i j)(hs:Dn lt d (arrOf st) lo n):Dn lt d (mirror (arrOf st) i j ((j - i) / 2)) lo n:=by
 have a: ∀k,Le lt (Kx d (PyProof.Rows.mirror (arrOf st) i j ((j - i) / 2)) k) (Kx d (arrOf st) k)/\Le lt (Kx d (arrOf st) k) (Kx d (PyProof.Rows.mirror (arrOf st) i j ((j - i) / 2)) k):=by
  intro k;rw[AC (by rw[h.size];exact e)];split
  .exact⟨c _ _ (by omega) (by omega) (by omega) (by omega),c _ _ (by omega) (by omega) (by omega) (by omega)⟩
  .exact⟨C.rf _,C.rf _⟩
 intro p q b m;exact C.tr _ _ _ (a _).1 (C.tr _ _ _ (hs p q b m) (a _).2)
theorem Jt(C:Cmp M A E s kd D lt)(H: ∀x,x∈a₀.toList->D x)(h:SB a₀ kd pd f lo st){a n:Nat}(Y:lo+n<=a₀.size)(h1:1<=a)(F:a<=n)(hs:Dn lt d (arrOf st) lo a){Q:C3->SortSt->Prop}
  (hq: ∀m e b,SB a₀ kd pd f lo b->a<=m->m<=n->Dn lt d (arrOf b) lo m->e+1<=m->Yk lt d (arrOf b) (lo+m - (e+1)) (lo+m)->Q (none,m,e) b):wpS M A E s (Td lo a n) Q st:=by
 unfold Td
 refine Ć (I:=λx c b=> ∃e,c=(none,x,e)/\SB a₀ kd pd f lo b/\Dn lt d (arrOf b) lo x/\e+1<=x/\Yk lt d (arrOf b) (lo+x - (e+1)) (lo+x)) ?_ ?_
  ⟨0,rfl,h,hs,by lia,λk l h1 O S T=>by rw[show k=l by lia];exact C.rf _⟩
 .rintro x c b B U ⟨e,rfl,p,o,q,r⟩;dsimp only;have one: ∀v:V,Yk lt d v (lo+(x+1) - (0+1)) (lo+(x+1)):=λv k l h1 O S T=>by rw[show k=l by lia];exact C.rf _
  refine wpS_bind (uD (d:=d) C p H #[0] #[0] ?_)
  cases K:lt _ _ with
  |true=>
   have J:Dn lt d (arrOf b) lo (x+1):=by
    intro i j z N;by_cases w:j<x
    .exact o i j z w
    .have y:j=x:=by lia
     subst y;by_cases u:i=j
     .subst u;exact C.rf _
     .have:=o i (j - 1) #[0] #[0];rw[show lo+(j - 1)=lo+j - 1 by lia]at this;exact C.tr _ _ _ (C.as _ _ K) this
   dsimp only;rw[iP rfl];by_cases L:e>0
   .rw[iP L];refine wpS_bind (KN (wpS_pure ⟨0,rfl,p.rev #[0] #[0],J.mirror C p #[0] r,by lia,one _⟩))
   .rw[iN L];exact wpS_pure ⟨0,rfl,p,J,by lia,one _⟩
  |false=>
   dsimp only;rw[iN (by simp)];refine wpS_bind (uD (d:=d) C p H #[0] #[0] ?_)
   cases G:lt _ _ with
   |true=>exact wpS_pure (hq x e b p B #[0] o q r)
   |false=>
    refine wpS_pure ⟨_,rfl,p,λi j z N=>?_,by lia,λk l k1 k2 X W=>?_⟩
    .by_cases w:j<x
     .exact o i j z w
     .have y:j=x:=by lia
      subst y;by_cases u:i=j
      .subst u;exact C.rf _
      .have:=o i (j - 1) #[0] #[0];rw[show lo+(j - 1)=lo+j - 1 by lia]at this;exact C.tr _ _ _ G this
    .by_cases P:k=lo+x
     .subst P;by_cases cl:l=lo+x
      .subst cl;exact C.rf _
      .exact C.tr _ _ _ G (r _ _ #[0] #[0] #[0] #[0])
     .by_cases cl:l=lo+x
      .subst cl;exact C.tr _ _ _ (r k _ #[0] #[0] #[0] #[0]) K
      .exact r _ _ #[0] #[0] #[0] #[0]
 .rintro c b ⟨e,rfl,p,o,q,r⟩;rw[show max a n=n by lia]at o q r ⊢;exact hq n e b p F (à _) o q r
theorem UM(C:Cmp M A E s kd D lt)(b: ∀x,x∈a₀.toList->D x)(h:SB a₀ kd pd f lo st){n:Nat}(i:lo+n<=a₀.size)(q:m+1<=n)(hs:Dn lt d (arrOf st) lo (m+1)){Q:Option Nat->SortSt->Prop}
  (hq: ∀m a,SB a₀ kd pd f lo a->1<=m->m<=n->Up lt d (arrOf a) lo m->Q (some m) a):wpS M A E s (Te lo m n) Q st:=by
 refine wpS_bind (eP ?_);refine wpS_bind (Jt C b h i #[0] q hs λk e a c k1 k2 o r p=>?_);by_cases j:e>0
 .rw[iP j];exact wpS_bind (KN (Bz C b (c.rev #[0] #[0]) i #[0] k2 (o.mirror C c #[0] p) hq))
 .rw[iN j];exact Bz C b c i #[0] k2 o hq
theorem UN(C:Cmp M A E s kd D lt)(o: ∀x,x∈a₀.toList->D x)(h:SB a₀ kd pd f lo st){n:Nat}(u:lo+n<=a₀.size)(h1:1<=n){Q:Option Nat->SortSt->Prop}
  (hq: ∀m b,SB a₀ kd pd f lo b->1<=m->m<=n->Up lt d (arrOf b) lo m->Q (some m) b):wpS M A E s (countRun' lo n) Q st:=by
 rw[GO];unfold Yi;refine wpS_bind (UL (d:=d) C o h u (à 1) h1 (λi j e v=>by rw[show i=j by lia];exact C.rf _) λm z B hs r=>?_);dsimp only;by_cases p:m=n
 .rw[iP (by simpa using p)];exact wpS_pure (hq m st h z B hs)
 .rw[iN (by simpa using p)];have c:=r.resolve_left p;by_cases y:m>1
  .rw[iP y];refine wpS_bind (uD (d:=d) C h o #[0] #[0] ?_)
   cases G:lt _ _ with
   |true=>exact wpS_pure (hq m st h z B hs)
   |false=>
    have all:Yk lt d (arrOf st) lo (lo+m):=by intro k l k1 k2 I J;have w:=hs 0 (l - lo) #[0] #[0];have F:=hs (k - lo) (m - 1) #[0] #[0];rw[show lo+0=lo by lia,show lo+_=l by lia]at w;rw[show lo+(k - lo)=k by lia,show lo+(m - 1)=lo+m - 1 by lia]at F;exact C.tr _ _ _ F (C.tr _ _ _ G w)
    have dn:Dn lt d (arrOf st) lo (m+1):=by
     intro i j e v;by_cases H:j<m
     .exact all _ _ #[0] #[0] #[0] #[0]
     .have q:j=m:=by lia
      subst q;by_cases a:i=j
      .subst a;exact C.rf _
      .exact C.tr _ _ _ (C.as _ _ c) (all _ _ #[0] #[0] #[0] #[0])
    dsimp only;rw[iN (by simp)];exact wpS_bind (KN (UM C o (h.rev (à _) #[0]) u #[0] (dn.mirror C h #[0] all) hq))
  .rw[iN y];have:m=1:=by lia
   subst this;refine UM C o h u #[0] (λi j e v=>?_) hq;by_cases a:i=j
   .subst a;exact C.rf _
   .rw[show i=0 by lia,show j=1 by lia];exact C.as _ _ c
theorem UO(C:Cmp M A E s kd D lt)(O: ∀x,x∈a₀.toList->D x)(h:SB a₀ kd pd f lo st){n ok:Nat}(S:lo+n<=a₀.size)(N:ok<=n)(hs:Up lt d (arrOf st) lo ok){Q:Bool->SortSt->Prop}
  (hq: ∀a,SB a₀ kd pd f lo a->Up lt d (arrOf a) lo n->Q true a):wpS M A E s (binarySort' lo n ok) Q st:=by
 rw[CO];unfold Yj
 refine wpS_bind (wpS_mono (Ć (I:=λk c a=>c=(none,())/\SB a₀ kd pd f lo a/\Up lt d (arrOf a) lo (min k n))
  (Q:=λc a=>c=(none,())/\SB a₀ kd pd f lo a/\Up lt d (arrOf a) lo n) ?_ ?_ ?_) ?_)
 .rintro k c a G H ⟨rfl,p,e⟩;rw[show min k n=k by lia]at e;unfold binI
  refine wpS_bind (wpS_mono (Ć (I:=λx c b=>b=a/\ ∃l r,c=(none,l,r)/\l<=r/\r<=k/\r - l<=k - x/\
    (∀i,i<l->Le lt (Kx d (arrOf a) (lo+i)) (Kx d (arrOf a) (lo+k)))/\(∀i,r<=i->i<k->Le lt (Kx d (arrOf a) (lo+k)) (Kx d (arrOf a) (lo+i))))
   (Q:=λc b=>b=a/\ ∃l r,c=(none,l,r)/\l<=k/\
    (∀i,i<l->Le lt (Kx d (arrOf a) (lo+i)) (Kx d (arrOf a) (lo+k)))/\(∀i,l<=i->i<k->Le lt (Kx d (arrOf a) (lo+k)) (Kx d (arrOf a) (lo+i)))) ?_ ?_ ?_) ?_)
  .rintro x c b _ J ⟨rfl,l,r,rfl,y,q,L,o,m⟩;dsimp only;by_cases u:l>=r
   .rw[iP u];have:l=r:=by lia
    subst this;exact wpS_pure ⟨rfl,l,l,rfl,q,o,m⟩
   .rw[iN u];refine wpS_bind (uD (d:=d) C p O #[0] #[0] ?_)
    cases B:lt _ _ with
    |true=>exact wpS_pure ⟨rfl,l,_,rfl,by lia,by lia,by lia,o,λi h1 z=>C.tr _ _ _ (C.as _ _ B) (e _ _ h1 z)⟩
    |false=>exact wpS_pure ⟨rfl,_,r,rfl,by lia,by lia,by lia,λi h1=>C.tr _ _ _ (e i ((l+r) / 2) #[0] #[0]) B,m⟩
  .rintro c b ⟨rfl,l,r,rfl,y,q,L,o,m⟩;have:l=r:=by lia
   subst this;exact⟨rfl,l,l,rfl,q,o,m⟩
  .exact⟨rfl,0,k,rfl,by lia,by lia,by lia,λi hi=>by lia,λi h1 z=>by lia⟩
  .rintro c b ⟨rfl,l,r,rfl,P,o,m⟩;dsimp only;rw[moveDown'_eq];have v:lo+k<(arrOf b).size:=by rw[p.size];lia
   refine wpS_bind (wpS_modify (wpS_pure ⟨rfl,?_,?_⟩))
   .exact p.bub #[0] #[0]
   .rw[show min (k+1) n=k+1 by lia];intro i j w F;show Le lt _ _;rw[IA v #[0],IA v #[0],show lo+k - _=lo+l by lia];have sh: ∀i,1<=i->lo+i - 1=lo+(i - 1):=λi hi=>by lia
    repeat' split
    all_goals first
     |(exfalso;lia)
     |exact C.rf _
     |exact o _ #[0]
     |(rw[sh _ #[0]];exact m _ #[0] #[0])
     |exact m _ #[0] #[0]
     |exact e _ _ #[0] #[0]
     |(rw[sh i #[0]];exact e _ _ #[0] #[0])
     |(rw[sh j #[0]];exact e _ _ #[0] #[0])
     |(rw[sh i #[0],sh j #[0]];exact e _ _ #[0] #[0])
     |(rw[sh i #[0]];exact o _ #[0])
 .rintro c a ⟨K,p,e⟩;refine⟨K,p,?_⟩;rwa [show min _ n=n by lia]at e
 .refine⟨rfl,h,λi j w F=>?_⟩;by_cases h1:ok=0
  .rw[show i=j by lia];exact C.rf _
  .exact hs i j w #[0]
 .rintro c a ⟨rfl,p,e⟩;exact wpS_pure (hq a p e)
end
end Srt
namespace Srt
open PySem PyProof.Rows
noncomputable abbrev putAll(w:V)(p:Nat)(v:V):V:=w.toList.zipIdx.foldl (λa (x,j)=>a.setIfInBounds (p+j) x) v
def Ca(p:Nat)(w:V):SM Bool:=(modify λs=>setArr s (putAll w p (arrOf s))) >>= λ_=>get >>= λs=>pure (failedOf s).isNone
def mAt(i:Nat):SM Bool:=get >>= λst=>match (pendingOf st)[i]?,(pendingOf st)[i+1]? with
 |some (sa,na,pw),some (sb,nb,_)=>set (setPending st (((pendingOf st).setIfInBounds i (sa,na+nb,pw)).eraseIdxIfInBounds (i+1))) >>= λ_=>
  elem' (arrOf st) sb >>= λy=>nQ false y (arrOf st) sa na 0 >>= λr=>(match r with
   |some k=>if(na - k==0)=true then pure true else elem' (arrOf st) (sa+k+(na - k) - 1) >>= λx=>nQ true x (arrOf st) sb nb (nb - 1) >>= λr=>(match r with
    |some m=>if(m==0)=true then pure true
      else if na - k<=m then EL ((arrOf st).extract (sa+k) sb) ((arrOf st).extract sb (sb+m)) >>= λw=>Ca (sa+k) w
      else EM ((arrOf st).extract (sa+k) sb) ((arrOf st).extract sb (sb+m)) >>= λw=>Ca (sa+k) w
    |_=>pure false)
   |_=>pure false)
 |_,_=>liftM (unsupported "internal:list.sort.pending")
theorem OI(i:Nat):mergeAt' i=mAt i:=by kernel_rfl
def er2{β:Type}(x y z:β):(#[x,y].setIfInBounds 0 z).eraseIdxIfInBounds (0+1)=#[z]:=by simp[Array.eraseIdxIfInBounds]
theorem BI(p:Nat): ∀(ws:List Keyed)(k:Nat)(v:V),p+k+ws.length<=v.size->
  ((ws.zipIdx k).foldl (λa (x,j)=>a.setIfInBounds (p+j) x) v).toList=v.toList.take (p+k)++ws++v.toList.drop (p+k+ws.length)
 |[],k,v,_=>by simp
 |x::t,k,v,h=>by
  rw[zipIdx_cons,ě];have b:p+(k+1)+t.length<=(v.setIfInBounds (p+k) x).size:=by rw[Array.size_setIfInBounds];simp only[lC]at h;omega
  rw[BI p t (k+1) _ b];simp only[lC]at h ⊢;have e:(v.setIfInBounds (p+k) x).toList=v.toList.set (p+k) x:=Array.toList_setIfInBounds ..;rw[e]
  have c:(v.toList.set (p+k) x).take (p+(k+1))=v.toList.take (p+k)++[x]:=by
   rw[show p+(k+1)=p+k+1 by omega];have d:(v.toList.set (p+k) x)[p+k]? =some x:=by rw[ė];simp;omega
   rw[DB d,List.take_set_of_le (à _)]
  rw[c,List.drop_set_of_lt (by omega)];rw[show p+(k+1)+t.length=p+k+(t.length+1) by omega];simp only[aA,Į,Ĝ]
section
variable{M:Model}{A:Ō}{E:VP}{s:Ŋ}{kd:SortKind}{D:Keyed->Prop}{lt:Keyed->Keyed->Bool}{a₀ f:V}{pd:Array (Nat×Nat×Nat)}{lo:Nat}{st:SortSt}{d:Keyed}
def Up.sl{v:V}{n:Nat}(h:Up lt d v lo n):SL lt v.toList lo n:=by
 intro i j x y h1 b k c;have e:Kx d v (lo+i)=x:=by unfold Kx;rw[<-ò,k];rfl
 have a:Kx d v (lo+j)=y:=by unfold Kx;rw[<-ò,c];rfl
 have:=h i j h1 b;rw[e,a]at this;exact this
theorem SL.pw{l:List Keyed}{n:Nat}(h:SL lt l lo n):((l.drop lo).take n).Pairwise (Le lt):=by rw[List.pairwise_iff_getElem];intro i j hi a b;rw[lT]at hi a;rw[getElem_take,getElem_take,getElem_drop,getElem_drop];exact h i j _ _ #[0] #[0] (gE _) (gE _)
def four{β:Type}{le:β->β->Prop}{A1 A2 B1 B2 W:List β}(h:(A1++A2).Pairwise le)(e:(B1++B2).Pairwise le)(h1: ∀z,z∈A1-> ∀w,w∈B1++B2->le z w)(d: ∀z,z∈A1++A2-> ∀w,w∈B2->le z w)
  (hW:W.Pairwise le) (pW:W.Perm (A2++B1)):(A1++W++B2).Pairwise le/\(A1++W++B2).Perm (A1++(A2++(B1++B2))):=by
 have a:=ê.mp h;have b:=ê.mp e;refine⟨ê.mpr ⟨ê.mpr ⟨a.1,hW,λz c w hw=>?_⟩,b.2.1,λz c w hw=>?_⟩,?_⟩
 .rcases é.mp (pW.mem_iff.mp hw)with q|q
  .exact a.2.2 z c w q
  .exact h1 z c w (ă _ q)
 .rcases é.mp c with q|q
  .exact d z (ă _ q) w hw
  .rcases é.mp (pW.mem_iff.mp q)with r|r
   .exact d z (ó _ r) w hw
   .exact b.2.2 z r w hw
 .rw[<-aA A2 B1 B2, <-aA];exact(pW.append_left A1).append_right B2
structure Out(a₀:V)(kd:SortKind)(lt:Keyed->Keyed->Bool)(n:Nat)(st:SortSt):Prop where
 pm:(arrOf st).toList.Perm a₀.toList
 kind:kindOf st=kd
 fl:failedOf st=none
 pd: ∃w,pendingOf st=#[(0,n,w)]
 so:(arrOf st).toList.Pairwise (Le lt)
def Ju{st:SortSt}{l:List Keyed}{p n:Nat}{w:V}(h:kindOf st=kd)(c:failedOf st=none)(d: ∃w,pendingOf st=#[(0,n,w)])
  (hl:p+w.size<=(arrOf st).size) (e:(arrOf st).toList.take p++w.toList++(arrOf st).toList.drop (p+w.size)=l) (h1:l.Pairwise (Le lt)) (h2:l.Perm a₀.toList)
  {Q:Bool->SortSt->Prop} (hq: ∀a,Out a₀ kd lt n a->Q true a):wpS M A E s (Ca p w) Q st:=by
 have b:(putAll w p (arrOf st)).toList=l:=by have:=BI p w.toList 0 (arrOf st) (by simpa using hl);rw[Nat.add_zero]at this;exact this.trans (by simpa using e)
 unfold Ca;refine wpS_bind (wpS_modify (wpS_bind (wpS_get ?_)));have O:Out a₀ kd lt n (setArr st (putAll w p (arrOf st))):=⟨by show(putAll w p (arrOf st)).toList.Perm _;rw[b];exact h2,h,c,d,by show(putAll w p (arrOf st)).toList.Pairwise _;rw[b];exact h1⟩
 have:(failedOf (setArr st (putAll w p (arrOf st)))).isNone=true:=by rw[O.fl];rfl
 rw[this];exact wpS_pure (hq _ O)
def Tf(C:Cmp M A E s kd D lt)(hD: ∀x,x∈a₀.toList->D x){c j pw:Nat}(h1:1<=c)(h2:1<=j)(hz:c+j=a₀.size)(h:SB a₀ kd #[(0,c,pw),(c,j,0)] f lo st)
  (hA:SL lt (arrOf st).toList 0 c) (hB:SL lt (arrOf st).toList c j) {Q:Bool->SortSt->Prop} (hq: ∀J,Out a₀ kd lt (c+j) J->Q true J):wpS M A E s (mergeAt' 0) Q st:=by
 rw[OI];unfold mAt;refine wpS_bind (wpS_get ?_);rw[h.pd];have e0:(#[(0,c,pw),(c,j,0)]:Array (Nat×Nat×Nat))[0]? =some (0,c,pw):=rfl;have e1:(#[(0,c,pw),(c,j,0)]:Array (Nat×Nat×Nat))[0+1]? =some (c,j,0):=rfl;rw[e0,e1];dsimp only;refine wpS_bind (Ji ?_);generalize u:setPending st ((#[(0,c,pw),(c,j,0)].setIfInBounds 0 (0,c+j,pw)).eraseIdxIfInBounds (0+1))=st1;have k1:kindOf st1=kd:=by rw[<-u];exact h.kind
 have f1:failedOf st1=none:=by rw[<-u];exact h.fl
 have p1: ∃w,pendingOf st1=#[(0,c+j,w)]:=by rw[<-u];exact⟨pw,er2 _ _ _⟩
 have P:arrOf st1=arrOf st:=by rw[<-u]
 have sz:(arrOf st).size=c+j:=by rw[h.size,hz]
 have B:(arrOf st).toList.Perm a₀.toList:=ĵ.mp h.pm;have p: ∀x,x∈(arrOf st).toList->D x:=λx hx=>hD x (B.mem_iff.mp hx);generalize hv:arrOf st=v at *;obtain⟨y,L⟩:=wR (v:=v) (i:=c) (by omega);obtain⟨x,ex⟩:=wR (v:=v) (i:=c - 1) (by omega);have hl:v.toList.length=c+j:=by simpa using sz
 have H:=hA.pw;have pB:=hB.pw;rw[drop_zero]at H;have tB:(v.toList.drop c).take j=v.toList.drop c:=Ā (by rw[þ];omega);rw[tB]at pB;have Y:=heads C.rf pB L;have T: ∀z,z∈v.toList.take c->Le lt z x:=by have:=OH (i:=c - 1) C.rf (by rw[Nat.sub_add_cancel h1];exact H) ex;rwa [Nat.sub_add_cancel h1]at this
 refine wpS_bind (yF L (wpS_bind (KG C k1 p (p y (è L)) (by omega) (by omega) hA λk ka kb kc=>?_)));dsimp only;have g1: ∀z,z∈v.toList.take k-> ∀w,w∈v.toList.drop c->Le lt z w:=by intro z d w hw;obtain⟨i,i1,i2,i3⟩:=iE d;exact C.tr _ _ _ (kb i z i1 (by rw[Ă];exact i3)) (Y w hw)
 have q:v.toList.Pairwise (Le lt)->Out a₀ kd lt (c+j) st1:=λhp=>⟨by rw[P];exact B,k1,f1,p1,by rw[P];exact hp⟩
 by_cases c1:c - k=0
 .rw[iP (by simpa using c1)];refine wpS_pure (hq _ (q ?_));have hk:k=c:=by omega
  subst hk;rw[<-Ŀ k v.toList];exact ê.mpr ⟨H,pB,g1⟩
 .rw[iN (by simpa using c1)];have U:v.toList[0+k+(c - k) - 1]? =some x:=by rw[show 0+k+(c - k) - 1=c - 1 by omega];exact ex
  refine wpS_bind (yF U (wpS_bind (KH C k1 p (p x (è ex)) (by omega) (by omega) hB λm ma mb mc=>?_)));dsimp only;have g2: ∀z,z∈v.toList.take c-> ∀w,w∈v.toList.drop (c+m)->Le lt z w:=by intro z d w hw;obtain⟨i,i1,i2⟩:=wY hw;exact C.tr _ _ _ (T z d) (mc (m+i) w (by omega) (by omega) (by rw[<-add_assoc];exact i2))
  by_cases X:m=0
  .rw[iP (by simpa using X)];refine wpS_pure (hq _ (q ?_));subst X;rw[<-Ŀ c v.toList];exact ê.mpr ⟨H,pB,g2⟩
  .rw[iN (by simpa using X),Ă];generalize ha:v.extract k c=a;generalize hb:v.extract c (c+m)=b;have la:a.toList=(v.toList.drop k).take (c - k):=by rw[<-ha,show c=k+(c - k) by omega,KI];congr 1;omega
   have O:b.toList=(v.toList.drop c).take m:=by rw[<-hb,KI]
   have za:a.size=c - k:=by rw[<-í,la,lT,þ];omega
   have zb:b.size=m:=by rw[<-í,O,lT,þ];omega
   have S:v.toList.take c=v.toList.take k++a.toList:=by rw[la, <-drop_take];exact EO _ _ _ (by omega)
   have N:v.toList.drop c=b.toList++v.toList.drop (c+m):=by rw[O];exact EN _ _ _
   have mA: ∀z,z∈a.toList-> ∃i,k<=i/\i<c/\v.toList[i]? =some z:=by intro z d;rw[la, <-drop_take]at d;exact sY d
   have mB: ∀z,z∈b.toList-> ∃i,i<m/\v.toList[c+i]? =some z:=by intro z d;rw[O]at d;obtain⟨i,i1,_,i2⟩:=sX d;exact⟨i,i1,i2⟩
   have Z:Set3 M A E s kd D lt a b:={
    C:=C
    da:=λz d=>by obtain⟨i,_,_,e⟩:=mA z d;exact p z (è e)
    db:=λz d=>by obtain⟨i,_,e⟩:=mB z d;exact p z (è e)
    lst:=λK I o n=>by rw[la,Ī (by omega),getElem?_drop,show k+(a.size - 1)=c - 1 by omega,ex]at o;cases o;obtain⟨i,i1,e⟩:=mB I n;exact C.as _ _ (mb i I i1 e)
    fst:=λK I o n=>by rw[O,Ī (by omega),getElem?_drop,Nat.add_zero,L]at n;cases n;obtain⟨i,i1,i2,e⟩:=mA K o;exact C.as _ _ (kc i K i1 i2 (by rw[Ă];exact e))}
   have sA:a.toList.Pairwise (Le lt):=by rw[S]at H;exact(ê.mp H).2.1
   have sB:b.toList.Pairwise (Le lt):=by rw[N]at pB;exact(ê.mp pB).1
   have fin: ∀r G,Sg st1 G->FinA lt a b r->wpS M A E s (Ca k r) Q G:=by
    rintro r G ⟨g,rfl⟩ ⟨fa,fb⟩;have zr:r.size=c - k+m:=by have:=fb.length_eq;simp only[lA,í]at this;omega
    have F:=four (W:=r.toList) (A1:=v.toList.take k) (A2:=a.toList) (B1:=b.toList) (B2:=v.toList.drop (c+m)) (by rw[<-S];exact H) (by rw[<-N];exact pB)
     (λz d w hw=>g1 z d w (by rw[N];exact hw)) (λz d w hw=>g2 z (by rw[S];exact d) w hw) fa fb
    have F2:=F.2;rw[<-N, <-aA, <-S,Ŀ]at F2;refine Ju (st:=SortSt.mk' (kindOf st1) (arrOf st1) (pendingOf st1) g (failedOf st1)) (l:=v.toList.take k++r.toList++v.toList.drop (c+m)) k1 f1 p1 ?_ ?_ F.1 (F2.trans B) hq
    .show k+r.size<=(arrOf st1).size;rw[P];omega
    .show(arrOf st1).toList.take k++r.toList++(arrOf st1).toList.drop (k+r.size)=_;rw[P,zr,show k+(c - k+m)=c+m by omega]
   split
   .exact wpS_bind (Sv Z.toSet2 k1 sA sB (by omega) (by omega) (λK I o n=>Z.fst K I (è o) n) fin)
   .exact wpS_bind (Tb Z k1 sA sB (by omega) (by omega) fin)
end
end Srt
namespace Srt
open PySem PyProof.Rows
abbrev U2:=Option Unit×Nat
abbrev U1:=Option Unit×Unit
noncomputable def psh(lo n:Nat):SM (ForInStep U2):=(modify λs=>setPending s ((pendingOf s).push (lo,n,0))) >>= λ_=>pure (.yield (none,lo+n))
def Vv(N lo n:Nat):SM (ForInStep U2):=get >>= λst=>match (pendingOf st).back? with
 |some (a,b,_)=>(forIn [0:N] ((none,()):U1) λ_ _=>get >>= λst=>(match (if(pendingOf st).size>1 then(pendingOf st)[(pendingOf st).size - 2]? else none)with
   |some (_,_,z)=>if z<=power' N (2 * a+b) (2 * a+b+b+n) N then pure (.done (none,()))else mergeAt' ((pendingOf st).size - 2) >>= λq=>if(!q)=true then pure (.done (some (),()))else pure (.yield (none,()))
   |_=>pure (.done (none,())))) >>= λc=>(match c.1 with
  |some r=>pure (.done (some r,lo))
  |none=>(modify λs=>setPending s ((pendingOf s).modify ((pendingOf s).size - 1) λ(u,v,_)=>(u,v,power' N (2 * a+b) (2 * a+b+b+n) N))) >>= λ_=>psh lo n)
 |_=>psh lo n
def runs(N r:Nat):SM U2:=forIn [0:N] ((none,0):U2) λ_ c=>if c.2>=N then pure (.done (none,c.2))else countRun' c.2 (N - c.2) >>= λo=>match o with
 |some m=>if m<r then liftM (rule "list.sort.binary-insertion") >>= λ_=>binarySort' c.2 (min (N - c.2) r) m >>= λq=>if(!q)=true then pure (.done (some (),c.2))else Vv N c.2 (min (N - c.2) r)
   else Vv N c.2 m
 |_=>pure (.done (some (),c.2))
noncomputable def Tg(N:Nat):SM U1:=forIn [0:N] ((none,()):U1) λ_ _=>get >>= λst=>if(pendingOf st).size<=1 then pure (.done (none,()))else
 mergeAt' (if Option.any (λx=>decide (x<((pendingOf st)[(pendingOf st).size - 2+1]?).elim 0 λx=>x.2.1)) (if(pendingOf st).size - 2>0 then Option.map (λx=>x.2.1) (pendingOf st)[(pendingOf st).size - 2 - 1]? else none)=true
  then(pendingOf st).size - 2 - 1 else(pendingOf st).size - 2) >>= λq=>if(!q)=true then pure (.done (some (),()))else pure (.yield (none,()))
def Yl:SM Unit:=get >>= λst=>runs (arrOf st).size (minRun' (arrOf st).size (arrOf st).size 0) >>= λc=>match c.1 with
 |some r=>pure r
 |none=>Tg (arrOf st).size >>= λc=>match c.1 with
  |some r=>pure r
  |none=>pure ()
theorem GP:sortRuns'=Yl:=by kernel_rfl
def XU{N:Nat}(a:2<=N)(h:N<128):1<=minRun' N N 0/\minRun' N N 0<=N/\N<=2 * minRun' N N 0:=by
 obtain⟨g,rfl⟩: ∃g,N=g+2:=⟨N - 2,by omega⟩
 have e:minRun' (g+2) (g+2) 0=if g+2<64 then g+2+0 else if(g+2) / 2<64 then(g+2) / 2+max 0 ((g+2) % 2)else minRun' g ((g+2) / 2 / 2) (max (max 0 ((g+2) % 2)) ((g+2) / 2 % 2)):=by rw[minRun'_succ,minRun'_succ]
 rw[e];split
 .omega
 .rw[iP (by omega)];omega
section
variable{M:Model}{A:Ō}{E:VP}{s:Ŋ}{kd:SortKind}{D:Keyed->Prop}{lt:Keyed->Keyed->Bool}{a₀ f:V}{pd:Array (Nat×Nat×Nat)}{lo:Nat}{st:SortSt}{d:Keyed}
def Vx(a₀:V)(kd:SortKind)(lt:Keyed->Keyed->Bool)(st:SortSt):Prop:=
 (SB a₀ kd #[(0,a₀.size,0)] a₀ 0 st/\SL lt (arrOf st).toList 0 a₀.size)\/ ∃a b pw,a+b=a₀.size/\1<=a/\1<=b/\SB a₀ kd #[(0,a,pw),(a,b,0)] a₀ 0 st/\SL lt (arrOf st).toList 0 a/\SL lt (arrOf st).toList a b
theorem SB.free{a:Array (Nat×Nat×Nat)}(h:SB a₀ kd pd f lo st)(g:V):SB a₀ kd a g 0 (setPending st a):=⟨h.pm,h.kind,h.fl,rfl,λ_ hi=>by lia⟩
def Cb{lo n:Nat}{Q:ForInStep U2->SortSt->Prop}(h:Q (.yield (none,lo+n)) (setPending st ((pendingOf st).push (lo,n,0)))):wpS M A E s (psh lo n) Q st:=
 wpS_bind (wpS_modify (wpS_pure h))
def Jv(C:Cmp M A E s kd D lt)(J: ∀x,x∈a₀.toList->D x)(d:Keyed)(U:2<=a₀.size){r:Nat}(Y:1<=r)(r2:r<=a₀.size)(Z:a₀.size<=2 * r)(h:SB a₀ kd #[] a₀ 0 st){Q:U2->SortSt->Prop}
  (hq: ∀a,Vx a₀ kd lt a->Q (none,a₀.size) a):wpS M A E s (runs a₀.size r) Q st:=by
 unfold runs;refine Ć (I:=λx c a=>(x=0/\c=(none,0)/\SB a₀ kd #[] a₀ 0 a)\/(x=1/\ ∃n,c=(none,n)/\r<=n/\n<a₀.size/\SB a₀ kd #[(0,n,0)] a₀ 0 a/\SL lt (arrOf a).toList 0 n)\/(1<=x/\c=(none,a₀.size)/\Vx a₀ kd lt a)) ?_ ?_ (.inl ⟨rfl,rfl,h⟩)
 .rintro x c a _ F (⟨rfl,rfl,B⟩|⟨rfl,n,rfl,n1,n2,B,hs⟩|⟨X,rfl,O⟩)
  .dsimp only;rw[iN (by omega)]
   have H: ∀m k,SB a₀ kd #[] a₀ 0 k->r<=m->m<=a₀.size->Up lt d (arrOf k) 0 m-> ∀R:ForInStep U2->SortSt->Prop,(∀L a,((0+1=0/\L=(none,0)/\SB a₀ kd #[] a₀ 0 a)\/(0+1=1/\ ∃n,L=(none,n)/\r<=n/\n<a₀.size/\SB a₀ kd #[(0,n,0)] a₀ 0 a/\SL lt (arrOf a).toList 0 n)\/(1<=0+1/\L=(none,a₀.size)/\Vx a₀ kd lt a))->R (.yield L) a)->wpS M A E s (Vv a₀.size 0 m) R k:=by
    intro m k b v G p R K;unfold Vv;refine wpS_bind (wpS_get ?_);have P:(pendingOf k).back? =none:=by rw[b.pd];rfl
    rw[P];dsimp only;refine Cb ?_;have e:(pendingOf k).push (0,m,0)=#[(0,m,0)]:=by rw[b.pd];rfl
    rw[e,Ă];by_cases u:m=a₀.size
    .subst u;exact K _ _ (.inr (.inr ⟨by omega,rfl,.inl ⟨b.free a₀,p.sl⟩⟩))
    .exact K _ _ (.inr (.inl ⟨rfl,m,rfl,v,by omega,b.free a₀,p.sl⟩))
   refine wpS_bind (UN (d:=d) C J B (by omega) (by omega) λm k b v G p=>?_);dsimp only;by_cases u:m<r
   .rw[iP u];refine wpS_bind (eP ?_);refine wpS_bind (UO C J b (by omega) (by omega) p λo z w=>?_);rw[iN (by simp)];exact H _ o z (by omega) (by omega) w _ λ_ _ q=>q
   .rw[iN u];exact H m k b (by omega) (by omega) p _ λ_ _ q=>q
  .dsimp only;rw[iN (by omega)];have S:SB a₀ kd #[(0,n,0)] (arrOf a) n a:=⟨B.pm,B.kind,B.fl,B.pd,λ_ _=>rfl⟩
   have H: ∀k,SB a₀ kd #[(0,n,0)] (arrOf a) n k->Up lt d (arrOf k) n (a₀.size - n)-> ∀R:ForInStep U2->SortSt->Prop,(∀a,Vx a₀ kd lt a->R (.yield (none,a₀.size)) a)->wpS M A E s (Vv a₀.size n (a₀.size - n)) R k:=by
    intro k b p R K;have N:SL lt (arrOf k).toList 0 n:=by intro i j x y h1 U F T;rw[Ă]at F T;rw[ò,b.fx i (by omega), <-ò]at F;rw[ò,b.fx j (by omega), <-ò]at T;exact hs i j x y h1 U (by rw[Ă];exact F) (by rw[Ă];exact T)
    unfold Vv;refine wpS_bind (wpS_get ?_);have P:(pendingOf k).back? =some (0,n,0):=by rw[b.pd];rfl
    rw[P];dsimp only;refine wpS_bind (wpS_mono (Ć (I:=λ_ c o=>c=(none,())/\o=k) (Q:=λc o=>c=(none,())/\o=k) ?_ (λ_ _ W=>W) ⟨rfl,rfl⟩) ?_)
    .rintro x c o _ _ ⟨rfl,rfl⟩;refine wpS_bind (wpS_get ?_);rw[iN (by rw[b.pd];simp)];exact wpS_pure ⟨rfl,rfl⟩
    .rintro c o ⟨rfl,rfl⟩;dsimp only;refine wpS_bind (wpS_modify ?_);refine Cb ?_;rw[show n+(a₀.size - n)=a₀.size by omega];refine K _ (.inr ⟨n,a₀.size - n,power' a₀.size (2 * 0+n) (2 * 0+n+n+(a₀.size - n)) a₀.size,by omega,by omega,by omega,?_,N,p.sl⟩);refine⟨b.pm,b.kind,b.fl,?_,λ_ hi=>by omega⟩;show((pendingOf o).modify _ _).push _=_;rw[b.pd];rfl
   refine wpS_bind (UN (d:=d) C J S (by omega) (by omega) λm k b v G p=>?_);dsimp only;by_cases u:m<r
   .rw[iP u];refine wpS_bind (eP ?_);rw[show min (a₀.size - n) r=a₀.size - n by omega];refine wpS_bind (UO C J b (by omega) (by omega) p λo z w=>?_);rw[iN (by simp)];exact H o z w _ λ_ q=>.inr (.inr ⟨by omega,rfl,q⟩)
   .rw[iN u];have:m=a₀.size - n:=by omega
    subst this;exact H k b p _ λ_ q=>.inr (.inr ⟨by omega,rfl,q⟩)
  .dsimp only;rw[iP (à _)];exact wpS_pure (hq a O)
 .rintro c a (⟨F,_⟩|⟨F,_⟩|⟨_,rfl,O⟩)
  .omega
  .omega
  .exact hq a O
def A6(a₀:V)(lt:Keyed->Keyed->Bool)(st:SortSt):Prop:=(arrOf st).toList.Perm a₀.toList/\failedOf st=none/\(arrOf st).toList.Pairwise (Le lt)
def Jw(C:Cmp M A E s kd D lt)(d: ∀x,x∈a₀.toList->D x)(m:2<=a₀.size)(h:Vx a₀ kd lt st){Q:U1->SortSt->Prop}(b: ∀a,A6 a₀ lt a->Q (none,()) a):wpS M A E s (Tg a₀.size) Q st:=by
 unfold Tg;refine Ć (I:=λx c a=>c=(none,())/\((x=0/\Vx a₀ kd lt a)\/(1<=x/\A6 a₀ lt a/\(pendingOf a).size<=1))) ?_ ?_ ⟨rfl,.inl ⟨rfl,h⟩⟩
 .rintro x c a _ _ ⟨rfl,⟨rfl,i⟩|⟨_,hd,j⟩⟩
  .refine wpS_bind (wpS_get ?_);rcases i with⟨hB,hs⟩|⟨n1,n2,pw,hz,g1,g2,hB,sa,sb⟩
   .rw[iP (by rw[hB.pd];simp)];refine wpS_pure (b a ⟨ĵ.mp hB.pm,hB.fl,?_⟩);have:=hs.pw;rwa [drop_zero,Ā (by rw[í,hB.size];omega)]at this
   .rw[iN (by rw[hB.pd];simp)]
    have e:(if Option.any (λx=>decide (x<((pendingOf a)[(pendingOf a).size - 2+1]?).elim 0 λx=>x.2.1)) (if(pendingOf a).size - 2>0 then Option.map (λx=>x.2.1) (pendingOf a)[(pendingOf a).size - 2 - 1]? else none)=true
      then(pendingOf a).size - 2 - 1 else(pendingOf a).size - 2)=0:=by rw[hB.pd];rfl
    rw[e];refine wpS_bind (Tf C d g1 g2 hz hB sa sb λk O=>?_);rw[iN (by simp)];refine wpS_pure ⟨rfl,.inr ⟨by omega,⟨O.pm,O.fl,O.so⟩,?_⟩⟩;obtain⟨w,hw⟩:=O.pd;rw[hw];simp
  .refine wpS_bind (wpS_get ?_);rw[iP j];exact wpS_pure (b a hd)
 .rintro c a ⟨rfl,⟨n,_⟩|⟨_,hd,_⟩⟩
  .omega
  .exact b a hd
def OJ(C:Cmp M A E s kd D lt)(h: ∀x,x∈(arrOf st).toList->D x)(d:Keyed)(c:2<=(arrOf st).size)(a:(arrOf st).size<128)(m:kindOf st=kd)(j:pendingOf st=#[])(i:failedOf st=none)
  {Q:Unit->SortSt->Prop} (hq: ∀b,A6 (arrOf st) lt b->Q () b):wpS M A E s sortRuns' Q st:=by
 rw[GP];unfold Yl;refine wpS_bind (wpS_get ?_);obtain⟨p,q,k⟩:=XU c a;refine wpS_bind (Jv C h d c p q k ⟨Array.Perm.refl _,m,i,j,λ_ hi=>by omega⟩ λo n=>?_);dsimp only;refine wpS_bind (Jw C h c n λe hd=>?_);exact wpS_pure (hq e hd)
end
end Srt
namespace Srt
open PySem PyProof.Rows
abbrev Rn:=Nat×Nat×Nat
def RunsOk(lt:Keyed->Keyed->Bool)(l:List Keyed):Nat->List Rn->Nat->Prop
 |p,[],q=>p=q
 |p,r::rs,q=>r.1=p/\1<=r.2.1/\SL lt l p r.2.1/\RunsOk lt l (p+r.2.1) rs q
section
variable{lt:Keyed->Keyed->Bool}{l:List Keyed}
theorem RunsOk.le: ∀{rs:List Rn}{p q:Nat},RunsOk lt l p rs q->p+rs.length<=q
 |[],p,q,h=>by cases h;exact à _
 |r::rs,p,q,h=>by
  have:=RunsOk.le h.2.2.2;have:=h.2.1;rw[lC]
  lia
end
section
variable{kd:SortKind}{lt:Keyed->Keyed->Bool}{a₀:V}{st:SortSt}
structure ST(a₀:V)(kd:SortKind)(lt:Keyed->Keyed->Bool)(rs:List Rn)(q:Nat)(st:SortSt):Prop where
 pm:(arrOf st).toList.Perm a₀.toList
 kind:kindOf st=kd
 fl:failedOf st=none
 pd:pendingOf st=rs.toArray
 ok:RunsOk lt (arrOf st).toList 0 rs q
 le:q<=a₀.size
def ST.size{rs:List Rn}{q:Nat}(h:ST a₀ kd lt rs q st):(arrOf st).size=a₀.size:=by have:=h.pm.length_eq;simpa using this
end
end Srt
namespace Srt
open PySem PyProof.Rows
noncomputable def kStep(a f:Addr)(its:A7)(ks x:ŋ):Sem (ForInStep PUnit):=(call (.ref f) [x]).attempt >>= λr=>match r with
 |.ok k=>Builtin.List.listUpdate ks (λv=>v.push k) >>= λ_=>pure (.yield ⟨⟩)
 |.error e=>do
  rule "list.sort.key-raised"
  let m <-Builtin.List.listItems ks
  Builtin.List.listUpdate ks λ_=>#[]
  letGo m.toList.reverse [e]
  Builtin.List.listUpdate (.ref a) λ_=>its
  let _:PUnit <-throw e
  pure (.yield ⟨⟩)
section
variable{prog:ō}{w:World}{A:Ō}{E:VP}{s:Ŋ}
structure Kd(prog:ō)(w:World)(A:Ō)(E:VP)(a KS:Addr)(e1:Nat)(vs:A0)(P:PySem.Fin->Ŋ->Prop)(s2:Ŋ):Prop where
 go: ∃(keys:A0)(n:Nat)(kd:SortKind)(D:Keyed->Prop)(lt:Keyed->Keyed->Bool),s2.heap.get? a=some (seqObj "list" #[] e1)/\s2.heap.get? KS=some (seqObj "list" keys.toArray n)/\keys.length=vs.length/\
  (2<=vs.length->wpAny (model prog w) A (keyKind' keys.toArray) (λk s'=>s'=s2/\k=kd) E s2/\Cmp (model prog w) A E s2 kd D lt/\ ∀p,p∈keys.zip vs->D p)/\
  ∀out:List Keyed,out.Perm (keys.zip vs)->out.Pairwise (Le lt)->P (.done (.ret .none)) {s2 with heap:=(s2.heap.update KS (Obj.mapSeq λ_=>#[])).update a (Obj.mapSeq λ_=>(out.map (·.2)).toArray)}
def sort_keyed{a f:Addr}{vs:A0}{n0:Nat}{P:PySem.Fin->Ŋ->Prop}(ho:s.heap.get? a=some (seqObj "list" vs.toArray n0))(hl:vs.length<128)
  (hk: ∀o,(s.heap.update a (Obj.mapSeq λ_=>#[])).get? a=some (seqObj "list" #[] o)->wpAny (model prog w) A (forIn vs PUnit.unit λx _=>kStep a f vs.toArray (.ref (↑0+1)) x)
   (λ_ v=>a≠↑0+1->Kd prog w A E a (↑0+1) o vs P v) E {s with heap:=((s.heap.update a (Obj.mapSeq λ_=>#[])).push (seqObj "tuple" vs.toArray 0)).push (seqObj "list" #[] 0)}):
  wpAny (model prog w) A (Builtin.«list.sort» ⟨[.ref a],[("key",.ref f)]⟩) P E s:=by
 unfold Builtin.«list.sort»;dsimp only;rw[iN (by simp),iN (by simp)];have o:List.lookup (Str.ofString "key") [(Str.ofString "key",Value.ref f)]=some (.ref f):=by simp[List.lookup]
 have O:List.lookup (Str.ofString "reverse") [(Str.ofString "key",Value.ref f)]=none:=by
  have:(Str.ofString "reverse"==Str.ofString "key")=false:=by decide+kernel
  simp[List.lookup,this]
 rw[forIn_cons,o,O];refine wB (wB ?_);dsimp only;rw[iN (by simp)];refine wP ?_;dsimp only;rw[forIn_nil];refine wP ?_;refine wB (wP ?_);have K:a<s.heap.objs.size:=â ho;refine wB (listItems_at ho rfl ?_);refine wB (listUpdate_at ho rfl ?_);obtain⟨q,L⟩: ∃q,(s.heap.update a (Obj.mapSeq λ_=>#[])).get? a=some (seqObj "list" #[] q):=⟨_,get?_update_seq ho (λ_=>#[])⟩
 dsimp only;refine wB (seqEpoch_at L rfl ?_);refine wB (wpAny_newTuple ?_);refine wB (wpAny_newList ?_);refine ù ?_;rw[iP (by rfl)];refine wB (ĕ ?_);have G:((s.heap.update a (Obj.mapSeq λ_=>#[])).push (seqObj "tuple" vs.toArray 0)).objs.size=↑0+1:=by rw[size_push',Heap.size_update]
 dsimp only;rw[G,forIn_toArray];refine wB (û (hk q L) (λu v S=>?_) λ_ _ e=>e);obtain⟨b,n,kd,D,lt,W,g2,z,U,Y⟩:=(S (ë (Nat.lt_succ_of_lt K))).go;have C:a≠↑0+1:=ë (Nat.lt_succ_of_lt K);rw[iP (by rfl)];refine wB (listItems_at g2 rfl ?_);rw[iN (by simp)]
 have fin: ∀st:SortSt,failedOf st=none->(arrOf st).toList.Perm (b.zip vs)->(arrOf st).toList.Pairwise (Le lt)->
   wpAny (model prog w) A (do
    Builtin.List.listUpdate (.ref (↑0+1)) λ_=>#[]
    letGo ((arrOf st).map (·.1)).toList (failedOf st).toList
    let e <-seqEpoch a
    Builtin.List.listUpdate (.ref a) λ_=>(arrOf st).map (·.2)
    if(e !=q)=true then rule "list.sort.modified" >>= λ_=>raiseErrorWords "ValueError" "list modified during sort" >>= λ(_:Unit)=>ret .none else ret .none) P E v:=by
  intro st hf m hs;refine wB (listUpdate_at g2 rfl ?_ (by rw[sA0,z];have:=Ĕ;omega));refine wB (wpAny_letGo ?_);have i:(v.heap.update (↑0+1) (Obj.mapSeq λ_=>#[])).get? a=some (seqObj "list" #[] q):=by rw[ý _ _ (Ne.symm C)];exact W
  refine wB (seqEpoch_at i rfl ?_);have j:((arrOf st).map (·.2)).size<=sizeLine+1:=by rw[Array.size_map, <-í,m.length_eq,Ļ,z];have:=Ĕ;omega
  refine wB (listUpdate_at i rfl ?_ (hsz2:=j));rw[iN (by simp)];have Z:(arrOf st).map (·.2)=((arrOf st).toList.map (·.2)).toArray:=by rw[<-Array.toList_map]
  rw[Z];exact wP (Y _ m hs)
 by_cases c:vs.toArray.size<2
 .rw[iP c,iP c];refine wB (wP ?_);rw[StateT.run_pure];refine wB (wP ?_);rw[iP (by rfl)];have X:(b.zip vs).length<=1:=by rw[Ļ,z];simp at c;omega
  refine fin (SortSt.mk' general' (b.toArray.zip vs.toArray) #[] 7 none) rfl ?_ ?_
  .show(b.toArray.zip vs.toArray).toList.Perm _;simp
  .show(b.toArray.zip vs.toArray).toList.Pairwise _;have:(b.toArray.zip vs.toArray).toList=b.zip vs:=by simp
   rw[this]
   match b.zip vs,X with
   |[],_=>exact .nil
   |[x],_=>exact List.pairwise_singleton _ _
   |x::y::r,h=>simp at h
 .rw[iN c,iN c];obtain⟨k1,k2,k3⟩:=U (by simp at c;omega);refine wB (û k1 (λk s' B=>?_) λ_ _ e=>e);obtain⟨rfl,rfl⟩:=B;have H:(arrOf (SortSt.mk' k (b.toArray.zip vs.toArray) #[] 7 none)).toList=b.zip vs:=by show(b.toArray.zip vs.toArray).toList=_;simp
  have J:(arrOf (SortSt.mk' k (b.toArray.zip vs.toArray) #[] 7 none)).size=vs.length:=by rw[<-í,H,Ļ,z,Nat.min_self]
  refine wB (û (OJ (st:=SortSt.mk' k (b.toArray.zip vs.toArray) #[] 7 none) k2 (λp m=>k3 p (by rw[H]at m;exact m)) (.none,.none) (by rw[J];simp at c;omega) (by rw[J];exact hl) rfl rfl rfl
   (Q:=λ_ d=>A6 (arrOf (SortSt.mk' k (b.toArray.zip vs.toArray) #[] 7 none)) lt d) λd h=>h) (λr s3 N=>?_) λ_ _ e=>e)
  obtain⟨⟨⟩,d⟩:=r;obtain⟨rfl,T,I,d3⟩:=N;dsimp only;rw[iP (by rfl)];have F:=fin d I (by rw[<-H];exact T) d3;have M:failedOf d=none:=I;unfold failedOf at M;simp only[failedOf]at F;rw[M]at F ⊢;exact F
end
end Srt
namespace Srt
open PySem PyProof.Rows
section
variable{A:Ō}{E:VP}{s:Ŋ}
def Jx{α β:Type}{f:α->Sem β}{g:α->β}{M:Model}(l:List α)(h: ∀x,x∈l->wpAny M A (f x) (λr s'=>s'=s/\r=g x) E s):wpAny M A (l.mapM f) (λr s'=>s'=s/\r=l.map g) E s:=by
 induction l with
 |nil=>rw[List.mapM_nil];exact wP ⟨rfl,rfl⟩
 |cons x l ih=>
  rw[List.mapM_cons];refine wB (û (h x mF0) (λr s' a=>?_) λ_ _ e=>e);rw[a.1,a.2];refine wB (û (ih λy b=>h y (mO _ b)) (λr s' a=>?_) λ_ _ e=>e);rw[a.1,a.2];exact wP ⟨rfl,rfl⟩
def wp_mapMA{α β:Type}{f:α->Sem β}{g:α->β}{M:Model}{l:List α}(h: ∀x,x∈l->wpAny M A (f x) (λr s'=>s'=s/\r=g x) E s):wpAny M A (l.toArray.mapM f) (λr s'=>s'=s/\r=(l.map g).toArray) E s:=by rw[List.mapM_toArray];show wpAny M A _ _ E s;refine wB (û (Jx l h) (λr s' a=>?_) λ_ _ e=>e);obtain⟨rfl,rfl⟩:=a;exact wP ⟨rfl,rfl⟩
def TupAt(h:Heap)(a:Addr)(its:A0):Prop:= ∃o n,h.get? a=some o/\o.cls=.type "tuple"/\o.data=.seq its.toArray n
theorem firstOfTuple'_eq(v:ŋ):firstOfTuple' v=(do
  if(<-typeOf v) !=.type "tuple" then return none
  return (<-Builtin.List.listItems v)[0]?):=rfl
def OK{M:Model}{a:Addr}{its:A0}(h:TupAt s.heap a its):wpAny M A (firstOfTuple' (.ref a)) (λr s'=>s'=s/\r=its[0]?) E s:=by obtain⟨o,n,h1,b,c⟩:=h;refine wB (Ğ ⟨o,h1,b⟩ ?_);refine wB (listItems_at h1 c ?_);exact wP ⟨rfl,by simp⟩
def ER{M:Model}{l:A0}(j:l≠[])(h: ∀x,x∈l-> ∃a its,x=.ref a/\TupAt s.heap a its):wpAny M A (oneTypeOnly' l.toArray) (λr s'=>s'=s/\r=some (.type "tuple")) E s:=by
 rw[oneTypeOnly'_eq];refine wB (û (wp_mapMA (g:=λ_=>Value.type "tuple") λx k=>?_) (λr s' c=>?_) λ_ _ e=>e)
 .obtain⟨a,its,rfl,o,n,h1,d,m⟩:=h x k;exact Ğ (T:="tuple") ⟨o,h1,d⟩ ⟨rfl,rfl⟩
 .obtain⟨rfl,rfl⟩:=c
  match l,j with
  |x::l,_=>
   have i:(List.map (λ_=>Value.type "tuple") (x::l)).toArray[0]? =some (Value.type "tuple"):=by simp
   have b:((List.map (λ_=>Value.type "tuple") (x::l)).toArray.all λx=>x==Value.type "tuple")=true:=by simp only[all_toArray,all_map,ą];intro _ _;rfl
   rw[i];dsimp only;rw[b];exact wP ⟨rfl,rfl⟩
def wp_kindT{M:Model}{c:A0}(p:c≠[])(h: ∀x,x∈c-> ∃a its b r d,x=.ref a/\TupAt s.heap a its/\its=.ref b::r/\TupAt s.heap b d):
  wpAny M A (keyKind' c.toArray) (λk s'=>s'=s/\k=tuples' false) E s:=by
 rw[keyKind'_eq]
 have m: ∀x, ∃y:Option ŋ,x∈c->(∃b d,y=some (.ref b)/\TupAt s.heap b d)/\ ∀M:Model,wpAny M A (firstOfTuple' x) (λr s'=>s'=s/\r=y) E s:=by
  intro x;by_cases i:x∈c
  .obtain⟨a,its,b,r,d,rfl,h1,rfl,o⟩:=h x i;exact⟨some (.ref b),λ_=>⟨⟨b,d,rfl,o⟩,λM=>OK h1⟩⟩
  .exact⟨none,λz=>absurd z i⟩
 let g:=λx=>Classical.choose (m x);have gs: ∀x,x∈c->(∃b d,g x=some (.ref b)/\TupAt s.heap b d)/\ ∀M:Model,wpAny M A (firstOfTuple' x) (λr s'=>s'=s/\r=g x) E s:=λx i=>ā (m x) i;refine wB (û (wp_mapMA (g:=g) λx i=>(gs x i).2 M) (λr s' j=>?_) λ_ _ e=>e);obtain⟨rfl,rfl⟩:=j;rw[iP (by simp only[all_toArray,all_map,ą];intro x i;obtain⟨⟨b,d,e,_⟩,_⟩:=gs x i;show(g x).isSome=true;rw[e];rfl)];refine wB (ĕ ?_);have ef:(c.map g).toArray.filterMap id=((c.map g).filterMap id).toArray:=by simp
 rw[ef];refine wB (û (ER (l:=(c.map g).filterMap id) ?_ ?_) (λr s' j=>?_) λ_ _ e=>e)
 .match c,p,gs with
  |x::l,_,gs=>
   obtain⟨⟨b,d,e,_⟩,_⟩:=gs x mF0;rw[ä,e];simp
 .intro x i;obtain⟨y,q,e⟩:=ń.mp i;obtain⟨z,u,v⟩:=mM.mp q;obtain⟨⟨b,d,n,t⟩,_⟩:=gs z u;have:some x=some (Value.ref b):=by rw[<-n,v];exact e.symm
  cases this;exact⟨b,d,rfl,t⟩
 .obtain⟨rfl,rfl⟩:=j;refine wP ⟨rfl,?_⟩;have:((some (Value.type "tuple")).any λx=>x !=Value.type "tuple")=false:=by rfl
  rw[this]
def wp_kindE{M:Model}{b:A0}(c:b≠[])(h: ∀x,x∈b-> ∃a,x=.ref a/\TupAt s.heap a []):
  wpAny M A (keyKind' b.toArray) (λk s'=>s'=s/\k=oneType') E s:=by
 rw[keyKind'_eq];refine wB (û (wp_mapMA (g:=λ_=>(none:Option ŋ)) λx i=>?_) (λr s' d=>?_) λ_ _ e=>e)
 .obtain⟨a,rfl,t⟩:=h x i;exact OK t
 .obtain⟨rfl,rfl⟩:=d
  match b,c,h with
  |x::l,c,h=>
   rw[iN (by simp),iN (by simp)];refine wB (û (ER c λx i=>let ⟨a,e,t⟩:=h x i;⟨a,[],e,t⟩) (λr s' d=>?_) λ_ _ e=>e);obtain⟨rfl,rfl⟩:=d;exact wP ⟨rfl,rfl⟩
end
end Srt
namespace Srt
open PySem PyProof.Rows
inductive LexS(A:Ō)(s:Ŋ):List ŋ->List ŋ->Bool->Prop
 |nn:LexS A s [] [] false
 |nc (x xs):LexS A s [] (x::xs) true
 |cn (y ys):LexS A s (y::ys) [] false
 |eq {y x ys xs k}:SeqAt.EqAt A s y x true->LexS A s ys xs k->LexS A s (y::ys) (x::xs) k
 |ne {y x ys xs k}:SeqAt.EqAt A s y x false->(∀(prog:ō)(w:World)(E Q:VP),Q (.bool k) s->wpAny (model prog w) A (richCompare .Lt y x) Q E s)->LexS A s (y::ys) (x::xs) k
section
variable{prog:ō}{w:World}{A:Ō}{E:VP}{s:Ŋ}
theorem Th(c:Bool)(x y:ŋ):keyLt' (tuples' c) x y=(Builtin.List.listItems x >>= λxs=>Builtin.List.listItems y >>= λys=>
  (forIn (xs.toList.zip ys.toList).zipIdx ((none,()):Option Bool×Unit) λz _=>eqBool z.1.1 z.1.2 >>= λe=>if(!e)=true then oneLt' (c&&z.2==0) z.1.1 z.1.2 >>= λr=>pure (.done (some r,()))else pure (.yield (none,()))) >>= λr=>
  match r.1 with
  |some r=>pure r
  |none=>pure (decide (xs.size<ys.size))):=by kernel_rfl
theorem Ti(x y:ŋ):oneLt' false x y=richCompare .Lt x y >>= λv=>truthOfDropped v:=by rw[oneLt'_eq];rfl
def RS{b:Bool}{Q:Bool->Ŋ->Prop}(h:Q b s):wpAny (model prog w) A (truthOfDropped (.bool b)) Q E s:=Ķ h
def Jy{m n:Nat}{k:Bool}(vs ws:A0)(i:Nat)(a:LexS A s vs ws k):vs.length+n=ws.length+m->
   wpAny (model prog w) A (forIn ((vs.zip ws).zipIdx i) ((none,()):Option Bool×Unit) λz _=>eqBool z.1.1 z.1.2 >>= λe=>if(!e)=true then oneLt' (false&&z.2==0) z.1.1 z.1.2 >>= λr=>pure (.done (some r,()))else pure (.yield (none,())))
    (λr s'=>s'=s/\(r=(some k,())\/(r=(none,())/\k=decide (m<n)))) E s:=by
 induction a generalizing i with
 |nn=>intro h;rw[zip_nil_left,zipIdx_nil,forIn_nil];exact wP ⟨rfl,.inr ⟨rfl,(dF0 (by simp at h;omega)).symm⟩⟩
 |nc x xs=>intro h;rw[zip_nil_left,zipIdx_nil,forIn_nil];exact wP ⟨rfl,.inr ⟨rfl,(dT0 (by simp at h;omega)).symm⟩⟩
 |cn y ys=>intro h;rw[List.zip_nil_right,zipIdx_nil,forIn_nil];exact wP ⟨rfl,.inr ⟨rfl,(dF0 (by simp at h;omega)).symm⟩⟩
 |eq he hr ih=>
  intro h;rw[ğ,zipIdx_cons,forIn_cons];refine wB (wB (he prog w E _ ?_));rw[iN (by simp)];exact wP (ih (i+1) (by simpa using(by simp at h;omega)))
 |ne he hr=>
  intro h;rw[ğ,zipIdx_cons,forIn_cons];refine wB (wB (he prog w E _ ?_));rw[iP (by simp)];simp only[Bool.false_and];rw[Ti];refine wB (wB (hr prog w E _ (RS ?_)));exact wP (wP ⟨rfl,.inl rfl⟩)
def wp_keyLtT{l b:Addr}{its a:A0}{k:Bool}{Q:Bool->Ŋ->Prop}(p:TupAt s.heap l its)(u:TupAt s.heap b a)(q:LexS A s its a k)(c:Q k s):
  wpAny (model prog w) A (keyLt' (tuples' false) (.ref l) (.ref b)) Q E s:=by
 obtain⟨z,y,d,_,j⟩:=p;obtain⟨v,B,i,_,o⟩:=u;rw[Th];refine wB (listItems_at d j (wB (listItems_at i o ?_)));simp only[sA0];refine wB (û (Jy its a 0 q (m:=its.length) (n:=a.length) (by omega)) (λr s' h=>?_) λ_ _ e=>e);obtain⟨rfl,rfl|⟨rfl,e⟩⟩:=h
 .exact wP c
 .dsimp only;rw[<-e];exact wP c
def wp_lt{kd:SortKind}{x y:Keyed}{k:Bool}{st:SortSt}(b:kindOf st=kd)(h: ∀(E:VP)(Q:Bool->Ŋ->Prop),Q k s->wpAny (model prog w) A (keyLt' kd x.1 y.1) Q E s){Q:Option Bool->SortSt->Prop}(a:Q (some k) st):
  wpS (model prog w) A E s (lt' x y) Q st:=by
 rw[lt'_eq];refine wpS_bind (wpS_get ?_);rw[b];refine wpS_bind (wpS_lift (Ĉ (h _ _ ⟨rfl,?_⟩)));exact wpS_pure a
end
end Srt
namespace L2
namespace M
open PySem PySem.Spec PyProof.Rows
variable{kvs:List (Key×V)}
mutual
def gW:MV->Bool
 |.int _=>true
 |.str _=>true
 |.tup ds=>uE ds
 |_=>false
def uE:List MV->Bool
 |[]=>true
 |d::ds=>gW d&&uE ds
end
def IB{α β:Type}{g:α->β}{p m:List β}(h:p.Perm m): ∀l:List α,l.map g=p-> ∃c:List α,c.Perm l/\c.map g=m:=by
 induction h with
 |nil=>intro l e;exact⟨l,.refl _,e⟩
 |cons x _ ih=>
  intro l e
  cases l with
  |nil=>cases e
  |cons a l=>
   injection e with e1 e2
   obtain⟨c,k,d⟩:=ih l e2;exact⟨_,k.cons a,by rw[ä,e1,d]⟩
 |swap x y t=>
  intro l e
  match l,e with
  |a::b::l,e=>
   injection e with e1 e2
   injection e2 with e2 e3
   exact⟨_,.swap _ _ _,by rw[ä,ä,e1,e2,e3]⟩
 |trans _ _ ih1 ih2=>
  intro l e;obtain⟨l1,p1,j⟩:=ih1 l e;obtain⟨l2,p2,i⟩:=ih2 l1 j;exact⟨l2,p2.trans p1,i⟩
section
variable{X:Cx}{α:A9}{S:Sto}{H:Hp}{pins:B5}{σ:St}{s:Ŋ}
mutual
theorem UP(I:↑2): ∀{d b:MV}{v:V},gW d=true->gW b=true->Den X.K α H d v->Den X.K α H b v->d=b
 |.int i,b,v,_,h',q,q'=>by
  cases xM q
  cases b with
  |int j=>cases xM q';rfl
  |str x=>cases xN q'
  |tup ds=>obtain⟨a,vs,e,_⟩:=yO q';cases e
  |_=>simp[gW]at h'
 |.str x,b,v,_,h',q,q'=>by
  have e:=xN q
  cases b with
  |int j=>rw[xM q']at e;cases e
  |str y=>rw[xN q']at e;injection e with e;rw[tL e]
  |tup ds=>obtain⟨a,vs,c,_⟩:=yO q';rw[c]at e;cases e
  |_=>simp[gW]at h'
 |.tup ds,b,v,h,h',q,q'=>by
  obtain⟨a,vs,e,t,l⟩:=yO q
  cases b with
  |int j=>rw[xM q']at e;cases e
  |str y=>rw[xN q']at e;cases e
  |tup es=>
   obtain⟨n,k,c,t',m⟩:=yO q';rw[e]at c;cases c;have:=I.tuple_inj t t';subst this;rw[ES I (by unfold gW at h;exact h) (by unfold gW at h';exact h') l m]
  |_=>simp[gW]at h'
theorem ES(I:↑2): ∀{ds es:C1}{vs:List V},uE ds=true->uE es=true->DenL X.K α H ds vs->DenL X.K α H es vs->ds=es
 |[],[],_,_,_,_,_=>rfl
 |[],e::es,_,_,_,q,q'=>by obtain⟨v,r,e,_⟩:=q'.uncons;rw[q.isnil]at e;cases e
 |d::ds,[],_,_,_,q,q'=>by obtain⟨v,r,e,_⟩:=q.uncons;rw[q'.isnil]at e;cases e
 |d::ds,e::es,_,h,h',q,q'=>by obtain⟨v,r,rfl,a,l⟩:=q.uncons;obtain⟨k,j,i,c,b⟩:=q'.uncons;cases i;unfold uE at h h';rw[aE]at h h';rw[UP I h.1 h'.1 a c,ES I h.2 h'.2 l b]
end
def Ym{A:Ō}{xs ys:A0}{k:Bool}(h:LexR A s xs ys k):Srt.LexS A s xs ys k:=by
 induction h with
 |nn=>exact .nn
 |nc x xs=>exact .nc x xs
 |cn x xs=>exact .cn x xs
 |eq a _ ih=>exact .eq a ih
 |ne a b=>exact .ne a b
inductive KindD:Bool->MV->Prop
 |t (es r):KindD true (.tup (.tup es::r))
 |e:KindD false (.tup [])
abbrev Cc(b:Bool):SortKind:=if b=true then tuples' false else oneType'
def sZ(I:↑2){ds:C1}{x:V}{u:ŋ}(d:Den X.K α H (.tup ds) x)(r:RelV x u): ∃a vs its,u=.ref a/\DenL X.K α H ds vs/\Vals vs its/\Srt.TupAt s.heap a its/\IsTup s.heap a its.toArray:=by obtain⟨a,vs,rfl,t,l⟩:=yO d;cases r;obtain⟨its,b,pt,_⟩:=I.tuple t;obtain⟨o,h1,c,n,e⟩:=id pt;exact⟨a,vs,its,rfl,l,b,⟨o,n,h1,c,e⟩,pt⟩
def Jz(I:↑2)(P:Wd X.g α S H){A:Ō}(hu:A.units+64<cLine){b:Bool}{d f:MV}{x y:V}{u v:ŋ}{k:Bool}(kd:KindD b d)(kf:KindD b f)(h1:Den X.K α H d x)(N:Den X.K α H f y)(Z:RelV x u)(Y:RelV y v)
  (h:vH S zG d f=some k) (prog:ō) (w:World) (E:VP) (Q:Bool->Ŋ->Prop) (hq:Q k s):wpAny (model prog w) A (keyLt' (Cc b) u v) Q E s:=by
 cases kd with
 |t es r=>
  cases kf with
  |t es' r'=>
   obtain⟨O,G,o,rfl,l1,p,t1,_⟩:=sZ I h1 Z;obtain⟨W,z,j,rfl,l2,M,t2,_⟩:=sZ I N Y;have h':tU (eqv S 39) (vH S 39) (.tup es::r) (.tup es'::r')=some k:=h
   refine Srt.wp_keyLtT t1 t2 (Ym (TN (λd f x y u v k a b c D e=>vS I P 39 A d f x y u v k (by omega) a b c D e)
    (λd f x y u v k a b c D e=>JU I P 39 A d f x y u v k (by omega) a b c D e) l1 l2 p M h')) hq
 |e=>
  cases kf;obtain⟨O,G,o,rfl,l1,p,t1,p1⟩:=sZ I h1 Z;obtain⟨W,z,j,rfl,l2,M,t2,p2⟩:=sZ I N Y;cases l1.isnil;cases l2.isnil;cases p;cases M;have hk:k=false:=by have h':(some false:Option Bool)=some k:=h;cases h';rfl
  subst hk;show wpAny (model prog w) A (keyLt' oneType' _ _) Q E s;rw[keyLt'_oneType,oneLt'_eq];simp only[if_true];obtain⟨⟨aa,dd,U,sl⟩,L,hc,n,hd⟩:=id p1;obtain⟨⟨T,q,B,J⟩,C,i,n2,m⟩:=id p2;simp only at hc hd i m;subst hc hd i m;refine wB (wpAny_cRoomFor (by omega) ?_);refine wB (wpAny_callSpecialIfBound?_slot ⟨_,L,rfl⟩ PySem.F.slot_tuple_lt (Ĺ PySem.F.slot_tuple_lt ⟨_,L,rfl⟩ PySem.F.entry_tuple_lt (PySem.F.args_tuple_lt_2 _ _) (EE O W _ _ n n2 dd q sl J false) ⟨L,C,.nn,?_⟩));exact Ķ hq
end
structure OrdD(S:Sto)(ks:C1):Prop where
 any: ∀a,a∈ks-> ∀b,b∈ks-> ∃t,vH S zG a b=some t
 tr: ∀a,a∈ks-> ∀b,b∈ks-> ∀c,c∈ks->vH S zG b a=some false->vH S zG c b=some false->vH S zG c a=some false
 as: ∀a,a∈ks-> ∀b,b∈ks->vH S zG a b=some true->vH S zG b a=some false
theorem KO(a f:ŋ):argsOk "sorted" ⟨[a],[("key",f)]⟩:=by unfold argsOk;kernel_rfl
theorem RT(a f:ŋ):argsOk "list.sort" ⟨[a],[("key",f)]⟩:=by unfold argsOk;kernel_rfl
section
variable{X:Cx}{α:A9}{S:Sto}{H:Hp}{pins:B5}{σ:St}{s:Ŋ}{k:Nat}{fa:Addr}{fd:FuncData}{ps:B0}
def Ka{sp:Sp}{Q:VK}{us:A0}{vs:List V}{j:VP}(F:FnOk X.prog X.w X.K X.mg X.base DT k fa fd ps sp)(d:Room (k+2) X.A)(i:Binds X.K fd ps [])
  (I:↑2) (r:Vals vs us) (h:sp vs H Q E0):wpAny (model X.prog X.w) X.A.in1.in1 (call (.ref fa) us) (EP X pins σ Q) j s:=by
 have c:(us++[]).length=ps.length:=by rw[aN, <-r.length];exact F.len _ _ _ _ h
 have b:=i s us I.kIn c;rw[aN]at b;refine wpAny_call (codeAny_mono (F.run X.A.in1.in1 X.stack s H ⟨us,[]⟩ us vs Q E0 d.in1.in1 I.env0.in1.in1 b r h) λr s' a=>?_)
 cases r with
 |error e=>exact False.elim a
 |ok fl=>
  cases fl with
  |ret u=>exact I.after a
  |next=>exact False.elim a
  |brk=>exact False.elim a
  |cont=>exact False.elim a
def Tj{g:Gm}{α α':A9}{S:Sto}{H H':Hp}(w:Wd g α S H)(x:Ext α H α' H')(b:Wd g α' S H'):α'=α:=by obtain⟨t,e⟩:=x.pre;have h1:=w.len;have a:=b.len;rw[e,lA]at a;have:t=[]:=Ń.mp (by omega);rw[e,this,aN]
end
section
variable{X:Cx}{α:A9}{H:Hp}{pins:B5}{σ:St}{s:Ŋ}{ps:B0}
def XX{e:Addr}{ys:List V}{its:A0}{n:Nat}(J:↑2)(f:pP X pins H e)(m:X.s₀.heap.objs.size<=e)(j:s.heap.get? e=some (seqObj "list" its.toArray n))(y:Vals ys its)(hz:ys.length<=sizeLine):Inv X pins σ (xU H e (.lst ys)) s:=by
 have A: ∀o,X.s₀.heap.get? e≠some o:=λo z=>absurd (ç (â z) m) (ı _);refine⟨J.ok,J.os,J.bare,⟨J.base.keep,J.base.slot,λb a q n w=>?_,J.base.there,λb xs q=>?_,λb o' u q=>?_,λb ps q=>?_⟩,J.loc,J.cell,?_,λx c h=>?_,λp d=>?_,λb u q=>?_,J.len⟩
 .rw[zH λz=>A a (by rw[<-z];exact q)];exact J.base.free b a q n w
 .rw[zH (zP (J.base.tups b xs q) f.1)];exact J.base.tups b xs q
 .rw[zH (zP (J.base.frzs b o' u q) f.1)];exact J.base.frzs b o' u q
 .obtain⟨i,z⟩:=J.base.tbls b ps q;exact⟨i,by rw[zH (zP z f.1)];exact z⟩
 .rw[zH (Ne.symm f.2.1)];exact J.free
 .rw[zH (f.2.2.2.2.1 x c h)];exact J.freeC x c h
 .obtain⟨k,n,ne,nf,v⟩:=J.pin p d;exact⟨k,by rw[zH (f.2.2.2.2.2 p d)];exact n,ne,nf,v⟩
 .by_cases z:b=e
  .subst z;rw[zT]at q;cases q;exact⟨hz,its,n,y,j⟩
  .rw[zH z]at q;exact(J.hok b u q).stay (λ_ _ _ r=>r) (λc r=>by rw[zH (zP r f.1)];exact r) λc xs r=>by rw[zH (zP r f.1)];exact r
def Tl(I:↑2){A:Ō}{kds:C1}{kvs:List V}{ks:A0}(n:kds≠[]){b:Bool}(c: ∀d,d∈kds->KindD b d)(p:DenL X.K α H kds kvs)(m:Vals kvs ks){E:VP}:
  wpAny (model X.prog X.w) A (keyKind' ks.toArray) (λq s'=>s'=s/\q=Cc b) E s:=by
 have ne:ks≠[]:=λz=>by have h1:=m.length;have j:=p.length;rw[z]at h1;exact n (Ń.mp (by rw[<-j,h1];rfl))
 have all: ∀u,u∈ks-> ∃d v,d∈kds/\Den X.K α H d v/\RelV v u:=by
  intro u h;obtain⟨i,hi⟩:=getElem?_of_mem h;have y:i<kvs.length:=by rw[m.length];exact(gS.mp hi).1
  obtain⟨L,h1,r⟩:=m.get (gE y);rw[hi]at h1;cases h1;obtain⟨d,j,D⟩:=p.get (gE y);exact⟨d,_,è j,D,r⟩
 cases b with
 |true=>
  refine Srt.wp_kindT ne λu h=>?_;obtain⟨d,v,md,k,r⟩:=all u h
  cases c d md with
  |t es rr=>
   obtain⟨a,vs,its,rfl,l,o,t,_⟩:=sZ I k r;obtain⟨G,J,rfl,B,_⟩:=l.uncons
   cases o with
   |@cons _ u1 _ us1 rv rr'=>
    obtain⟨C,_,e,rfl,_,_,F,_⟩:=sZ I B rv;exact⟨a,_,C,us1,e,rfl,t,rfl,F⟩
 |false=>
  refine Srt.wp_kindE ne λu h=>?_;obtain⟨d,v,md,k,r⟩:=all u h;cases c d md;obtain⟨a,vs,its,rfl,l,o,t,_⟩:=sZ I k r;cases l.isnil;cases o;exact⟨a,rfl,t⟩
end
theorem XY{ks its:A0}{N:Nat}(h1:ks.length=N)(a:its.length=N):(List.range N).map (λi=>((ks[i]?).getD .none,(its[i]?).getD .none))=ks.zip its:=by
 apply ext_getElem?;intro i;rw[ö];by_cases hi:i<N
 .have e:(ks.zip its)[i]? =some (ks[i]'#[0],its[i]'#[0]):=by rw[List.getElem?_zip_eq_some];exact⟨gE _,gE _⟩
  rw[List.getElem?_range hi,e];show some ((ks[i]?).getD .none,(its[i]?).getD .none)=_;rw[gE #[0],gE #[0]];rfl
 .rw[getElem?_eq_none (by rw[Ē];lia),getElem?_eq_none (by rw[Ļ];lia)];rfl
theorem ET{β:Type}{l:List β}{d:β}{idx:Db}(h: ∀i,i∈idx->i<l.length):idx.map (λi=>(l[i]?).getD d)=idx.filterMap (l[·]?):=by
 induction idx with
 |nil=>rfl
 |cons i idx ih=>
  have hi:=h i mF0;rw[ä,Ł (gE hi),ih λj a=>h j (mO _ a),gE hi];rfl
def UQ(S:Sto)(ds kds r:C1):Prop:= ∃idx:List Nat,idx.Perm (List.range ds.length)/\idx.Pairwise (λi j=> ∀a c,kds[i]? =some a->kds[j]? =some c->vH S zG c a=some false)/\r=idx.filterMap (ds[·]?)
open Classical in
open Classical in
def XZ:bootBuiltins "sorted"=some (.builtin "sorted"):=by decide+kernel
section
variable{X:Cx}{W:XW}{tg iter a:Expr}{f:AX}{af:Rho->Sto->R (List Er)}{e:Expr}{es:B8}{pos apos:Pos}
def Itq(K:B9)(k:Bool)(a:Addr):It:=if k=true then Zs K a else Zt K a
def iSeq(K:B9)(tl:TE):TI:=λσ H R=>tl σ H λx H1=> ∃k a,x=.ref a/\(∃xs,GB k K H1 a xs)/\R (Itq K k a) H1
def To{l:Expr}{tl:TE}(u:PE X l tl):PI X tg l (iSeq X.K tl):=by
 intro pins s σ H R I h;refine jI (u pins s σ H _ I h) λv c ⟨x,H1,I1,n,r⟩=>?_;obtain⟨k,a,e,⟨xs,i⟩,q⟩:=r;subst e;cases n
 cases k with
 |true=>
  obtain⟨its,j,p,m⟩:=I1.list (show SqL X.K H1 a xs from i);refine wpAny_pyIter_list p.isList ?_;refine⟨c.heap.objs.size,[c.heap.objs.size],_,_,H1,rfl,I1.kept (t':=c.toks) λb o e=>hP0 _ e,GZ a _,⟨_,ã _ rfl,rfl,rfl⟩,λb d=>?_,q⟩;have e:b=c.heap.objs.size:=by simpa using d
  subst e;exact I1.fpOk (à _) (I1.hok.fresh (à _))
 |false=>
  obtain⟨its,j,p,m⟩:=I1.tuple (show SqT X.K H1 a xs from i);refine wpAny_pyIter_tuple (show c.heap.IsTuple a its.toArray from p) ?_;refine⟨c.heap.objs.size,[c.heap.objs.size],_,_,H1,rfl,I1.kept (t':=c.toks) λb o e=>hP0 _ e,DQ a _,⟨_,ã _ rfl,rfl,rfl⟩,λb d=>?_,q⟩;have e:b=c.heap.objs.size:=by simpa using d
  subst e;exact I1.fpOk (à _) (I1.hok.fresh (à _))
def itQ(r:Er)(S:Sto):R Wk:=match srcOf S r with
 |some q=>.ok ⟨q.ds,q.gs⟩ S
 |none=>.no
def Tp(o:zN X W iter f):HN X W tg iter (λρ S=>(f ρ S).bind itQ):=by
 obtain⟨t,o,k⟩:=o;refine⟨_,To o,λα ρ S σ H O G sl q=>k α ρ S σ H _ G sl (q.bind λu p S1 n H1 e L B F c=>?_)⟩
 replace c:=c.shift L
 unfold itQ at c;split at c
 .rename_i q E;obtain⟨l1,D,rfl,p1,h⟩:=vX B E F.1;have I:=h.get _ _ _ p1;refine⟨q.k,l1,rfl,⟨_,I.choose_spec.1⟩,c.here (u:=Itq X.K q.k l1) B ⟨λα S H=>D α S H,?_,p1,λn S1 H1 b S2 m d x w hs=>h.stays _ _ _ _ _ _ d x w hs,h.st _ _ _ p1⟩⟩;intro i b S2 m d C;obtain⟨us,A,z⟩:=h.get _ _ _ d;obtain⟨J,v,N⟩:=q
  cases J with
  |true=>
   obtain⟨i1,i2⟩:=tP (X:=X) (a:=l1) (ds:=v) i b S2 m ⟨us,A,z⟩ C;refine⟨λhi=>⟨(i1 hi).1,λx H' y=>?_⟩,i2⟩;obtain⟨j,s,M,r⟩:=(i1 hi).2 x H' y;obtain⟨rfl,_⟩:=y;exact⟨j,s,d,r⟩
  |false=>
   obtain⟨i1,i2⟩:=TH (X:=X) (a:=l1) (ds:=v) i b S2 m ⟨us,A,z⟩ C;refine⟨λhi=>⟨(i1 hi).1,λx H' y=>?_⟩,i2⟩;obtain⟨j,s,M,r⟩:=(i1 hi).2 x H' y;obtain⟨rfl,_⟩:=y;exact⟨j,s,d,r⟩
 .exact c.elim
theorem DenL.eraseIdx{K:B9}{α:A9}{H:Hp}: ∀{ds:C1}{vs:List V}(n:Nat),DenL K α H ds vs->DenL K α H (ds.eraseIdx n) (vs.eraseIdx n)
 |[],_,_,q=>by rw[q.isnil];exact zX
 |d::ds,_,0,q=>by obtain⟨v,r,rfl,_,l⟩:=q.uncons;exact l
 |d::ds,_,n+1,q=>by obtain⟨v,r,rfl,a,l⟩:=q.uncons;exact zR a (DenL.eraseIdx n l)
def YA(p:Er)(rs:List Er)(S:Sto):R Er:=match p,rs with
 |.val (.loc l),[.val (.int i)]=>match S[l]? with
  |some (.lst ds)=>if -(2 ^ 63)<=i/\i<2 ^ 63 then match JF ds.length i with
   |some j=>match ds[j]? with
    |some d=>.ok (.val d) (S.set l (.lst (ds.eraseIdx j)))
    |none=>.no
   |none=>.no
   else .no
  |_=>.no
 |_,_=>.no
def Tq:NL X W Ab YA:=by
 intro p rs x vs α S H0 H Q u c w z A b;unfold YA at b;split at b
 .rename_i l i;obtain⟨a,rfl,h⟩:=aZ z;obtain⟨v,rfl,B⟩:=HP A;cases yP B;obtain⟨s,h1,n⟩:=c.of h;rw[h1]at b
  cases s with
  |lst ds=>
   obtain⟨us,k,l1⟩:=n;dsimp only at b;split at b
   .rename_i m;split at b
    .rename_i j q;split at b
     .rename_i d C;obtain⟨y,r,D⟩:=l1.at C;have e:=c.writex h (Ff k) (o:=.lst (us.eraseIdx j));refine⟨a,us,i,j,y,rfl,rfl,k,m.1,m.2,by rw[l1.length];exact(JG q).1,r,?_⟩;exact(b.shift (w.trans e)).val (c.write h (Ff k) ⟨_,zT,(l1.eraseIdx j).ext e⟩) (D.ext e)
     .exact b.elim
    .exact b.elim
   .exact b.elim
  |dic _=>exact b.elim
  |ins _ _=>exact b.elim
  |rcd _ _=>exact b.elim
  |fdc _=>exact b.elim
 .exact b.elim
def Tr(ho:zN X W a f)(b:CS X W (e::es) af)
  (hbase:attributeBase a "pop" X.env (eval a X.env)=eval a X.env:=by rfl)
  (hfew:((backTo pos (starEach (e::es) X.env)).all (λx=>!x.1)&&(backToKw pos (keywordEach [] X.env)).all (λx=>x.1.isSome)
   &&decide ((e::es).length+([]:List Keyword).length+(if([]:List Keyword).isEmpty then 0 else 1)<30))=true:=by rfl)
  (hline:(apos.endLine==pos.line)=true:=by rfl) (hs:q9 X e es:=by rfl) (hplain:Q0 X pos es:=by rfl):
  zN X W (.Call (.Attribute a "pop" apos) (e::es) [] pos) (λρ S=>(f ρ S).bind λp S1=>if wG p S1=true then(af ρ S1).bind λrs S2=>YA p rs S2 else .no):=
 JR PySem.F.plainAttrs_list PySem.F.slot_list_pop PySem.F.type_list_pop Ac Tq RJ ho b hbase hfew hline hs hplain
end
section
variable{X:Cx}{W:XW}{a b o i:Expr}{pins:B5}{σ:St}{H:Hp}{s:Ŋ}{α:A9}
noncomputable def qG(kvs:List (Key×V))(k:Key)(v:V):List (Key×V):=if(kvs.any λa=>decide (a.1=k))=true then kvs.map (λa=>if a.1=k then(a.1,v)else a)else kvs++[(k,v)]
def uF(kvs:List (Key×V))(k:Key)(v:V):(qG kvs k v).length<=kvs.length+1:=by
 unfold qG;split
 .rw[lM];exact le_succ _
 .rw[lA];exact à _
def Ts{vs:List (Key×ŋ)}(r:KV kvs vs)(k:Key):(kvs.any λa=>decide (a.1=k))=vs.any λa=>decide (a.1=k):=by
 induction r with
 |nil=>rfl
 |cons h t ih=>rw[List.any_cons,List.any_cons,ih,h.1]
def Kb{vs:List (Key×ŋ)}(r:KV kvs vs)(k:Key){y:V}{u:ŋ}(b:RelV y u):KV (kvs.map λa=>if a.1=k then(a.1,y)else a) (vs.map λa=>if a.1=k then(a.1,u)else a):=by
 induction r with
 |nil=>exact .nil
 |@cons p q ps qs h t ih=>
  rw[ä,ä];refine .cons ?_ ih;by_cases e:p.1=k
  .rw[iP e,iP (h.1.symm.trans e)];exact⟨h.1,b⟩
  .rw[iN e,iN λz=>e (h.1.trans z)];exact h
def Kc{vs:List (Key×ŋ)}(r:KV kvs vs){p:Key×V}{q:Key×ŋ}(h:p.1=q.1/\RelV p.2 q.2):KV (kvs++[p]) (vs++[q]):=by
 induction r with
 |nil=>exact .cons h .nil
 |cons h' t ih=>exact .cons h' ih
def RU{vs:List (Key×ŋ)}(r:KV kvs vs)(k:Key){y:V}{u:ŋ}(a:RelV y u):KV (qG kvs k y) (stored vs k u):=by
 unfold qG stored;rw[Ts r k];by_cases e:(vs.any λb=>decide (b.1=k))=true
 .rw[iP e,iP e];exact Kb r k a
 .rw[iN e,iN e];exact Kc r ⟨rfl,a⟩
def KP{k:MV}{a b:Key}(h:KeyD k a)(h':KeyD k b):a=b:=by
 cases k with
 |int i=>exact Eq.trans h h'.symm
 |str x=>exact Eq.trans h h'.symm
 |_=>exact False.elim h
def EU{k k':MV}{a:Key}(h:KeyD k a)(h':KeyD k' a):k=k':=by
 cases k with
 |int i=>
  have e:=h;subst e
  cases k' with
  |int j=>have b:(Sum.inl i:Key)=.inl j:=h';cases b;rfl
  |str y=>have b:(Sum.inl i:Key)=.inr _:=h';cases b
  |_=>exact False.elim h'
 |str x=>
  have e:a=.inr _:=h;subst e
  cases k' with
  |int j=>have b:(Sum.inr _:Key)=.inl j:=h';cases b
  |str y=>
   have b:(Sum.inr _:Key)=.inr _:=h';injection b with b
   rw[tL b]
  |_=>exact False.elim h'
 |_=>exact False.elim h
theorem OL: ∀{kvs:C7}{ks:List (Key×V)}{k:MV}{k':Key},DenK X.K α H kvs ks->KeyD k k'->(ks.any λb=>decide (b.1=k'))=(look kvs k).isSome
 |_,_,k,k',.nil,hk=>rfl
 |_,_,k,k',.cons (k:=c) (k':=c') hc a l,hk=>by
  rw[yY,List.any_cons];by_cases h:c=k
  .subst h;rw[iP rfl,dT0 (KP hc hk)];rfl
  .have d: ¬c'=k':=λz=>h (EU hc (z.symm▸hk));rw[iN h,dF0 d];exact OL l hk
theorem EV: ∀{kvs:C7}{ks:List (Key×V)}{k d:MV}{k':Key}{v:V},DenK X.K α H kvs ks->KeyD k k'->Den X.K α H d v->DenK X.K α H (kvs.map λp=>if p.1=k then(p.1,d)else p) (ks.map λb=>if b.1=k' then(b.1,v)else b)
 |_,_,k,d,k',v,.nil,hk,hd=>.nil
 |_,_,k,d,k',v,.cons (k:=c) (k':=c') hc a l,hk,hd=>by
  rw[ä,ä];by_cases h:c=k
  .subst h;rw[iP rfl,iP (KP hc hk)];exact .cons hc hd (EV l hk hd)
  .have e: ¬c'=k':=λz=>h (EU hc (z.symm▸hk));rw[iN h,iN e];exact .cons hc a (EV l hk hd)
theorem DenK.append: ∀{kvs b:C7}{xs c:List (Key×V)},DenK X.K α H kvs xs->DenK X.K α H b c->DenK X.K α H (kvs++b) (xs++c)
 |_,_,_,_,.nil,h=>h
 |_,_,_,_,.cons hk a l,h=>.cons hk a (DenK.append l h)
theorem DenK.length: ∀{kvs:C7}{xs:List (Key×V)},DenK X.K α H kvs xs->xs.length=kvs.length
 |_,_,.nil=>rfl
 |_,_,.cons _ _ l=>by rw[lC,lC,DenK.length l]
def EW{kvs:C7}{ks:List (Key×V)}{k d:MV}{k':Key}{v:V}(l:DenK X.K α H kvs ks)(a:KeyD k k')(hd:Den X.K α H d v):DenK X.K α H (putK kvs k d) (qG ks k' v):=by
 unfold putK qG;rw[OL l a];by_cases h:(look kvs k).isSome=true
 .rw[iP h,iP h];exact EV l a hd
 .rw[iN h,iN h];exact l.append (.cons a hd .nil)
def DK(X:Cx)(H:Hp)(d:Addr)(ks:List (Key×V)):Prop:=H d=some (.dK ks)\/(ks=[]/\H d=some (DN X.prog X.w d []))
def DK.nf{d:Addr}{ks:List (Key×V)}(h:DK X H d ks): ∀a u,H d≠some (.frz a u):=h.elim (λz=>Ff z) λz=>by first |exact Ff z.2|exact z.elim
def nR(I:↑2){ks:List (Key×V)}{d:Addr}(h:DK X H d ks):ks.length<=sizeLine/\(d==sysModules)=false/\ ∃vs,KV ks vs/\s.heap.DictOf (xH X.prog X.w) d vs:=by
 rcases h with h|⟨rfl,h⟩
 .exact(I.hok d _ h)
 .obtain⟨⟨k,hs,o,es,ep,j,i,hd,c,m⟩,_⟩:=(I.hok d _ h)
  have a:=c;refine⟨zero_le _,hs,[],.nil,o,es,ep,j,i,hd,λe b=>?_,by rw[a];exact .nil,nodup_nil⟩;rw[<-Array.mem_toList_iff,a]at b;exact absurd b (by simp)
def RV:CallR X (.type "list") (λxs H Q=> ∃d ks,xs=[.ref d]/\DK X H d ks/\X.calm=true/\ ∀l,H l=none->Q (.ref l) (xU H l (.lst (ks.map λp=>kV p.1)))):=by
 intro pins s σ H xs us Q I r h;obtain⟨d,ks,rfl,G,N,q⟩:=h;obtain⟨u,rfl,K⟩:=vals1 r;cases K;obtain⟨z,hd,vs,m,O⟩:=nR I G;obtain⟨ep,y⟩:=O.dictAt;have o:ks.length=vs.length:=Paired.length m;refine PySem.W.kdl_call (PySem.W.kdl_dict (knd:=xH X.prog X.w) (kvs:=vs) (ep:=ep) hd) (I.ok.hd N) y (by omega) λh' L n M J F c=>?_
 have D:Vals (ks.map λp=>kV p.1) n.toList:=by
  have A: ∀{ks:List (Key×V)}{vs:List (Key×ŋ)}{us:A0},KV ks vs->us.length=vs.length->(∀(j:Nat)(v:ŋ),us[j]? =some v-> ∃(k:Key)(x:ŋ),vs[j]? =some (k,x)/\(xH X.prog X.w).is k v=true)->Vals (ks.map λp=>kV p.1) us:=by
   intro ks vs us B;unfold KV at B
   induction B generalizing us with
   |nil=>intro o _;cases us with
    |nil=>exact .nil
    |cons a b=>simp at o
   |@cons p q ps qs h t ih=>
    intro o C
    cases us with
    |nil=>simp at o
    |cons a b=>
     obtain⟨k,x,e,hi⟩:=C 0 a rfl;simp only[List.getElem?_cons_zero,Option.some.injEq]at e;subst e;rw[ä];refine .cons ?_ (ih (by simpa using o) λj v E=>by simpa using C (j+1) v (by simpa using E));rw[h.1];rcases yB hi with⟨i,t,e1,e2⟩|⟨i,t,e1,e2⟩
     .subst e2;rw[show k=.inl i from e1];exact⟨t,rfl⟩
     .subst e2;rw[show k=.inr i from e1];exact⟨t,rfl⟩
  exact A m (by rw[í];exact c.1) λj v e=>c.2 j v (by rw[<-ò];exact e)
 refine⟨.ref ↑0,_,I.laid (t':=L) J (à _) (show ObjOk X.prog X.w _ h' _ (.lst (ks.map λp=>kV p.1))from⟨by rw[lM];exact z,n.toList,M,D,?_⟩),rfl,q _ (I.hok.fresh (à _))⟩;rw[Array.toArray_toList];exact F
theorem IC: ∀{kvs:C7}{ks:List (Key×V)},DenK X.K α H kvs ks->DenL X.K α H (kvs.map (·.1)) (ks.map λp=>kV p.1)
 |_,_,.nil=>zX
 |_,_,.cons (k:=c) (k':=c') hc a l=>by
  refine zR ?_ (IC l)
  cases c with
  |int i=>rw[show c'=.inl i from hc];exact yZ i
  |str x=>rw[show c'=.inr _ from hc];exact mU x
  |_=>exact False.elim hc
end
def StrAt(val:Nat->Key)(i:Nat)(v:ŋ):Prop:=(∃x t,val i=.inr x/\v=.str x t)\/ ∃x t,val i=.inl x/\v=.int x t
def StrAt.is{P:ō}{w:World}{val:Nat->Key}{i:Nat}{v:ŋ}(h:StrAt val i v):(xH P w).is (val i) v=true/\v.scannable=true:=by
 rcases h with⟨x,t,e,rfl⟩|⟨x,t,e,rfl⟩<;>rw[e]
 .exact⟨pT P w x t,rfl⟩
 .exact⟨BB P w x t,rfl⟩
section
variable{X:Cx}{o e:Expr}{es:B8}{apos pos:Pos}{to:TE}{t:TA}{T:String}{name:Str}{id:String}{r:V->List V->Hp->VK->Prop}
def rP(X:Cx)(T:String)(c:V->Hp->Prop):Prop:= ∀(pins:B5)(s:Ŋ)(σ:St)(H:Hp)(x:V)(v:ŋ),Inv X pins σ H s->RelV x v->c x H->s.TypeIs v T/\ ∀a,v=.ref a-> ∃b,s.heap.get? a=some b/\b.dict=none
def KQ{k:V->Hp->Prop}(d:rP X T k)(A:PlainAttrs T)(a:Slot T name id)(c:typeOf (.builtin id)=pure (.type "method_descriptor"))(z:Gp X id r)(ho:PE X o to)(q:PA X (e::es) t)
  (hbase:attributeBase o name X.env (eval o X.env)=eval o X.env)
  (hfew:((backTo pos (starEach (e::es) X.env)).all (λx=>!x.1)&&(backToKw pos (keywordEach [] X.env)).all (λx=>x.1.isSome)
   &&decide ((e::es).length+([]:List Keyword).length+(if([]:List Keyword).isEmpty then 0 else 1)<30))=true)
  (hline:(apos.endLine==pos.line)=true) (hs:starEach (e::es) X.env=(false,eval e X.env)::starEach es X.env) (hplain:(backTo pos (starEach es X.env)).any (·.1)=false):
  PE X (.Call (.Attribute o name apos) (e::es) [] pos) (λσ H Q=>to σ H λx H1=>k x H1/\t σ H1 λvs b=>r x vs b Q):=by
 intro pins s σ H Q I h;refine wpAny_Call_method_late hbase hfew hline rfl (jI (ho pins s σ H _ I h) λv j ⟨x,H1,I1,i,y,p⟩=>?_);obtain⟨h1,n⟩:=d pins j σ H1 x v I1 i y;refine⟨T,id,A,a,c,h1,n,?_⟩;have m:=q pos pins j σ H1 _ I1 p;rw[hs]at m ⊢;refine Calls.callWith_builtin (by show(false || (backTo pos _).any (·.1))=false;rw[hplain]<;>rfl) (Calls.evalArgs_plain ?_);exact jI m λus C ⟨vs,b,w,B,u⟩=>z pins C σ b x vs v us Q w i B u
def TyD(X:Cx)(x:V)(H:Hp):Prop:= ∃d xs,x=.ref d/\DD X H d xs
def AD:rP X "dict" (TyD X):=by
 intro pins s σ H x v I i ⟨d,xs,e,j⟩;subst e;cases i;rcases j with h|⟨rfl,h⟩
 .obtain⟨⟨m,hs,o,es,ep,c,b,_⟩,_⟩:=(show ObjOk X.prog X.w H s.heap d (DN X.prog X.w d xs)from I.hok d _ h)
  exact⟨⟨o,c,b.1⟩,λa e=>by cases e;exact⟨o,c,b.2.1⟩⟩
 .obtain⟨_,hs,vs,k,o,es,ep,c,b,_⟩:=(show ObjOk X.prog X.w H s.heap d (.dK [])from I.hok d _ h)
  exact⟨⟨o,c,b.1⟩,λa e=>by cases e;exact⟨o,c,b.2.1⟩⟩
end
section
variable{P:ō}{w:World}{KK:Type}[DecidableEq KK]{knd:HeapKind P w KK}{A:Ō}{E:VP}{s:Ŋ}{d a:Addr}{k:KK}{xs:List (KK×Addr×ŋ)}
def YB{v:ŋ}{Q:VP}(B:knd.room A)(b:knd.is s.heap k a)(F:s.heap.DictOfH knd d xs)
  (h1: ∀p,atKey xs k=some p->Q p.2 {s with toks:=s.toks+knd.draws k})
  (h2:atKey xs k=none-> ∀h',h'.DictOfH knd d (storedH xs k a v)->Heap.SameBut d s.heap h'->Q v {s with heap:=h',toks:=s.toks+knd.draws k}) (hsz:xs.length<=sizeLine):
  wpAny (model P w) A (dictSetDefault d (.ref a) v) Q E s:=by
 obtain⟨o,es,ep,m,D,hd,r,q,u⟩:=F;unfold dictSetDefault
 try with_reducible refine ù ?_
 refine wB (knd.pyHash B b ?_);refine wB (wpAny_dictFind_heap (s:={s with toks:=s.toks+knd.draws k}) B b m hd r q u ?_ ?_)
 .intro n;have c:=atKey_none_of_get n;have h:=storedH_new (v:=v) (a:=a) c
  refine wB (ĕ (wB (wpAny_updateDictKeys (hz:=by have e:=size_of_entries r;omega) (s:={s with toks:=s.toks+knd.draws k}) m hd (wP (h2 c _ ⟨_,_,ep+1,Heap.get?_update_self _ m (Obj.isFreed_of_dict (Obj.data_mapDictKeys hd _)),
   D.mapDictKeys _,Obj.data_mapDictKeys hd _,?_,?_,?_⟩ (ď ..))))))
  .rw[h];simp[r,entryOfKey]
  .rw[h];intro x i;rcases é.mp i with i|i
   .exact knd.keeps (q x i) m hd (ď ..)
   .rw[mS.mp i];exact knd.keeps b m hd (ď ..)
  .rw[h,ð,ĥ];refine⟨u,by simp,λx i y C=>?_⟩;rw[mS.mp C];rintro rfl;exact not_mem_keys_of_get n i
 .intro j p z;refine wB (ę (s:={s with toks:=s.toks+knd.draws k}) m hd ?_);rw[entry_at r j,z];exact wB (ĕ (wP (h1 _ (atKey_of_get u z))))
end
section
variable{X:Cx}{W:XW}{o e:Expr}{es:B8}{f:AX}{af:Rho->Sto->R (List Er)}{apos pos:Pos}
theorem KR{α:A9}{H:Hp}: ∀{kvs:C7}{xs:List (NK×Addr×ŋ)}{k b:MV}{nk:NK},DenN X.K α H kvs xs->xD k=some nk->look kvs k=some b-> ∃a u v,atKey xs nk=some (a,u)/\Den X.K α H b v/\RelV v u
 |_,_,k,b,nk,.nil,hk,h=>by cases h
 |_,_,k,b,nk,.cons (k:=k') (nk:=nk') (a:=a) (d:=d') (v:=v) (u:=u) hk' e ha hd r l,hk,h=>by
  rw[yY]at h;by_cases c:k'=k
  .subst c;have:nk'=nk:=by rw[hk]at hk';exact(å hk').symm
   rw[iP rfl]at h;cases h;exact⟨a,u,v,by rw[sU,iP this],hd,r⟩
  .have o:nk'≠nk:=λz=>c (uB hk' (by rw[hk,z]));rw[iN c]at h;obtain⟨p,m,n,h1,i,j⟩:=KR l hk h;exact⟨p,m,n,by rw[sU,iN o];exact h1,i,j⟩
def rSD(X:Cx):V->List V->Hp->VK->Prop:=λx vs H Q=> ∃(α:A9)(kvs:C7)(xs:List (NK×Addr×ŋ))(a d:Addr)(k:MV)(nk:NK)(y:V),x=.ref d/\vs=[.ref a,y]/\DD X H d xs/\DenN X.K α H kvs xs/\xD k=some nk/\aX nk<=4/\Den X.K α H k (.ref a)/\xs.length<sizeLine/\
 (∀b v,look kvs k=some b->Den X.K α H b v->Q v H)/\(look kvs k=none-> ∀u,RelV y u->Q y (xU H d (DN X.prog X.w d (storedH xs nk a u))))
def Yn(hu:X.A.units+64<cLine):Gp X "dict.setdefault" (rSD X):=by
 intro pins s σ H x vs v us Q I rx W h;obtain⟨α,kvs,xs,a,d,k,O,y,rfl,rfl,n,l,C,e,ha,hz,q1,q2⟩:=h;obtain⟨u1,j,rfl,r1,U⟩:=vals2 W;cases rx;cases r1;obtain⟨hm,L,hs⟩:=rA I n l;have S:s.TypeIs (.ref d) "dict":=(AD pins s σ H (.ref d) (.ref d) I rfl ⟨d,xs,rfl,n⟩).1;have i:=CY l C;refine ì PySem.F.slot_dict_setdefault S PySem.F.entry_dict_setdefault ?_ (PySem.F.args_dict_setdefault_3 _ _ _);unfold Builtin.«dict.setdefault»;refine wB ?_;unfold Builtin.Dict.keyAndDefault;refine wB (Ģ S ?_);show wpAny _ _ (pure (d,Value.ref a,some j)) _ _ s;refine wP ?_;show wpAny _ _ (if(d==sysModules)=true then _ else(dictSetDefault d (.ref a) j >>= _)) _ _ s;rw[iN (by rw[hs];exact xF0)];refine wB (YB (knd:=zV X.prog X.w) (show X.A.units+1+4<cLine by omega) ⟨AA I C ha rfl,e⟩ hm (λp T=>?_) (λhn h' M J=>?_) L)
 .rw[T]at i;obtain⟨d',c⟩:=ï.mp (show(look kvs k).isSome=true from i.symm);obtain⟨a2,u3,P,N,g2,g3⟩:=KR l C c;rw[T]at N;cases N;exact wP ⟨_,rfl,P,H,I.kept (t':=_) (λ_ _ z=>z),g3,q1 d' P c g2⟩
 .rw[hn]at i
  have D:look kvs k=none:=by
   cases z:look kvs k with
   |none=>rfl
   |some _=>rw[z]at i;cases i
  have mu:Od (H d):=by rcases n with z|⟨_,z⟩<;>rw[z]<;>exact trivial
  obtain⟨G,es,ep,B,hc,hd,he,_,q⟩:=M;refine wP ⟨_,rfl,y,_,I.write (t':=_) (x:=d) (e:=d) (o:=DN X.prog X.w d (storedH xs O a j)) mu (.inl rfl) (λb uo hb Y=>(J.2 b hb).trans Y) ⟨G,B⟩ ?_,U,q2 D j U⟩;refine⟨⟨by have:=sW (xs:=xs) (k:=O) (a:=a) (u:=j);omega,hs,G,es,ep,B,hc,hd,he,q⟩,⟨G,B⟩,?_⟩;rintro h1 h2 ⟨Z,z2,o',E,K,m,r⟩ mv;exact⟨Z,z2,o',E,K,mv o' m,r⟩
def Yo(p:Er)(k y:MV)(S1:Sto):R Er:=match bT S1 p with
 |some (l,kvs)=>if keyOk k=true/\kvs.length<1000000 then match look kvs k with
  |some d=>.ok (.val d) S1
  |none=>.ok (.val y) (S1.set l (.dic (putK kvs k y)))
  else .no
 |none=>.no
def Vy(p:Er)(rs:List Er)(S:Sto):R Er:=match rs with
 |[.val k,r]=>(wO r S).bind λy S1=>Yo p k y S1
 |_=>.no
def qH(p:Er)(S:Sto):Bool:=(bT S p).isSome
def Yp:NL X W (rSD X) Vy:=by
 intro p rs x vs α S H0 H Q h J M O s a
 match rs,s,a with
 |[],_,a=>exact a.elim
 |[.val _],_,a=>exact a.elim
 |.new _::_,_,a=>exact a.elim
 |.val _::_::_::_,_,a=>exact a.elim
 |[.val k,r],s,a=>
  cases s with
  |cons dk n1 l1=>
   cases l1 with
   |cons d n2 l2=>
    cases l2;obtain⟨L,S',α',T,E,A,i,B⟩:=bZ J M d;have a:Post X.g W h H0 ((wO r S).bind λy S1=>Yo p k y S1) Q:=a;rw[T]at a;have a:Post X.g W h H0 (Yo p k L S') Q:=a;unfold Yo at a;split at a
    .rename_i l kvs F;split at a
     .rename_i C
      have q:DenX X.K α' H p x:=by
       cases p with
       |val m=>exact Den.ex0 A O
       |new ds=>cases F
      obtain⟨D,h1,z,N⟩:=uC C.1;obtain⟨c,xs,rfl,G,U,b,v⟩:=sV i F q;have e:Den X.K α' H k _:=Den.ex0 A dk.1;obtain⟨I,rfl⟩:=CZ (X:=X) (α:=α') (H:=H) N e;refine⟨α',kvs,xs,I,c,k,D,_,rfl,rfl,b,v,h1,z,e,?_,λY Z j g2=>?_,λj u P=>?_⟩
      .rw[v.length];exact ç C.2 (fits (à _))
      .rw[j]at a;exact(Post.shift E a).val i g2
      .rw[j]at a;have n:=i.writex G b.nf (o:=DN X.prog X.w c (storedH xs D I u));exact(Post.shift (E.trans n) a).val (i.write G b.nf (.inr ⟨_,zT,(KE v h1 z e B P).ex0 n.toEx0⟩)) (B.ext n)
     .exact a.elim
    .exact a.elim
def Yq(B:X.A.units+64<cLine)(ho:zN X W o f)(i:CS X W (e::es) af)
  (hbase:attributeBase o "setdefault" X.env (eval o X.env)=eval o X.env:=by rfl)
  (hfew:((backTo pos (starEach (e::es) X.env)).all (λx=>!x.1)&&(backToKw pos (keywordEach [] X.env)).all (λx=>x.1.isSome)
   &&decide ((e::es).length+([]:List Keyword).length+(if([]:List Keyword).isEmpty then 0 else 1)<30))=true:=by rfl)
  (hline:(apos.endLine==pos.line)=true:=by rfl) (hs:q9 X e es:=by rfl) (hplain:Q0 X pos es:=by rfl):
  zN X W (.Call (.Attribute o "setdefault" apos) (e::es) [] pos) (λρ S=>(f ρ S).bind λp S1=>if qH p S1=true then(af ρ S1).bind λrs S2=>Vy p rs S2 else .no):=by
 obtain⟨to,ho,y⟩:=ho;obtain⟨t,i,k⟩:=i;refine⟨_,KQ AD PySem.F.plainAttrs_dict PySem.F.slot_dict_setdefault PySem.F.type_dict_setdefault (Yn B) ho i hbase hfew hline hs hplain,λα ρ S σ H Q s sl q=>y α ρ S σ H _ s sl (q.bind λu p S1 a H1 G m n j b=>?_)⟩;split at b
 .rename_i h;obtain⟨⟨l,kvs⟩,h⟩:=ï.mp h;obtain⟨c,xs,rfl,_,_,v,_⟩:=sV n h j.1;exact⟨⟨c,xs,rfl,v⟩,k a ρ S1 σ H1 _ n (sl.ext m) ((b.shift m).bind λvs rs S2 d w E r D C z=>Yp p rs _ vs d S2 H1 w Q a D r (j.1.ext r) C z)⟩
 .exact b.elim
end
def VAt(d:Addr)(us:A0)(ep:Nat)(h:Heap):Prop:= ∃o es,h.get? d=some o/\o.ExactDict/\o.data=.dict es ep/\es.toList.map (·.val)=us
def VAt.at{d:Addr}{us:A0}{ep:Nat}{h h':Heap}(x:VAt d us ep h)(m: ∀o,h.get? d=some o->h'.get? d=some o):VAt d us ep h':=let ⟨o,es,a,r⟩:=x;⟨o,es,m o a,r⟩
theorem VAt.size{d:Addr}{us:A0}{ep:Nat}{h:Heap}(x:VAt d us ep h): ∃o es,h.get? d=some o/\o.ExactDict/\o.data=.dict es ep/\es.size=us.length/\ ∀i (hi:i<es.size),us[i]? =some es[i].val:=by obtain⟨o,es,b,a,hd,e⟩:=x;refine⟨o,es,b,a,hd,by rw[<-e,lM,í],λi hi=>?_⟩;rw[<-e,ö,ò,Đ hi];rfl
section
variable{X:Cx}{o:Expr}{apos pos:Pos}{to:TE}{T:String}{name:Str}{id:String}{r:V->List V->Hp->VK->Prop}
def Ke{i:V->Hp->Prop}(c:rP X T i)(p:PlainAttrs T)(a:Slot T name id)(b:typeOf (.builtin id)=pure (.type "method_descriptor"))(n:Gp X id r)(ho:PE X o to)
  (hbase:attributeBase o name X.env (eval o X.env)=eval o X.env) (hline:(apos.endLine==pos.line)=true):PE X (.Call (.Attribute o name apos) [] [] pos) (λσ H Q=>to σ H λx H1=>i x H1/\r x [] H1 Q):=by
 intro pins s σ H Q I h;refine wpAny_Call_method0_late hbase hline (jI (ho pins s σ H _ I h) λv e ⟨x,H1,I1,d,m,k⟩=>?_);obtain⟨h1,j⟩:=c pins e σ H1 x v I1 d m;exact⟨T,id,p,a,b,h1,j,Calls.callWith_builtin rfl (PySem.evalArgs_none (n pins e σ H1 x [] v [] Q I1 d .nil k))⟩
theorem UR{α:A9}{H:Hp}: ∀{kvs:C7}{xs:List (NK×Addr×ŋ)},DenN X.K α H kvs xs-> ∃ys,DenL X.K α H (kvs.map (·.2)) ys/\Vals ys (xs.map (·.2.2))
 |_,_,.nil=>⟨[],zX,.nil⟩
 |_,_,.cons hk e a d r l=>by obtain⟨ys,h1,b⟩:=UR l;exact⟨_::ys,zR d h1,.cons r b⟩
end
end M
end L2
namespace L2
open PySem PySem.Spec PyProof.Rows
open Builtin Builtin.ObjectAttr
section
variable{h:Heap}{x:Addr}{o:Obj}{v:ŋ}{name:Str}
def SetAt(h h':Heap)(x:Addr)(o:Obj)(name:Str)(v:ŋ)(a:Addr):Prop:=
 h.get? a=none/\a≠x/\h'.get? x=some {cls:=o.cls,dict:=some a,data:=o.data,slots:=o.slots}/\h'.Ns1 a (λy=>if y=name then some v else none)/\ ∀b c,b≠x->h.get? b=some c->h'.get? b=some c
end
noncomputable abbrev BIG:Nat:=10 ^ 100
section
variable{i:Nat}{σ:St}{H:Hp}
def tJ(i:Nat):TE:=λσ H Q=> ∃n,σ[i]? =some (some (.int n))/\n.natAbs<BIG/\ ∀y:Str,Q (.str y) H
end
namespace M
structure XIn(K:B9)(M C f:Addr):Prop where
 ex: ∃nm q N bs sn sub ab col dd k0 k1 k2 k3 k5,K.lookup C=some (excClassObj nm q C N bs (.ref M::Zx) true sn sub ab col dd k0 k1 k2 k3 k5 "ValueError.__new__")/\PySem.W.nsOkIn K N=true/\PySem.W.nsIn K N "__init__"=some (some (.ref f))/\ ∀n∈qn,PySem.W.nsIn K N n=some none
 fo: ∃o,K.lookup f=some o/\o.cls=.type "function"
def XIn.cl{K:B9}{M C f:Addr}(x:XIn K M C f):XCl K C (.ref M::Zx) (some (.ref f)):=by obtain⟨j,q,N,bs,p,e,n,h,i,m,k1,k2,o,k,a,b,c,d⟩:=x.ex;exact⟨j,q,N,bs,true,p,e,n,h,i,m,k1,k2,o,k,a,b,c,d,rfl⟩
structure DefM(K:B9)(mg:B3)(x:Str)(st:Stmt):Prop where
 ex: ∃f fd,mg x=some (.ref f)/\Fun K x x st f fd
def def_mk{K:B9}{mg:B3}{h:Heap}{x:Str}{st:Stmt}{g:Addr}{od b:Option Addr}{sl:Array (Option ŋ)}{e kV d i cd ct:ŋ}(a:PySem.W.nsIn K mainGlobals x=some (some (.ref g)))
  (l:K.lookup g=some ⟨e,od,.func (PySem.W.fnOf x x (mR st) (gQ st) (zQ st) .none kV d i b cd ct),sl⟩) (c:PySem.W.codeIn K cd x=true) (k:PySem.W.keepIn K (.ref g)=true) (X:K.In h) (GG:h.Ns mainGlobals mg):DefM K mg x st:=⟨_,_,PySem.W.mg_of X GG a,Po l c k⟩
structure Cal(P:ō)(w:World)(K:B9)(mg:B3)(base:Heap)(CX:WP)(x:Str)(k:Nat)(ps:B0)(sp:Sp):Prop where
 ex: ∃fa fd,FnOk P w K mg base CX k fa fd ps sp/\mg x=some (.ref fa)/\PySem.W.keepIn K (.ref fa)=true/\Binds K fd ps []
abbrev YC(P:Program)(w:World)(K:B9)(mg:B3)(base:Heap)(x:Str)(k n:Nat)(ps:B0)(F:List MV->Sto->R Er):Prop:=Cal P w K mg base DT x k ps (RD ⟨K,mg,P,w⟩ n F)
abbrev Yr(P:Program)(w:World)(K:B9)(mg:B3)(base:Heap)(x:Str)(k n:Nat)(ps:B0)(F:List MV->Sto->R Er):Prop:=Cal P w K mg base (CXe P w) x k ps (spX ⟨K,mg,P,w⟩ n F)
section
variable{P:ō}{w:World}{K:B9}{mg:B3}{base:Heap}{x:Str}{st:Stmt}{ps:B0}{k n:Nat}{F:List MV->Sto->R Er}
abbrev Cd(x:Str)(st:Stmt)(ps:B0):Prop:= ∀(kV a d:Value)(c:Option Addr)(b ct:Value)(us:A0),us.length=ps.length->bindArgs (PySem.W.fnOf x x (mR st) (gQ st) (zQ st) .none kV a d c b ct) ⟨us,[]⟩=pure (ps.zip us)
def okC(D:DefM K mg x st)(b:Cd x st ps)(h: ∀f fd,Fun K x x st f fd->FnOk P w K mg base DT k f fd ps (RD ⟨K,mg,P,w⟩ n F)):YC P w K mg base x k n ps F:=
 let ⟨f,fd,m,a⟩:=D.ex;⟨f,fd,h f fd a,m,a.kp,a.binds b⟩
def Cal.noX(G:Yr P w K mg base x k n ps F):YC P w K mg base x k n ps F:=let ⟨fa,fd,G,m,a,b⟩:=G.ex;⟨fa,fd,G.noX,m,a,b⟩
def Tt{l:PySem.W.OpenLaw}{fa:Addr}{p:Str}(D:DefM K mg x st)(a:mg x=some (.ref fa))(j: ∀(kV b i:ŋ)(e:Option Addr)(c ct:ŋ)(s:Ŋ)(v:ŋ),BindsTo s (PySem.W.fnOf x x (mR st) (gQ st) (zQ st) .none kV b i e c ct) ⟨[v],[]⟩ [(p,v)])
  (h: ∀base f fd,Fun K x x st f fd->FnOk l.prog w K mg base DT k f fd [p] (RD ⟨K,mg,l.prog,w⟩ 1 F)):
  ∃fd:FuncData,(∀(s:Ŋ)(v:ŋ),BindsTo s fd ⟨[v],[]⟩ [(p,v)])/\ ∀base:Heap,K.In base->base.Ns mainGlobals mg->FnOk l.prog w K mg base DT k fa fd [p] (HW K F):=by
 obtain⟨f,fd,m,d⟩:=D.ex;rw[a]at m;cases m;refine⟨fd,?_,λbase _ _=>(h base fa fd d).imp λvs H Q E=>Bo (g:=⟨K,mg,_,w⟩) vs H Q E⟩;obtain⟨_,_,_,_,_,_,_,_,_,rfl,_,_⟩:=d.ex;exact j _ _ _ _ _ _
end
section
variable{X:Cx}{W:XW}{e:Expr}{es:B8}{af:Rho->Sto->R (List Er)}{k n:Nat}{ps:B0}{F:List MV->Sto->R Er}{x:Str}{p pos:Pos}
def Ce(G:YC X.prog X.w X.K X.mg X.base x k n ps F)(d:Room k X.A)(c:Gl X x)(h:CS X W (e::es) af)(a:(x==("__debug__":Str))=false:=by decide)
  (he:q9 X e es:=by rfl) (hpl:Q0 X pos es:=by rfl):zN X W (.Call (.Name x p) (e::es) [] pos) (λρ S=>(af ρ S).bind λrs S1=>zK n F rs S1):=
 let ⟨_,_,G,m,i,b⟩:=G.ex;Ia G d c m i b h a he hpl
end
end M
end L2
namespace L2
open PySem PySem.Spec PyProof.Rows
structure RoomH(k:Nat)(A:Ō):Prop where
 dp:A.depth+3 * k+5<recursionLimit
 un:A.units+16 * k+200<cLine
def RoomH.depth{k:Nat}{A:Ō}(r:RoomH k A):A.depth<recursionLimit:=by have:=r.dp;omega
def RoomH.units{k:Nat}{A:Ō}(r:RoomH k A):A.units+64<cLine:=by have:=r.un;omega
structure FnOkH(P:ō)(w:World)(K:B9)(mg:B3)(base:Heap)(k:Nat)(f:Addr)(fd:FuncData)(ps:B0)(sp:Sp):Prop where
 len: ∀vs H Q E,sp vs H Q E->vs.length=ps.length
 run: ∀(A:Ō)(outer:List Env)(s:Ŋ)(H:Hp)(args:Args)(us:A0)(vs:List V)(Q:VK)(E:XK),RoomH k A->HdA A H->Env0 P w K mg base A outer s H->BindsTo s fd args (ps.zip us)->Vals vs us->sp vs H Q E->
  codeAny (model P w) A (.call (.ref f) args) (CR DT outer P w H s Q E) s
namespace M
section
variable{P:ō}{w:World}{K:B9}{mg:B3}{base:Heap}{x:Str}{ps:B0}{k n:Nat}{F:List MV->Sto->R Er}
structure CalH(P:ō)(w:World)(K:B9)(mg:B3)(base:Heap)(x:Str)(k n:Nat)(ps:B0)(F:List MV->Sto->R Er):Prop where
 ex: ∃fa fd,FnOkH P w K mg base k fa fd ps (RD ⟨K,mg,P,w⟩ n F)/\mg x=some (.ref fa)/\PySem.W.keepIn K (.ref fa)=true/\Binds K fd ps []
end
noncomputable def Ys(kvs:C7)(S:Sto):R Er:=.ok (.val (.loc ↑1)) (S++[.dic kvs])
section
variable{X:Cx}{o e:Expr}{es:B8}
noncomputable def dD(ks:List (Key×V))(k:Key):Option V:=(ks.find? λp=>decide (p.1=k)).map (·.2)
theorem DC: ∀{ks:List (Key×V)}{vs:List (Key×ŋ)}(r:KV ks vs)(k:Key),(∀v,dD ks k=some v-> ∃u,valueAt vs k=some u/\RelV v u)/\(dD ks k=none->valueAt vs k=none)
 |_,_,.nil,k=>⟨λv h=>(nomatch h),λ_=>rfl⟩
 |(a,x)::ks,(b,u)::vs,.cons ⟨h1,h2⟩ l,k=>by
  cases h1;have d:=DC l k;unfold dD valueAt;by_cases c:a=k
  .simp only[find?_cons,c];exact⟨λv h=>⟨u,rfl,by cases h;exact h2⟩,λh=>nomatch h⟩
  .simp only[find?_cons,c];exact d
theorem rB{α:A9}{H:Hp}: ∀{kvs:C7}{ks:List (Key×V)}{k:MV}{k':Key},DenK X.K α H kvs ks->KeyD k k'->(∀d,look kvs k=some d-> ∃v,dD ks k'=some v/\Den X.K α H d v)/\(look kvs k=none->dD ks k'=none)
 |_,_,_,_,.nil,_=>⟨λd h=>(nomatch h),λ_=>rfl⟩
 |_,_,k,k',.cons (k:=k0) (k':=k0') (v:=v0) h1 h2 l,hk=>by
  have a:=rB l hk;rw[yY];unfold dD;by_cases c:k0=k
  .subst c;have:=KP h1 hk;simp only[find?_cons,this];exact⟨λd h=>⟨v0,rfl,by cases h;exact h2⟩,λh=>nomatch h⟩
  .have b: ¬k0'=k':=λz=>c (EU h1 (z▸hk));simp only[find?_cons,b,iN c];exact a
def TyK(X:Cx)(x:V)(H:Hp):Prop:= ∃d a,x=.ref d/\DK X H d a
def KU:rP X "dict" (TyK X):=by intro pins s σ H x v I h ⟨d,j,e,i⟩;subst e;cases h;obtain⟨_,hs,vs,k,o,es,ep,c,b,_⟩:=nR I i;exact⟨⟨o,c,b.1⟩,λa e=>by cases e;exact⟨o,c,b.2.1⟩⟩
end
section
variable{α β:Type}
def vJ(i:Nat)(ρ:Rho)(S:Sto):R Er:=Hg (ρ[i]?) S
noncomputable def kJ(d:MV)(_:Rho)(S:Sto):R Er:=.ok (.val d) S
noncomputable def bJ(f:Rho->Sto->R α)(F:α->Sto->R β)(ρ:Rho)(S:Sto):R β:=(f ρ S).bind F
noncomputable def dJ(F:Er->Er->Sto->R Er)(f g:AX)(ρ:Rho)(S:Sto):R Er:=(f ρ S).bind λp S=>(g ρ S).bind λq S=>F p q S
def nJ(f:AX)(ρ:Rho)(S:Sto):R Er:=(f ρ S).bind λp S=>(eC p S).bind λk S=>.ok (.val (.bl !k)) S
def aJ(f g:AX)(ρ:Rho)(S:Sto):R Er:=(f ρ S).bind λp S=>andF p S λS=>g ρ S
def oJ(f g:AX)(ρ:Rho)(S:Sto):R Er:=(f ρ S).bind λp S=>orF p S λS=>g ρ S
noncomputable def iJ(c:AZ)(f g:Rho->Sto->R α)(ρ:Rho)(S:Sto):R α:=(c ρ S).bind λk S=>if k=true then f ρ S else g ρ S
noncomputable def mJ(_:Rho)(S:Sto):R (Option Int):=.ok none S
noncomputable def tJ(F:Er->Option Int->Option Int->Sto->R Er)(f:AX)(g h:Rho->Sto->R (Option Int))(ρ:Rho)(S:Sto):R Er:=(f ρ S).bind λp S=>(g ρ S).bind λl S=>(h ρ S).bind λu S=>F p l u S
def lJ(k:C7)(_:Rho)(S:Sto):R Er:=Ys k S
def zJ(_:Rho)(S:Sto):R Er:=EK S
def fJ(n:Nat)(F:List MV->Sto->R Er)(a:Rho->Sto->R (List Er))(ρ:Rho)(S:Sto):R Er:=(a ρ S).bind λr S=>zK n F r S
def xJ(n:Nat)(F:List MV->Sto->R Er)(a:Rho->Sto->R (List Er))(ρ:Rho)(S:Sto):R Er:=(a ρ S).bind λr S=>UD n F r S
def hJ(F:List MV->Sto->R Er)(_:Rho)(S:Sto):R Er:=zK 0 F [] S
noncomputable def eJ(t:Er->Sto->Bool)(F:Er->List Er->Sto->R Er)(f:AX)(a:Rho->Sto->R (List Er))(ρ:Rho)(S:Sto):R Er:=(f ρ S).bind λp S=>if t p S=true then(a ρ S).bind λr S=>F p r S else .no
noncomputable def gJ(t:Er->Sto->Bool)(F:Er->List Er->Sto->R Er)(f:AX)(ρ:Rho)(S:Sto):R Er:=(f ρ S).bind λp S=>if t p S=true then F p [] S else .no
noncomputable def uJ(_:Rho)(S:Sto):R Bool:=.ok true S
def pJ(i:Rho->Sto->R Wk)(g:MV->Rho->Sto->R Rho)(c:AZ)(e:AX)(n:Nat)(I:Db)(ρ:Rho)(S:Sto):R Er:=(i ρ S).bind λk S=>if k.ds.length<1000000 then(yE g c e (vG n I ρ) k.gs k.ds S).bind λo S=>.ok (.new o) S else .no
def jJ(F G:Er->Er->Sto->R Er)(f g h:AX)(ρ:Rho)(S:Sto):R Er:=(f ρ S).bind λp S=>(g ρ S).bind λq S=>chF F G p q S λS=>h ρ S
noncomputable def qJ(f:AZ)(ρ:Rho)(S:Sto):R Bool:=(f ρ S).bind λk S=>.ok (!k) S
noncomputable def rJ(f g:AZ)(ρ:Rho)(S:Sto):R Bool:=(f ρ S).bind λk S=>if k=true then g ρ S else .ok false S
noncomputable def sJ(f g:AZ)(ρ:Rho)(S:Sto):R Bool:=(f ρ S).bind λk S=>if k=true then .ok true S else g ρ S
noncomputable def wJ(_:Rho)(S:Sto):R (List Er):=.ok [] S
noncomputable def yJ(f:AX)(g:Rho->Sto->R (List Er))(ρ:Rho)(S:Sto):R (List Er):=(f ρ S).bind λp S=>(g ρ S).bind λl S=>.ok (p::l) S
noncomputable def AJ(f:AX)(ρ:Rho)(S:Sto):R Fl:=(f ρ S).bind λr S=>.ok (.ret r) S
noncomputable def BJ(f:AX)(ρ:Rho)(S:Sto):R Fl:=(f ρ S).bind λ_ S=>.ok (.next ρ) S
def CJ(f:AX)(i:Nat)(ρ:Rho)(S:Sto):R Fl:=(f ρ S).bind (GK ρ i)
noncomputable def DJ(F:Er->Er->MV->Rho->Sto->R Rho)(f g:AX)(d:MV)(ρ:Rho)(S:Sto):R Rho:=(f ρ S).bind λp S=>(g ρ S).bind λq S=>F p q d ρ S
def EJ(f:AX)(g:MV->Rho->Sto->R Rho)(ρ:Rho)(S:Sto):R Fl:=(f ρ S).bind (Hq g ρ)
def FJ(i:Rho->Sto->R Wk)(g:MV->Rho->Sto->R Rho)(b:AY)(ρ:Rho)(S:Sto):R Fl:=(i ρ S).bind λk S=>wF g b k.gs k.ds ρ S
noncomputable def GJ(a:Rho->Sto->R (List Er))(c:Str)(ρ:Rho)(S:Sto):R Fl:=(a ρ S).bind λr S=>if r.length<=10 then .exc c [] S else .no
def HJ(cs:B0)(i:Nat)(h:AY)(n:Nat)(F:List MV->Sto->R Er)(a:Rho->Sto->R (List Er))(ρ:Rho)(S:Sto):R Fl:=(noX (a ρ S)).bind λr S=>Sl cs i (λ_ S=>.ok (.next ρ) S) h ρ (UD n F r S)
def IJ(cs:B0)(i j:Nat)(h:AY)(n:Nat)(F:List MV->Sto->R Er)(a:Rho->Sto->R (List Er))(ρ:Rho)(S:Sto):R Fl:=(noX (a ρ S)).bind λr S=>Sl cs i (GK ρ j) h ρ (UD n F r S)
noncomputable def JJ(ρ:Rho)(S:Sto):R Fl:=.ok (.next ρ) S
end
section
variable{p:Pos}{f:AX}
def augF(F:Er->Er->Sto->R Er)(i:Nat)(f:AX)(ρ:Rho)(S:Sto):R Fl:=(Hg (ρ[i]?) S).bind λp S1=>(f ρ S1).bind λq S2=>(F p q S2).bind (GK ρ i)
end
def KJ(n:Nat)(F:List MV->Sto->R Er)(a:Rho->Sto->R (List Er))(ρ:Rho)(S:Sto):R Er:=(noX (a ρ S)).bind λr S=>UD n F r S
def LJ(c:AZ)(f g:AX)(ρ:Rho)(S:Sto):R Er:=(noX (c ρ S)).bind λk S=>if k=true then f ρ S else g ρ S
def MJ(cs:B0)(i:Nat)(h:AY)(f:AX)(ρ:Rho)(S:Sto):R Fl:=Sl cs i (λ_ S=>.ok (.next ρ) S) h ρ (f ρ S)
end M
end L2
namespace L2
open PySem PySem.Spec PyProof.Rows
namespace M
section
variable{f:AX}{af:Rho->Sto->R (List Er)}{p:Pos}{m:Str}
noncomputable def selM(m:Str)(l:List (Str×(List MV->Sto->R Er))):Er->Option (List MV->Sto->R Er)
 |.val (.obj c ns _)=>if m∈ns then none else l.lookup c
 |_=>none
def NJ(m:Str)(n:Nat)(l:List (Str×(List MV->Sto->R Er)))(f:AX)(af:Rho->Sto->R (List Er))(ρ:Rho)(S:Sto):R Er:=(f ρ S).bind λp S=>match selM m l p with
 |some F=>(af ρ S).bind λr S=>zK n F (p::r) S
 |none=>.no
end
section
variable{X:Cx}{W:XW}{a e:Expr}{es:B8}{pos apos:Pos}{f:AX}{af:Rho->Sto->R (List Er)}
def Kf:Er->List Er->Sto->R Er
 |p,[r],S=>match Az S r with
  |some zs=>GN p S λds=>if ds.length+zs.length<=sizeLine then some (ds++zs)else none
  |none=>.no
 |_,_,_=>.no
def YD:NL X W TB Kf:=by
 intro p rs x vs α S H0 H Q e i q s h a
 match rs,h,a with
 |[],_,a=>exact a.elim
 |_::_::_,_,a=>exact a.elim
 |[r],h,a=>
  have a:Post X.g W e H0 (match Az S r with |some m=>GN p S λds=>if ds.length+m.length<=sizeLine then some _ else none|none=>.no) Q:=a;split at a
  .rename_i m n;obtain⟨v,rfl,w⟩:=HP h;obtain⟨b,us,rfl,o,j⟩:=JW i n w;obtain⟨c,ws,ds,es,rfl,h1,l1,d,k⟩:=HU i q s a;split at d
   .rename_i u;cases d;exact⟨c,b,ws,us,rfl,rfl,h1,o,by rw[l1.length,j.length];exact u,k _ (l1.append j)⟩
   .cases d
  .exact a.elim
def YE(ho:zN X W a f)(b:CS X W (e::es) af)
  (hbase:attributeBase a "extend" X.env (eval a X.env)=eval a X.env:=by rfl)
  (hfew:((backTo pos (starEach (e::es) X.env)).all (λx=>!x.1)&&(backToKw pos (keywordEach [] X.env)).all (λx=>x.1.isSome)
   &&decide ((e::es).length+([]:List Keyword).length+(if([]:List Keyword).isEmpty then 0 else 1)<30))=true:=by rfl)
  (hline:(apos.endLine==pos.line)=true:=by rfl) (hs:q9 X e es:=by rfl) (hplain:Q0 X pos es:=by rfl):
  zN X W (.Call (.Attribute a "extend" apos) (e::es) [] pos) (λρ S=>(f ρ S).bind λp S1=>if wG p S1=true then(af ρ S1).bind λrs S2=>Kf p rs S2 else .no):=
 JR PySem.F.plainAttrs_list PySem.F.slot_list_extend PySem.F.type_list_extend WU YD RJ ho b hbase hfew hline hs hplain
end
section
variable{X:Cx}{W:XW}{a b o i e:Expr}{f g:AX}{pos:Pos}{α:A9}{H:Hp}{pins:B5}{σ:St}{s:Ŋ}
def Tu:MV->Option Key
 |.int i=>some (.inl i)
 |.str x=>some (.inr (fX x))
 |_=>none
def YF: ∀{k:MV}{k':Key},Tu k=some k'->KeyD k k'
 |.int i,_,h=>by cases h;exact rfl
 |.str x,_,h=>by cases h;exact rfl
 |.non,_,h=>nomatch h
 |.bl _,_,h=>nomatch h
 |.tup _,_,h=>nomatch h
 |.scr _,_,h=>nomatch h
 |.loc _,_,h=>nomatch h
 |.typ _,_,h=>nomatch h
 |.obj _ _ _,_,h=>nomatch h
def YG: ∀{k:MV}{k':Key}{v:V},Tu k=some k'->Den X.K α H k v->v=kV k'
 |.int i,_,_,h,d=>by cases h;exact xM d
 |.str x,_,_,h,d=>by cases h;exact xN d
 |.non,_,_,h,_=>nomatch h
 |.bl _,_,_,h,_=>nomatch h
 |.tup _,_,_,h,_=>nomatch h
 |.scr _,_,_,h,_=>nomatch h
 |.loc _,_,_,h,_=>nomatch h
 |.typ _,_,_,h,_=>nomatch h
 |.obj _ _ _,_,_,h,_=>nomatch h
def OM: ∀{k:Key}{u:ŋ},RelV (kV k) u->(xH X.prog X.w).is k u=true
 |.inl i,_,h=>by obtain⟨t,rfl⟩:=(h: ∃t,_=_);exact BB _ _ i t
 |.inr x,_,h=>by obtain⟨t,rfl⟩:=(h: ∃t,_=_);exact pT _ _ x t
def tD(k:MV):Bool:=(Tu k).isSome
def Yt{kvs:C7}{d:Addr}(ob:ObD X.g α H d (.dic kvs))(i:kvs.all (λp=>tD p.1)=true): ∃b,DK X H d b/\DenK X.K α H kvs b:=by
 rcases ob with⟨b,h,l⟩|⟨xs,h,l⟩
 .exact⟨b,.inl h,l⟩
 .cases l with
  |nil=>exact⟨[],.inr ⟨rfl,h⟩,.nil⟩
  |@cons k nk a d v u fs xs hn e ha hd r l=>
   rw[List.all_cons,aE]at i;obtain⟨j,c⟩:=ï.mp i.1;have:=YG c ha;cases j<;>cases this
def uG(S:Sto):Er->Option (Nat×List (MV×MV))
 |.val (.loc l)=>match S[l]? with
  |some (.dic kvs)=>if kvs.all (λp=>tD p.1)=true then some (l,kvs)else none
  |_=>none
 |_=>none
def Fm{S:Sto}(k:Wd X.g α S H){r:Er}{x:V}{l:Nat}{kvs:C7}(e:uG S r=some (l,kvs))(d:DenX X.K α H r x):
  ∃c a,x=.ref c/\α[l]? =some c/\S[l]? =some (.dic kvs)/\DK X H c a/\DenK X.K α H kvs a/\kvs.all (λp=>tD p.1)=true:=by
 unfold uG at e;split at e
 .rename_i n;obtain⟨c,rfl,h⟩:=aZ d;split at e
  .rename_i a b;split at e
   .rename_i i;obtain⟨rfl,rfl⟩:=Prod.mk.inj (å e);obtain⟨xs,j,l⟩:=Yt (k.obj _ c _ h b) i;exact⟨c,xs,rfl,h,b,j,l,i⟩
   .cases e
  .cases e
 .cases e
def RW{ks:List (Key×V)}{d:Addr}(a:DK X H d ks):Od (H d):=by rcases a with z|⟨_,z⟩<;>rw[z]<;>exact trivial
def Yu(X:Cx):TSet:=λo i v H Q=> ∃(ks:List (Key×V))(d:Addr)(k:Key),o=.ref d/\i=kV k/\DK X H d ks/\ks.length<sizeLine/\Q (xU H d (.dK (qG ks k v)))
def YH:Fz X (Yu X):=by
 intro pins s σ H o i v ov L u Q I E y p h;obtain⟨m,d,k,rfl,rfl,n,F,q⟩:=h;cases E;obtain⟨z,hd,vs,c,D⟩:=nR I n;have K:m.length=vs.length:=Paired.length c;have J:=uF m k v;refine wpAny_setItem_pairs (knd:=xH X.prog X.w) (hsz:=by omega) (OM y) D λh' a j=>⟨_,?_,q⟩
 have B: ∃q,h'.get? d=some q:=let ⟨q,_,_,C,_⟩:=a;⟨q,C⟩;exact I.write (t':=_) (x:=d) (e:=d) (RW n) (.inl rfl) (λb G A r=>(j.2 b A).trans r) B ⟨by omega,hd,_,RU c _ p,a⟩
def IE(p q:Er)(d:MV)(ρ:Rho)(S:Sto):R Rho:=match q with
 |.val k=>match uG S p with
  |some (l,kvs)=>if tD k=true/\kvs.length<1000000 then .ok ρ (S.set l (.dic (putK kvs k d)))else .no
  |none=>.no
 |_=>.no
def Kg(ho:zN X W o f)(hi:zN X W i g)
  (ha: ∀v,assign (.Subscript o i pos) X.env v=(do
   let ov <-holding [v] (eval o X.env);let A <-holding [v,ov] (eval i X.env)
   standAt pos
   holding [v,ov,A] (setItem ov A v)
   release [v,ov,A] []):=by intro _;rfl):XC X W (.Subscript o i pos) (λd ρ S=>(f ρ S).bind λp S1=>(g ρ S1).bind λq S2=>IE p q d ρ S2):=by
 obtain⟨to,ho,N⟩:=ho;obtain⟨ti,hi,O⟩:=hi;refine⟨_,QO ho hi YH ha,λα ρ S σ H d v Q L sl T q=>N α ρ S σ H _ L sl (q.bind λu p S1 y H1 e1 j U K J=>O y ρ S1 σ H1 _ U (sl.ext j) ((J.shift j).bind λu2 p2 S2 b M Z m z P a=>?_))⟩
 replace a:=a.shift m
 have w:=DenX.ext m K.1;have n:=(T.ext j).ext m;unfold IE at a;split at a
 .rename_i k;split at a
  .rename_i l kvs e;split at a
   .rename_i D;obtain⟨c,C,rfl,G,Y,r,F,I⟩:=Fm z e w;obtain⟨E,h⟩:=ï.mp D.1;refine⟨C,c,E,rfl,YG (X:=X) (α:=b) (H:=M) h P.1,r,?_,?_⟩
    .rw[F.length];exact ç D.2 (fits (à _))
    .have s:=z.writex G r.nf (o:=.dK (qG C E v));have B:=((sl.ext j).ext m).ext s;exact a σ b _ s (z.write G r.nf (.inl ⟨_,zT,(EW (k:=k) F (YF h) n).ex0 s.toEx0⟩)) B
   .exact a.elim
  .exact a.elim
 .exact a.elim
abbrev Yv(X:Cx)(a:Bool):R2:=λx y H Q=> ∃(ks:List (Key×V))(d:Addr)(k:Key),x=kV k/\y=.ref d/\DK X H d ks/\
 Q (.bl (if a=true then !(dD ks k).isSome else(dD ks k).isSome)) H
theorem look_same{ks:List (Key×V)}{vs:List (Key×ŋ)}(r:KV ks vs)(k:Key):(valueAt vs k).isSome=(dD ks k).isSome:=by
 obtain⟨l1,l2⟩:=DC r k
 cases h:dD ks k with
 |none=>rw[l2 h];rfl
 |some v=>obtain⟨u,e,_⟩:=l1 v h;rw[e];rfl
def Tv:OpR X (compareOp .In) (Yv X false):=by intro pins s σ H x y v u Q I c b h;obtain⟨e,d,k,rfl,rfl,i,q⟩:=h;cases b;obtain⟨_,hs,vs,a,j⟩:=nR I i;refine wpAny_in_of (OM c) hs j.mapOf ?_;rw[look_same a k];exact⟨.bl (dD e k).isSome,H,I.kept (λ_ _ z=>z),rfl,q⟩
def YI(a:Bool)(p q:Er)(S:Sto):R Er:=match p with
 |.val k=>match uG S q with
  |some (_,kvs)=>if tD k=true then .ok (.val (.bl (if a=true then !(look kvs k).isSome else(look kvs k).isSome))) S else .no
  |none=>.no
 |_=>.no
theorem YJ{kvs:C7}{ks:List (Key×V)}{k:MV}{k':Key}(l:DenK X.K α H kvs ks)(b:KeyD k k'):(dD ks k').isSome=(look kvs k).isSome:=by
 obtain⟨a,g2⟩:=rB l b
 cases h:look kvs k with
 |none=>rw[g2 h];rfl
 |some v=>obtain⟨u,e,_⟩:=a v h;rw[e];rfl
def Kh{b:Bool}:RA X W (Yv X b) (YI b):=by
 intro p q x y α S H Q h n s a;unfold YI at a;split at a
 .rename_i k;split at a
  .rename_i l kvs e;split at a
   .rename_i o;obtain⟨c,j,rfl,_,_,m,r,_⟩:=Fm h e s;obtain⟨i,d⟩:=ï.mp o;refine⟨j,c,i,YG d n,rfl,m,?_⟩;rw[YJ r (YF d)];exact Post.val a h (dM _)
   .exact a.elim
  .exact a.elim
 .exact a.elim
def Tw(d:zN X W a f)(c:zN X W b g)(e:behindInMarks .In b=false:=by with_unfolding_all rfl):rX X W (.Compare a [.In] [b] pos) (λρ S=>((f ρ S).bind λp S1=>(g ρ S1).bind λq S2=>YI false p q S2).bind eC):=pZ Tv Kh d c e
end
def RX(p:Er)(S:Sto):Bool:=(uG S p).isSome
section
variable{X:Cx}{W:XW}{α:A9}{H:Hp}
def AG:List Er->Sto->R Er
 |[r],S=>match uG S r with |some (_,kvs)=>.ok (.new (kvs.map (·.1))) S|none=>.no
 |_,_=>.no
def Cf(o:X.calm=true):qB X W (λxs H Q=> ∃d b,xs=[.ref d]/\DK X H d b/\X.calm=true/\ ∀l,H l=none->Q (.ref l) (xU H l (.lst (b.map λp=>kV p.1)))) AG:=by
 intro rs vs α S H Q h d a;unfold AG at a;split at a
 .split at a
  .rename_i n kvs e;obtain⟨v,rfl,k⟩:=lW d;obtain⟨c,b,rfl,h1,q,i,m,_⟩:=Fm h e k;exact⟨c,b,rfl,i,o,λl j=>Post.newl a h j (IC m)⟩
  .exact a.elim
 .exact a.elim
end
def shrC(i j:Int):Prop:=0<=j
instance(i j:Int):Decidable (shrC i j):=inferInstanceAs (Decidable (_<=_))
end M
end L2
namespace PySem
def KW:typeLookup (.type "list") "keys"=pure none:=am_miss_of_fast (by decide+kernel)
def getAttr?_miss_list{prog:ō}{w:World}{A:Ō}{E:VP}{s:Ŋ}{a:Addr}{o:Obj}{xs:A7}{k:Nat}{name:Str}{Q:Option ŋ->Ŋ->Prop}
  (hx:s.heap.get? a=some o) (hc:o.cls=.type "list") (hdat:o.data=.seq xs k) (hd:o.dict=none) (hmiss:typeLookup (.type "list") name=pure none) (hname:(["__module__","__name__","__qualname__","__doc__","__annotations__"]:B0).contains name=false) (hA:A.handled=none)
  (h: ∀h' m,(∀b o,s.heap.get? b=some o->h'.get? b=some o)->Q none {s with heap:=h',toks:=m}) (hsz:name.length+100<=sizeLine:=by size_fits):
  wpAny (model prog w) A (getAttr? (.ref a) name) Q E s:=by
 obtain⟨c,r,p,sl⟩:=o;simp only at hc hdat hd;subst hc hdat hd;obtain⟨q,g,d,m,u⟩:=s;have n: ∀i,(⟨q,g,d,i,u⟩:Ŋ).TypeIs (.ref a) "list":=λ_=>⟨_,hx,rfl⟩
 have C:=sub_AttributeError;have D:=F.slot_list_getattribute.lookup;have v:=F.slot_list_getattribute.bind (.ref a);have B:=am_list_getattr_none;unfold getAttr? getAttrBy? getAttrBy
 repeat (any_goals (first |assumption|exact n _|((with_reducible show wpAny _ _ (call (Value.builtin "list.__getattribute__") _ _) _ _ _);refine Ĺ F.slot_list_getattribute (n _) am_entry_list_getattribute (F.args_list_getattribute_2 _ _) (meets_getattribute_miss_list a xs k sl name _ hmiss hname hsz) ⟨hx,hA,λh' i e j=>?_⟩)|wp_step))
 obtain⟨t',z,y⟩:=j.there;show wpAny _ _ (getattributeRaised _ _ _ _ _ _ _) _ _ _;unfold getattributeRaised
 repeat (any_goals (first |assumption|wp_step))
 exact h _ _ j.keeps
namespace F
def entry_dict_update_loop:entryFor table "dict.update.loop"=some Builtin.«dict.update.loop»:=entryFor_of_tree (by kernel_rfl)
def plain_dict_update_loop:plainId "dict.update.loop"=true:=by decide+kernel
end F
open PyProof.Rows
end PySem
namespace L2
namespace M
open PySem PySem.Spec PyProof.Rows
variable{xs:List (NK×Addr×ŋ)}
section
variable{X:Cx}{α:A9}{H:Hp}
def ON(ps:List (Key×V)):List (Key×V):=ps.foldl (λa p=>qG a p.1 p.2) []
def US{ps:List (Key×V)}{a:List (Key×ŋ)}(r:KV ps a): ∀{as:List (Key×V)}{bs:List (Key×ŋ)},KV as bs->KV (ps.foldl (λb p=>qG b p.1 p.2) as) (merged bs a):=by
 induction r with
 |nil=>intro as bs h;exact h
 |@cons p q ps a h t ih=>
  intro as bs c;rw[ě];show KV _ _;rw[h.1];exact ih (RU c _ h.2)
theorem YK(ps:List (Key×V)):(ON ps).length<=ps.length:=by
 have: ∀(ps as:List (Key×V)),(ps.foldl (λa p=>qG a p.1 p.2) as).length<=as.length+ps.length:=by
  intro ps
  induction ps with
  |nil=>intro as;exact à _
  |cons p ps ih=>
   intro as;rw[ě,lC];have:=ih (qG as p.1 p.2);have:=uF as p.1 p.2
   lia
 have:=this ps [];rw[ú,Ă]at this;exact this
def OO(ps:C7):List (MV×MV):=ps.foldl (λa p=>putK a p.1 p.2) []
theorem AH: ∀{kvs:C7}{ps:List (Key×V)},DenK X.K α H kvs ps-> ∀{as:C7}{bs:List (Key×V)},DenK X.K α H as bs->DenK X.K α H (kvs.foldl (λb p=>putK b p.1 p.2) as) (ps.foldl (λb p=>qG b p.1 p.2) bs)
 |_,_,.nil,as,bs,h=>h
 |_,_,.cons hk a l,as,bs,h=>by exact AH l (EW h hk a)
def KY:bootBuiltins "dict"=some (.type "dict"):=by decide+kernel
end
section
variable{X:Cx}{W:XW}{b o e:Expr}{es:B8}{f:AX}{af:Rho->Sto->R (List Er)}{apos pos:Pos}{α:A9}{H:Hp}{pins:B5}{σ:St}{s:Ŋ}
def OP(ks ps:List (Key×V)):List (Key×V):=ps.foldl (λa p=>qG a p.1 p.2) ks
theorem IF: ∀(ps ks:List (Key×V)),(OP ks ps).length<=ks.length+ps.length
 |[],ks=>à _
 |p::ps,ks=>by have h1:=IF ps (qG ks p.1 p.2);have a:=uF ks p.1 p.2;show(OP (qG ks p.1 p.2) ps).length<=_;rw[lC];omega
def Nd(X:Cx):V->List V->Hp->VK->Prop:=λx vs H Q=> ∃(ks ps:List (Key×V))(d p:Addr),x=.ref d/\vs=[.ref p]/\d≠p/\DK X H d ks/\DK X H p ps/\ks.length+ps.length<2000000/\Q .non (xU H d (.dK (OP ks ps)))
def Ki:Gp X "dict.update" (Nd X):=by
 intro pins s σ H x vs v us Q I K B h;obtain⟨i,ps,d,p,rfl,rfl,o,m,N,S,q⟩:=h;obtain⟨P,rfl,J⟩:=vals1 B;cases K;cases J;have E:s.TypeIs (.ref d) "dict":=(KU pins s σ H (.ref d) (.ref d) I rfl ⟨d,i,rfl,m⟩).1;obtain⟨z,hs,vs,y,O⟩:=nR I m;obtain⟨W,j,a,c,k⟩:=nR I N;have U:i.length=vs.length:=Paired.length y;have C:ps.length=a.length:=Paired.length c;have u:=Ĕ
 refine call_meetsIn PySem.F.slot_dict_update E PySem.F.entry_dict_update (PySem.F.args_dict_update_2 _ _) (meets_dict_update (xH X.prog X.w) d p o j)
  ⟨vs,a,O,k,by rw[u];omega,λh' A _ G=>?_⟩
 have n: ∃q,h'.get? d=some q:=let ⟨q,_,_,L,_⟩:=A;⟨q,L⟩;have M:=IF ps i;refine⟨.non,xU H d (.dK (OP i ps)),?_,rfl,q⟩;exact I.write (t':=_) (x:=d) (e:=d) (RW m) (.inl rfl) (λb T r D=>(G.2 b r).trans D) n ⟨by rw[u];omega,hs,_,US c y,A⟩
def xS(kvs ps:C7):List (MV×MV):=ps.foldl (λa p=>putK a p.1 p.2) kvs
def EX(p:Er)(rs:List Er)(S:Sto):R Er:=match rs with
 |[r]=>match uG S p with
  |some (l,kvs)=>match uG S r with
   |some (m,ps)=>if l≠m/\kvs.length+ps.length<1000000 then .ok (.val .non) (S.set l (.dic (xS kvs ps)))else .no
   |none=>.no
  |none=>.no
 |_=>.no
def Kj:NL X W (Nd X) EX:=by
 intro p rs x vs α S H0 H Q w h y A B a;unfold EX at a;split at a
 .rename_i r;split at a
  .rename_i l kvs C;split at a
   .rename_i m ps v;split at a
    .rename_i D
     cases B with
     |cons dv n1 l1=>
     cases l1;obtain⟨c,j,rfl,h1,F,b,s,_⟩:=Fm h C A;obtain⟨q,d,rfl,u,E,e,i,_⟩:=Fm h v dv.1;have k:c≠q:=λz=>D.1 (by subst z;exact(List.getElem?_inj (gS.mp h1).1 h.nd).mp (h1.trans u.symm));have I:j.length=kvs.length:=DenK.length s;have G:d.length=ps.length:=DenK.length i;refine⟨j,d,c,q,rfl,rfl,k,b,e,by omega,?_⟩;have n:=h.writex h1 b.nf (o:=.dK (OP j d));exact(Post.shift (y.trans n) a).val (h.write h1 b.nf (.inl ⟨_,zT,(AH i s).ex0 n.toEx0⟩)) tO
    .exact a.elim
   .exact a.elim
  .exact a.elim
 .exact a.elim
def Kk(ho:zN X W o f)(i:CS X W (e::es) af)
  (hbase:attributeBase o "update" X.env (eval o X.env)=eval o X.env:=by rfl)
  (hfew:((backTo pos (starEach (e::es) X.env)).all (λx=>!x.1)&&(backToKw pos (keywordEach [] X.env)).all (λx=>x.1.isSome)
   &&decide ((e::es).length+([]:List Keyword).length+(if([]:List Keyword).isEmpty then 0 else 1)<30))=true:=by rfl)
  (hline:(apos.endLine==pos.line)=true:=by rfl) (hs:q9 X e es:=by rfl) (hplain:Q0 X pos es:=by rfl):
  zN X W (.Call (.Attribute o "update" apos) (e::es) [] pos) (λρ S=>(f ρ S).bind λp S1=>if RX p S1=true then(af ρ S1).bind λrs S2=>EX p rs S2 else .no):=by
 obtain⟨to,ho,y⟩:=ho;obtain⟨t,i,k⟩:=i;refine⟨_,KQ KU PySem.F.plainAttrs_dict PySem.F.slot_dict_update PySem.F.type_dict_update Ki ho i hbase hfew hline hs hplain,λα ρ S σ H Q s sl q=>y α ρ S σ H _ s sl (q.bind λu p S1 a H1 D m n j b=>?_)⟩;split at b
 .rename_i h;obtain⟨⟨l,kvs⟩,h⟩:=ï.mp h;obtain⟨c,xs,rfl,_,_,v,_⟩:=Fm n h j.1;exact⟨⟨c,xs,rfl,v⟩,k a ρ S1 σ H1 _ n (sl.ext m) ((b.shift m).bind λvs rs S2 d w C r B A z=>Kj p rs _ vs d S2 H1 w Q a B r (j.1.ext r) A z)⟩
 .exact b.elim
end
section
variable{prog:ō}{w:World}{K:Type}[DecidableEq K]{knd:KeyKind prog w K}
def TSet(knd:KeyKind prog w K)(h:Heap)(a:Addr)(S:K->Bool)(n:Nat)(b:Bool):Prop:=
 ∃o es ep t,h.get? a=some o/\o.ExactSet/\o.data=.set es ep t/\ElemsOf knd es.toList/\(∀k,S k=true↔ ∃e∈es.toList,knd.is k e.2=true)
  /\es.size<scanBound/\t.fits es.size=true/\es.size=n/\t.led=b/\(es.size=0\/t.plain=false)/\(es.toList.map (·.2)).Pairwise (λx y=> ∀k,knd.is k x=true-> ¬knd.is k y=true)
end
def StrT(val:Nat->Key)(i:Nat)(v:ŋ):Prop:= ∃x t,val i=.inr x/\v=.str x t
def StrT.is{P:ō}{w:World}{val:Nat->Key}{i:Nat}{v:ŋ}(h:StrT val i v):(xH P w).is (val i) v=true/\v.scannable=true/\plainKind v=false:=by obtain⟨x,t,e,rfl⟩:=h;rw[e];exact⟨pT P w x t,rfl,rfl⟩
def SetAt(h:Heap)(D:Addr)(es:Array (Int×ŋ))(ep:Nat)(t:SetTable):Prop:= ∃o,h.get? D=some o/\o.ExactSet/\o.data=.set es ep t/\t.fits es.size=true
def SetAt.keep{h h':Heap}{D:Addr}{es:Array (Int×ŋ)}{ep:Nat}{t:SetTable}(x:SetAt h D es ep t)(m: ∀o,h.get? D=some o->h'.get? D=some o):SetAt h' D es ep t:=by obtain⟨o,a,r⟩:=x;exact⟨o,m o a,r⟩
section
variable{X:Cx}{W:XW}
def Cg:CallR X (.type "dict") (λxs H Q=> ∃d a,xs=[.ref d]/\DK X H d a/\ ∀p,H p=none->Q (.ref p) (xU H p (.dK a))):=by intro pins s σ H xs us Q I r h;obtain⟨d,a,rfl,v,q⟩:=h;obtain⟨u,rfl,m⟩:=vals1 r;cases m;obtain⟨k,hs,vs,j,hd⟩:=nR I v;have y:a.length=vs.length:=Paired.length j;refine kt_call_dict (knd:=xH X.prog X.w) (more:=vs) hs hd (by omega) λh' i c=>?_;have n: ∀b o,s.heap.get? b=some o->h'.get? b=some o:=λb o e=>(c.2 b (ë (â e))).trans (hP0 _ e);refine⟨.ref ↑0,_,I.laid (t':=s.toks) n (à _) (show ObjOk X.prog X.w _ h' _ (.dK a)from⟨k,ŀ.mpr (Ne.symm (ë (KF I))),_,j,i⟩),rfl,q _ (I.hok.fresh (à _))⟩
def RY:List Er->Sto->R Er
 |[r],S=>match uG S r with |some (_,kvs)=>.ok (.val (.loc S.length)) (S++[.dic kvs])|none=>.no
 |_,_=>.no
def Tx:qB X W (λxs H Q=> ∃d b,xs=[.ref d]/\DK X H d b/\ ∀p,H p=none->Q (.ref p) (xU H p (.dK b))) RY:=by
 intro rs vs α S H Q h d a;unfold RY at a;split at a
 .split at a
  .rename_i l kvs e;obtain⟨v,rfl,n⟩:=lW d;obtain⟨c,b,rfl,u,s,r,q,_⟩:=Fm h e n;refine⟨c,b,rfl,r,λp i=>?_⟩;have j:=h.newx (o:=.dK b) i;obtain⟨x,k⟩:=h.put (ho:=.dK b) (m:=.dic kvs) i (.inl ⟨_,zT,q.ex0 ⟨⟨[p],rfl⟩,j.tup,j.frz⟩⟩);exact a (.ref p) (α++[p]) _ x k (DenE.val (mV (by rw[<-h.len,æ (à _),sub_self];rfl)))
  .exact a.elim
 .exact a.elim
end
section
variable{X:Cx}{W:XW}{o e:Expr}{es:B8}{f:AX}{af:Rho->Sto->R (List Er)}{apos pos:Pos}
def rSX(X:Cx):V->List V->Hp->VK->Prop:=λx vs H Q=> ∃(ks:List (Key×V))(d:Addr)(k:Key)(y:V),x=.ref d/\vs=[kV k,y]/\DK X H d ks/\ks.length<sizeLine/\(∀v,dD ks k=some v->Q v H)/\(dD ks k=none->Q y (xU H d (.dK (qG ks k y))))
theorem Ua:Gp X "dict.setdefault" (rSX X):=by
 intro pins s σ H x vs v us Q I G z h;obtain⟨i,d,k,y,rfl,rfl,j,T,A,C⟩:=h;obtain⟨S,O,rfl,E,w⟩:=vals2 z;cases G;have r:s.TypeIs _ "dict":=(KU pins s σ H (.ref d) _ I rfl ⟨d,i,rfl,j⟩).1;obtain⟨_,hs,ws,p,P⟩:=nR I j;have Y:=Paired.length p;obtain⟨l1,l2⟩:=DC p k;have W:=uF i k y;refine ì PySem.F.slot_dict_setdefault r PySem.F.entry_dict_setdefault ?_ (PySem.F.args_dict_setdefault_3 _ _ _);unfold Builtin.«dict.setdefault»;refine wB ?_;unfold Builtin.Dict.keyAndDefault;refine wB (Ģ r ?_);show wpAny _ _ _ _ _ s;refine wP ?_;show wpAny _ _ (if _=true then _ else _) _ _ s;rw[iN (by rw[hs];exact xF0)];refine wB (kt_dictSetDefault_pairs (OM E) P (λu m=>?_) (λM h' c n=>?_) #[0])
 .cases a:dD i k with
  |some v=>
   obtain⟨K,e,N⟩:=l1 v a;rw[m]at e;cases e;exact wP ⟨u,rfl,v,H,I.tok _,N,A v a⟩
  |none=>rw[l2 a]at m;cases m
 .cases a:dD i k with
  |some v=>
   obtain⟨K,e,_⟩:=l1 v a;rw[M]at e;cases e
  |none=>
   have J: ∃q,h'.get? d=some q:=let ⟨q,_,_,L,_⟩:=c;⟨q,L⟩;exact wP ⟨O,rfl,y,_,I.write (o:=.dK _) (RW j) (.inl rfl) (λb U D B=>(n.2 b D).trans B) J ⟨by lia,hs,_,RU p _ w,c⟩,w,C a⟩
def OQ(p:Er)(k y:MV)(S1:Sto):R Er:=match uG S1 p with
 |some (l,kvs)=>if tD k=true/\kvs.length<1000000 then(match look kvs k with
  |some d=>.ok (.val d) S1
  |none=>.ok (.val y) (S1.set l (.dic (putK kvs k y))))else .no
 |none=>.no
def Ci(p:Er)(rs:List Er)(S:Sto):R Er:=match rs with
 |[.val k,r]=>(wO r S).bind λy S1=>OQ p k y S1
 |_=>.no
def Ub:NL X W (rSX X) Ci:=by
 intro p rs x vs α S H0 H Q n I O P u a
 match rs,u,a with
 |[],_,a=>exact a.elim
 |[.val _],_,a=>exact a.elim
 |.new _::_,_,a=>exact a.elim
 |.val _::_::_::_,_,a=>exact a.elim
 |[.val k,r],u,a=>
  cases u with
  |cons dk n1 l1=>
   cases l1 with
   |cons d n2 l2=>
    cases l2;obtain⟨M,S',α',T,E,A,i,B⟩:=bZ I O d;have a:Post X.g W n H0 ((wO r S).bind λy S1=>OQ p k y S1) Q:=a;rw[T]at a;have a:Post X.g W n H0 (OQ p k M S') Q:=a;unfold OQ at a;split at a
    .rename_i l kvs F;split at a
     .rename_i C
      have s:DenX X.K α' H p x:=by
       cases p with
       |val m=>exact Den.ex0 A P
       |new ds=>cases F
      obtain⟨c,J,rfl,o,U,b,w,_⟩:=Fm i F s;obtain⟨N,e⟩:=ï.mp C.1;obtain⟨D,g2⟩:=rB w (YF e);have G:=YG e (Den.ex0 A dk.1);subst G;refine⟨J,c,N,_,rfl,rfl,b,?_,λv h=>?_,λh=>?_⟩
      .rw[w.length];exact ç C.2 (fits (à _))
      .cases j:look kvs k with
       |some d2=>
        obtain⟨L,q,z⟩:=D d2 j;rw[q]at h;cases h;rw[j]at a;exact(Post.shift E a).val i z
       |none=>rw[g2 j]at h;cases h
      .cases j:look kvs k with
       |some d2=>obtain⟨L,q,z⟩:=D d2 j;rw[q]at h;cases h
       |none=>
        rw[j]at a;exact(Post.shift (E.trans (i.writex o b.nf)) a).val (i.write o b.nf (.inl ⟨_,zT,(EW w (YF e) B).ex0 (i.writex o b.nf).toEx0⟩)) (B.ext (i.writex o b.nf))
     .exact a.elim
    .exact a.elim
def Uc(ho:zN X W o f)(i:CS X W (e::es) af)
  (hbase:attributeBase o "setdefault" X.env (eval o X.env)=eval o X.env:=by rfl)
  (hfew:((backTo pos (starEach (e::es) X.env)).all (λx=>!x.1)&&(backToKw pos (keywordEach [] X.env)).all (λx=>x.1.isSome)
   &&decide ((e::es).length+([]:List Keyword).length+(if([]:List Keyword).isEmpty then 0 else 1)<30))=true:=by rfl)
  (hline:(apos.endLine==pos.line)=true:=by rfl) (hs:q9 X e es:=by rfl) (hplain:Q0 X pos es:=by rfl):
  zN X W (.Call (.Attribute o "setdefault" apos) (e::es) [] pos) (λρ S=>(f ρ S).bind λp S1=>if RX p S1=true then(af ρ S1).bind λrs S2=>Ci p rs S2 else .no):=by
 obtain⟨to,ho,y⟩:=ho;obtain⟨t,i,k⟩:=i;refine⟨_,KQ KU PySem.F.plainAttrs_dict PySem.F.slot_dict_setdefault PySem.F.type_dict_setdefault Ua ho i hbase hfew hline hs hplain,λα ρ S σ H Q s sl q=>y α ρ S σ H _ s sl (q.bind λu p S1 a H1 D m n j b=>?_)⟩;split at b
 .rename_i h;obtain⟨⟨l,kvs⟩,h⟩:=ï.mp h;obtain⟨c,xs,rfl,_,_,v,_⟩:=Fm n h j.1;exact⟨⟨c,xs,rfl,v⟩,k a ρ S1 σ H1 _ n (sl.ext m) ((b.shift m).bind λvs rs S2 d w C r B A z=>Ub p rs _ vs d S2 H1 w Q a B r (j.1.ext r) A z)⟩
 .exact b.elim
end
section
variable{X:Cx}{W:XW}{a b:Expr}{f g:AX}{pos:Pos}
abbrev BK:=Fj (λ_ _=>True) λi j=>Builtin.bitAnd i j
abbrev Ud:=Fj (λ_ _=>True) λi j=>Builtin.bitOr i j
def Kl(c:zN X W a f)(d:zN X W b g):zN X W (.BinOp a .BitAnd b pos) (λρ S=>(f ρ S).bind λp S1=>(g ρ S1).bind λq S2=>BK p q S2):=BG Oz JV c d
def Ue(c:zN X W a f)(d:zN X W b g):zN X W (.BinOp a .BitOr b pos) (λρ S=>(f ρ S).bind λp S1=>(g ρ S1).bind λq S2=>Ud p q S2):=BG Wx JV c d
end
section
variable{P:ō}{w:World}{KK:Type}[DecidableEq KK]{knd:HeapKind P w KK}{A:Ō}{E:VP}{s:Ŋ}{d a:Addr}{k:KK}{xs:List (KK×Addr×ŋ)}
def YL{Q:Option ŋ->Ŋ->Prop}(n:knd.room A)(b:knd.is s.heap k a)(u:s.heap.DictOfH knd d xs)(h:Q ((atKey xs k).map (·.2)) {s with toks:=s.toks+knd.draws k}):wpAny (model P w) A (dictGet d (.ref a)) Q E s:=by
 obtain⟨o,es,ep,q,v,hd,m,e,r⟩:=u;unfold dictGet
 try with_reducible refine ù ?_
 refine wB (knd.pyHash n b ?_);refine wB (wpAny_dictFind_heap (s:={s with toks:=s.toks+knd.draws k}) n b q hd m e r ?_ ?_)
 .intro c;rw[atKey_none_of_get c]at h;exact wP h
 .intro j p i;refine wB (ę (s:={s with toks:=s.toks+knd.draws k}) q hd ?_);rw[entry_at m j,i];rw[atKey_of_get r i]at h;exact wP h
end
section
variable{X:Cx}{W:XW}{o e:Expr}{es:B8}{f:AX}{af:Rho->Sto->R (List Er)}{apos pos:Pos}
def rGD(X:Cx):V->List V->Hp->VK->Prop:=λx vs H Q=> ∃(α:A9)(kvs:C7)(xs:List (NK×Addr×ŋ))(a d:Addr)(k:MV)(nk:NK)(y:V),x=.ref d/\vs=[.ref a,y]/\DD X H d xs/\DenN X.K α H kvs xs/\xD k=some nk/\aX nk<=4/\Den X.K α H k (.ref a)/\
 (∀b v,look kvs k=some b->Den X.K α H b v->Q v H)/\(look kvs k=none->Q y H)
def Yw(U:X.A.units+64<cLine):Gp X "dict.get" (rGD X):=by
 intro pins s σ H x vs v us Q I G r h;obtain⟨α,kvs,xs,a,d,k,J,y,rfl,rfl,n,l,i,e,K,u,B⟩:=h;obtain⟨T,M,rfl,E,P⟩:=vals2 r;cases G;cases E;obtain⟨N,L,hs⟩:=rA I n l;have D:s.TypeIs (.ref d) "dict":=(AD pins s σ H (.ref d) (.ref d) I rfl ⟨d,xs,rfl,n⟩).1;have c:=CY l i;refine ì PySem.F.slot_dict_get D PySem.F.entry_dict_get ?_ (PySem.F.args_dict_get_3 _ _ _);show wpAny _ _ (dictGet d (.ref a) >>= _) _ _ s;refine wB (YL (knd:=zV X.prog X.w) (show X.A.units+1+4<cLine by omega) ⟨AA I i K rfl,e⟩ N ?_)
 cases m:atKey xs J with
 |some p=>
  rw[m]at c;obtain⟨C,b⟩:=ï.mp (show(look kvs k).isSome=true from c.symm);obtain⟨W,S,q,o,g2,O⟩:=KR l i b;rw[m]at o;cases o;exact wP ⟨_,rfl,q,H,I.kept (t':=_) (λ_ _ z=>z),O,u C q b g2⟩
 |none=>
  rw[m]at c
  have j:look kvs k=none:=by
   cases z:look kvs k with
   |none=>rfl
   |some _=>rw[z]at c;cases c
  show wpAny _ _ (Builtin.Dict.missed d (.ref a) >>= _) _ _ _;exact wB (wpAny_missed_other hs (wP ⟨M,rfl,y,H,I.kept (t':=_) (λ_ _ z=>z),P,B j⟩))
def uH(p:Er)(rs:List Er)(S:Sto):R Er:=match rs with
 |[.val k,r]=>match bT S p with
  |some (_,kvs)=>if keyOk k=true then(match look kvs k with
   |some d=>.ok (.val d) S
   |none=>.ok r S)else .no
  |none=>.no
 |_=>.no
def Yx:NL X W (rGD X) uH:=by
 intro p rs x vs α S H0 H Q n d h q s a;unfold uH at a;split at a
 .rename_i k r
  cases s with
  |cons dk n1 l1=>
   cases l1 with
   |cons dy n2 l2=>
    cases l2;split at a
    .rename_i l kvs u;split at a
     .rename_i j;obtain⟨m,h1,i,o⟩:=uC j;obtain⟨c,xs,rfl,A,y,e,v⟩:=sV d u q;obtain⟨w,rfl⟩:=CZ (X:=X) (α:=α) (H:=H) o dk.1;refine⟨α,kvs,xs,w,c,k,m,_,rfl,rfl,e,v,h1,i,dk.1,λz B b g2=>?_,λb=>?_⟩
      .rw[b]at a;exact(Post.shift h a).val d g2
      .rw[b]at a;exact a _ α H h d dy
     .exact a.elim
    .exact a.elim
 .exact a.elim
def Yy(B:X.A.units+64<cLine)(ho:zN X W o f)(i:CS X W (e::es) af)
  (hbase:attributeBase o "get" X.env (eval o X.env)=eval o X.env:=by rfl)
  (hfew:((backTo pos (starEach (e::es) X.env)).all (λx=>!x.1)&&(backToKw pos (keywordEach [] X.env)).all (λx=>x.1.isSome)
   &&decide ((e::es).length+([]:List Keyword).length+(if([]:List Keyword).isEmpty then 0 else 1)<30))=true:=by rfl)
  (hline:(apos.endLine==pos.line)=true:=by rfl) (hs:q9 X e es:=by rfl) (hplain:Q0 X pos es:=by rfl):
  zN X W (.Call (.Attribute o "get" apos) (e::es) [] pos) (λρ S=>(f ρ S).bind λp S1=>if qH p S1=true then(af ρ S1).bind λrs S2=>uH p rs S2 else .no):=by
 obtain⟨to,ho,y⟩:=ho;obtain⟨t,i,k⟩:=i;refine⟨_,KQ AD PySem.F.plainAttrs_dict PySem.F.slot_dict_get PySem.F.type_dict_get (Yw B) ho i hbase hfew hline hs hplain,λα ρ S σ H Q s sl q=>y α ρ S σ H _ s sl (q.bind λu p S1 a H1 G m n j b=>?_)⟩;split at b
 .rename_i h;obtain⟨⟨l,kvs⟩,h⟩:=ï.mp h;obtain⟨c,xs,rfl,_,_,v,_⟩:=sV n h j.1;exact⟨⟨c,xs,rfl,v⟩,k a ρ S1 σ H1 _ n (sl.ext m) ((b.shift m).bind λvs rs S2 d w E r D C z=>Yx p rs _ vs d S2 H1 w Q a D r (j.1.ext r) C z)⟩
 .exact b.elim
end
section
variable{P:ō}{w:World}{A:Ō}{E:VP}{s:Ŋ}{R:Result->Ŋ->Prop}
def AI{h h':Heap}{k:NK}{a:Addr}(x:(zV P w).is h k a)(m: ∀b o,h.get? b=some o->h'.get? b=some o):(zV P w).is h' k a:=⟨DX (λb o _ _ e _=>m b o e) x.1,x.2⟩
def Cj(P:ō)(w:World)(h:Heap)(x:NK×Addr×ŋ)(v:ŋ):Prop:= ∃t,v=.ref t/\IsTup h t #[.ref x.2.1,x.2.2]/\(zV P w).is h x.1 x.2.1
def rZ(xs:List (NK×Addr×ŋ)):List (NK×Addr×ŋ):=xs.foldl (λa x=>storedH a x.1 x.2.1 x.2.2) []
def IG(xs:List (NK×Addr×ŋ)):(rZ xs).length<=xs.length:=by
 have: ∀(xs b:List (NK×Addr×ŋ)),(xs.foldl (λb x=>storedH b x.1 x.2.1 x.2.2) b).length<=b.length+xs.length:=by
  intro xs
  induction xs with
  |nil=>intro b;exact à _
  |cons x xs ih=>
   intro b;rw[ě,lC];have:=ih (storedH b x.1 x.2.1 x.2.2);have:=sW (xs:=b) (k:=x.1) (a:=x.2.1) (u:=x.2.2);omega
 have:=this xs [];rw[ú,Ă]at this;exact this
theorem RZ(xs:List (NK×Addr×ŋ))(i:Nat)(x:NK×Addr×ŋ)(h:xs[i]? =some x):rZ (xs.take (i+1))=storedH (rZ (xs.take i)) x.1 x.2.1 x.2.2:=by unfold rZ;rw[List.take_add_one,h,List.foldl_append];rfl
def YM{p:NK->Addr->Prop}{k:NK}{a:Addr}{u:ŋ}(h: ∀x∈xs,p x.1 x.2.1)(d:p k a): ∀x∈storedH xs k a u,p x.1 x.2.1:=by
 intro x b
 cases z:atKey xs k with
 |none=>
  rw[storedH_new z]at b;rcases é.mp b with b|b
  .exact h x b
  .rw[mS.mp b];exact d
 |some q=>
  rw[storedH_old z]at b;obtain⟨y,c,rfl⟩:=mM.mp b;unfold putAt;split
  .exact h y c
  .exact h y c
def OR{p:NK->Addr->Prop}(h: ∀x∈xs,p x.1 x.2.1): ∀x∈rZ xs,p x.1 x.2.1:=by
 have: ∀(xs a:List (NK×Addr×ŋ)),(∀x∈xs,p x.1 x.2.1)->(∀x∈a,p x.1 x.2.1)-> ∀x∈xs.foldl (λa x=>storedH a x.1 x.2.1 x.2.2) a,p x.1 x.2.1:=by
  intro xs
  induction xs with
  |nil=>intro a _ c;exact c
  |cons y ys ih=>
   intro a b c;rw[ě];exact ih _ (λx d=>b x (mO _ d)) (YM c (b y mF0))
 exact this xs [] h λx b=>by simp at b
def IH{h h':Heap}{D:Addr}(e:h.DictOfH (zV P w) D xs)(i: ∀o,h.get? D=some o->h'.get? D=some o)(a: ∀x∈xs,(zV P w).is h' x.1 x.2.1):h'.DictOfH (zV P w) D xs:=
 let ⟨o,es,ep,j,b,k,d,_,c⟩:=e;⟨o,es,ep,i o j,b,k,d,a,c⟩
def SC{I D:Addr}{fp:A9}{n:Nat}{Pv:Nat->ŋ->Prop}{St:Nat->Heap->Prop}(W:Walks P w A.in1 I fp [I] n Pv St)(G:D∉fp)(kvs:List (NK×Addr×ŋ))(hn:kvs.length=n)(hz:n<=sizeLine)(u:(zV P w).room A.in1){h₀:Heap}
  (hP: ∀i v,Pv i v-> ∃r,kvs[i]? =some r/\Cj P w h₀ r v) (hK: ∀x∈kvs,(zV P w).is h₀ x.1 x.2.1) (hI:h₀.get? I=none) (hD:h₀.get? D=none):
  ∀(k i:Nat)(j:Int)(s:Ŋ),n - i=k->i<=n->St i s.heap->s.heap.DictOfH (zV P w) D (rZ (kvs.take i))->(∀b o,h₀.get? b=some o->s.heap.get? b=some o)->
   (∀h' z,(∀b o,h₀.get? b=some o->h'.get? b=some o)->h'.DictOfH (zV P w) D (rZ kvs)->R (.ok (.ret .none)) {s with heap:=h',toks:=z})->
   codeAny (model P w) A (.builtin "dict.update.loop" ⟨[.ref D,.ref I,rawInt j,.none],[]⟩) R s:=by
 have E:D≠I:=λe=>G (e▸W.sub _ (mS.mpr rfl));intro k
 induction k with
 |zero=>
  intro i j s hk hi y M d T;have N:i=n:=by omega
  subst N;refine ņ F.entry_dict_update_loop ?_;rw[ħ F.plain_dict_update_loop _];show wpAny _ A.in1 (pyNext (.ref I) >>= _) _ _ s;refine wB (W.done s _ _ y λh' z p=>?_);show wpAny _ A.in1 (Builtin.Dict.addKeywords D [] >>= λ_=>ret Value.none) _ _ _;refine wB (wP ?_);rw[<-hn,take_length]at M;refine wP (T h' z (λb o e=>?_) ?_)
  .exact p b o (λh=>by rw[mS.mp h,hI]at e;cases e) (d b o e)
  .exact IH M (λo e=>p D o (λh=>E (mS.mp h)) e) λx J=>AI (OR hK x J) λb o e=>p b o (λh=>by rw[mS.mp h,hI]at e;cases e) (d b o e)
 |succ k ih=>
  intro i j s hk hi y M d T;have K:i<n:=by omega
  refine ņ F.entry_dict_update_loop ?_;rw[ħ F.plain_dict_update_loop _];show wpAny _ A.in1 (pyNext (.ref I) >>= _) _ _ s;refine wB (W.item i s _ _ K y λv h' z X H p=>?_);obtain⟨r,Y,a,rfl,hT,L⟩:=hP i v X;have c: ∀b o,h₀.get? b=some o->h'.get? b=some o:=λb o e=>p b o (λh=>by rw[mS.mp h,hI]at e;cases e) (d b o e);have S: ∀(m:Nat), ∀x∈kvs.take m,(zV P w).is h₀ x.1 x.2.1:=λm x J=>hK x (mem_of_mem_take J);have Z:h'.DictOfH (zV P w) D (rZ (kvs.take i)):=IH M (λo e=>p D o (λh=>E (mS.mp h)) e) λx J=>AI (OR (S i) x J) c;obtain⟨o,ho,hc,nn,C⟩:=hT.keeps c;have Q:Shared.TypeIs {s with heap:=h',toks:=z} (.ref a) "tuple":=⟨o,ho,hc⟩
  refine wB (ù ?_);refine wB (wpAny_tryCatch ?_);unfold Builtin.Dict.pairItems;refine wB (Ğ Q ?_);rw[iP (by decide)];refine wB ?_;show wpAny _ _ (do match (<-load a).data with |.seq xs _=>pure (some xs)|_=>pure none) _ _ _;refine wB (wpAny_load ho ?_);rw[C];refine wP (wP ?_);show wpAny _ _ (holding [.ref r.2.1,r.2.2] (dictSet D (.ref r.2.1) r.2.2)) _ _ _;refine ù ?_;have aa:=IG (kvs.take i);have ab:(kvs.take i).length<=n:=by rw[<-hn];exact List.length_take_le' i kvs
  refine wpAny_dictSet_heap (knd:=zV P w) (s:={s with heap:=h',toks:=z}) (hsz:=by omega) u (AI L c) Z λh2 U B=>?_;have q: ∀b o,h₀.get? b=some o->h2.get? b=some o:=λb o e=>by rw[B.2 b (λh=>by rw[h,hD]at e;cases e)];exact c b o e
  refine wP ⟨plainId_quiet F.plain_dict_update_loop _,ih (i+1) (j+1) _ (by omega) K (W.frame _ _ _ H λb hb o e=>?_) ?_ q λh3 O k3 d3=>T h3 O k3 d3⟩
  .rw[B.2 b (λh=>G (h▸hb))];exact e
  .rw[RZ _ _ _ Y];exact U
def AK{l:Addr}{its:A7}{o:Obj}{c:Nat}{kvs:List (NK×Addr×ŋ)}{Q:VP}(U:A.units+64<cLine)(z:A.handled=none)(ho:s.heap.get? l=some o)(y:o.cls=.type "list")(hd:o.dict=none)(d:o.data=.seq its c)(q:its.size=kvs.length)(hz:its.size<=sizeLine)
  (hP: ∀(i:Nat) v,its[i]? =some v-> ∃H,kvs[i]? =some H/\Cj P w s.heap H v) (hK: ∀x∈kvs,(zV P w).is s.heap x.1 x.2.1)
  (h: ∀h' B,(∀b o,s.heap.get? b=some o->h'.get? b=some o)->h'.DictOfH (zV P w) ↑0 (rZ kvs)->Q (.ref ↑0) {s with heap:=h',toks:=B}):
  wpAny (model P w) A (call (.type "dict") [.ref l]) Q E s:=by
 refine callType_codes (Q₁:=λr j=>r=.ref ↑0/\j={s with heap:=s.heap.push {cls:=.type "dict",data:=.dict #[]}}) F.kt_called_dict (F.kt_typeCall_dict_1 _) F.entry_dict_init (kt_code_dict_new _ ⟨rfl,rfl⟩) ?_;rintro r j ⟨rfl,rfl⟩;have a:(s.heap.push {cls:=.type "dict",data:=.dict #[]}).DictOfH (zV P w) ↑0 []:=Heap.DictOfH.new s.heap;have k:(s.heap.push {cls:=.type "dict",data:=.dict #[]}).get? l=some o:=hP0 _ ho;have G:=â ho;refine⟨a.typeIs,F.args_dict_init_2 _ _,?_⟩;unfold Builtin.«dict.__init__»;refine wB ?_;unfold Builtin.Dict.selfAndRest;refine wB (Ģ a.typeIs ?_);show wpAny _ _ (pure (↑0,[Value.ref l])) _ _ _;refine wP ?_;show wpAny _ _ (Builtin.Dict.updateFrom "dict.__init__" ↑0 (.ref l) [] .none) _ _ _;unfold Builtin.Dict.updateFrom;refine wB (Ğ (T:="list") ⟨o,k,y⟩ ?_);rw[iP (by decide)];refine wB (getAttr?_miss_list k y d hd KW (by decide+kernel) z (λh1 I k1=>?_) (by decide+kernel));rw[iP (show(none:Option ŋ).isNone=true from rfl)];refine wB (ĕ ?_);have m:=k1 l o k;refine wB (wpAny_pyIter_list (items:=its) ⟨o,m,y,c,d⟩ ?_);have K:l≠h1.objs.size:=ë (â m);have u:↑0<h1.objs.size:=by obtain⟨p,_,_,n,_⟩:=a;exact â (k1 _ _ n)
 refine wP ⟨plainId_quiet F.plain_dict_update_loop _,SC (P:=P) (w:=w) (h₀:=s.heap) (D:=↑0) (Walks.list (by first |exact z|exact(show A.in1.in1.handled=none from z)) h1.objs.size l K its) ?_ kvs q.symm hz (by show _+4<cLine;first |(show A.units+1+1+4<cLine;omega)|(show A.units+1+4<cLine;omega)|(show A.units+4<cLine;omega)) hP hK ?_ ?_ _ 0 0 _ rfl (zero_le _) ⟨⟨_,ã _ rfl,rfl,rfl⟩,⟨o,hP0 _ m,y,c,d⟩⟩ ?_ ?_ λh' B J C=>?_⟩
 .rw[mC,mS];rintro(e|e)
  .exact ë u e
  .exact ë G e.symm
 .cases n:s.heap.get? h1.objs.size with
  |none=>rfl
  |some p=>exact absurd (â n) (Nat.lt_asymm u)
 .cases n:s.heap.get? ↑0 with
  |none=>rfl
  |some p=>exact absurd (â n) (ı _)
 .obtain⟨p,es,ep,n,L,S,M,_,N⟩:=a;exact⟨p,es,ep,hP0 _ (k1 _ _ n),L,S,M,λx O=>(by cases O),N⟩
 .intro b p e;exact hP0 _ (k1 _ _ (hP0 _ e))
 .exact⟨rfl,h h' B J C⟩
end
section
variable{X:Cx}{W:XW}{α:A9}{H:Hp}{pins:B5}{σ:St}{s:Ŋ}
noncomputable def eQ:List MV->Option (List (MV×MV))
 |[]=>some []
 |.tup [k,v]::r=>if keyOk k=true then(eQ r).map ((k,v)::·)else none
 |_::_=>none
def OS(ps:C7):List (MV×MV):=ps.foldl (λa p=>putK a p.1 p.2) []
theorem II(I:↑2): ∀{ds:C1}{kvs:C7}{vs:List V}{us:A0},eQ ds=some kvs->DenL X.K α H ds vs->Vals vs us->
  ∃xs,DenN X.K α H kvs xs/\xs.length=us.length/\ ∀(i:Nat) v,us[i]? =some v-> ∃x,xs[i]? =some x/\Cj X.prog X.w s.heap x v
 |[],kvs,vs,us,e,l,r=>by cases e;have:=l.isnil;subst this;cases r;exact⟨[],.nil,rfl,λi v h=>by simp at h⟩
 |d::ds,kvs,vs,us,e,l,r=>by
  obtain⟨v,P,rfl,E,F⟩:=l.uncons;unfold eQ at e;split at e
  .cases (by assumption:d::ds=[])
  .rename_i k y S hd;obtain⟨rfl,rfl⟩:=List.cons.inj hd;split at e
   .rename_i o
    cases z:eQ ds with
    |none=>rw[z]at e;cases e
    |some ms=>
     rw[z]at e;cases e
     cases r with
     |@cons _ u _ us ru rt=>
      obtain⟨xs,h1,m,C⟩:=II I z F rt;obtain⟨t,ws,rfl,hs,D⟩:=yO E;obtain⟨M,Q,rfl,b,l1⟩:=D.uncons;obtain⟨T,U,rfl,q,l2⟩:=l1.uncons;have j:=l2.isnil;subst j;cases ru;obtain⟨B,c,g2,L⟩:=uC o;obtain⟨a,rfl⟩:=CZ (X:=X) L b;obtain⟨its,G,A,O⟩:=I.tuple hs;obtain⟨N,J,rfl,n,p⟩:=vals2 G;cases n;refine⟨(B,a,J)::xs,.cons c g2 b q p h1,by rw[lC,lC,m],λi w hw=>?_⟩
      cases i with
      |zero=>
       cases hw;exact⟨_,rfl,t,rfl,A,AA I c b rfl,g2⟩
      |succ i=>exact C i w hw
   .cases e
  .cases e
theorem IK: ∀{kvs:C7}{xs:List (NK×Addr×ŋ)},DenN X.K α H kvs xs-> ∀{as:C7}{bs:List (NK×Addr×ŋ)},DenN X.K α H as bs->DenN X.K α H (kvs.foldl (λa p=>putK a p.1 p.2) as) (xs.foldl (λa x=>storedH a x.1 x.2.1 x.2.2) bs)
 |_,_,.nil,as,bs,h=>h
 |_,_,.cons hk e ha hd r l,as,bs,h=>by rw[ě,ě];exact IK l (KE h hk e ha hd r)
def YN(F:X.A.units+64<cLine):CallR X (.type "dict") (λxs H Q=> ∃α l vs ds kvs,xs=[.ref l]/\SqL X.K H l vs/\DenL X.K α H ds vs/\eQ ds=some kvs/\X.calm=true/\ ∀p ys,H p=none->DenN X.K α H (OS kvs) ys->Q (.ref p) (xU H p (DN X.prog X.w p ys))):=by intro pins s σ H xs us Q I r h;obtain⟨α,l,vs,ds,kvs,rfl,O,T,N,U,q⟩:=h;obtain⟨u,rfl,G⟩:=vals1 r;cases G;obtain⟨its,z,⟨o,n,Z,k,hd,a⟩,hz⟩:=I.list O;obtain⟨xs,h1,B,L⟩:=II I N T z;have hl:=z.length;refine AK (P:=X.prog) (w:=X.w) (kvs:=xs) F (I.ok.hd U) Z k hd a (by rw[sA0,B]) (by rw[sA0];omega) (λi v e=>L i v (by simpa using e)) (KC I h1) λh' M D j=>?_;have hm:=IG xs;obtain⟨C,es,ep,b,Y,y,J,_,hn⟩:=j;refine⟨.ref ↑0,_,I.laid (t':=M) (o:=DN X.prog X.w ↑0 (rZ xs)) D (à _) ?_,rfl,q _ _ (I.hok.fresh (à _)) (IK h1 .nil)⟩;refine⟨⟨by omega,ŀ.mpr (Ne.symm (ë (KF I))),C,es,ep,b,Y,y,J,hn⟩,⟨C,b⟩,?_⟩;rintro h1 B ⟨E,W,o',d,m,c,r⟩ S;exact⟨E,W,o',d,m,S o' c,r⟩
noncomputable def IL:List Er->Sto->R Er
 |[r],S=>match (jL S r).bind eQ with |some kvs=>.ok (.val (.loc S.length)) (S++[.dic (OS kvs)])|none=>.no
 |_,_=>.no
def Km(n:X.calm=true):qB X W (λxs H Q=> ∃α l vs ds kvs,xs=[.ref l]/\SqL X.K H l vs/\DenL X.K α H ds vs/\eQ ds=some kvs/\X.calm=true/\ ∀p ys,H p=none->DenN X.K α H (OS kvs) ys->Q (.ref p) (xU H p (DN X.prog X.w p ys))) IL:=by
 intro rs vs α S H Q b d a;unfold IL at a;split at a
 .split at a
  .rename_i kvs e;obtain⟨v,rfl,k⟩:=lW d
   cases z:jL S _ with
   |none=>rw[z]at e;cases e
   |some ds=>
    rw[z]at e;obtain⟨j,us,rfl,q,l⟩:=tQ rfl b z k;refine⟨α,j,us,ds,kvs,rfl,q,l,e,n,λp ys c dn=>?_⟩;have h:=b.newx (o:=DN X.prog X.w p ys) c;obtain⟨x,i⟩:=b.put (ho:=DN X.prog X.w p ys) (m:=.dic (OS kvs)) c (.inr ⟨_,zT,dn.ex0 ⟨⟨[p],rfl⟩,h.tup,h.frz⟩⟩);exact a (.ref p) (α++[p]) _ x i (DenE.val (mV (by rw[<-b.len,æ (à _),sub_self];rfl)))
  .exact a.elim
 .exact a.elim
end
theorem DenF.len{K:B9}{α:A9}{H:Hp}: ∀{fs gs},DenF K α H fs gs->gs.length=fs.length
 |_,_,.nil=>rfl
 |_,_,.cons b l=>by rw[lC,lC,DenF.len l]
section
variable{X:Cx}{W:XW}{a b:Expr}{f g:AX}{pos:Pos}
def Yz(X:Cx):R2:=λx y H Q=> ∃(ks:List (Key×V))(d:Addr)(k:Key)(v:V),x=.ref d/\y=kV k/\DK X H d ks/\dD ks k=some v/\Q v H
def Ck:IxR X (Yz X):=by intro a c pins s σ H x y u v Q I n m h b;obtain⟨z,d,k,i,rfl,rfl,p,w,q⟩:=h;cases n;obtain⟨_,hs,ws,r,e⟩:=nR I p;obtain⟨A,o,j⟩:=(DC r k).1 i w;exact subscriptTail_builtinR e.typeIs slot_dict_getitem.lookup (wpAny_getItem_of (OM m) e.mapOf o ⟨rfl,i,H,I.tok _,j,q⟩) b
def OT(p q:Er)(S:Sto):R Er:=match uG S p,q with
 |some (_,kvs),.val k=>if tD k=true then(match look kvs k with |some d=>.ok (.val d) S|none=>.no)else .no
 |_,_=>.no
def Kn:RA X W (Yz X) OT:=by
 intro p q x y α S H Q i u r a;unfold OT at a;split at a
 .rename_i l kvs k w;obtain⟨c,o,rfl,C,B,h,z,_⟩:=Fm i w u;split at a
  .rename_i e;obtain⟨s,b⟩:=ï.mp e;have j:=YG b r;subst j;split at a
   .rename_i d v;obtain⟨A,n,m⟩:=(rB z (YF b)).1 d v;exact⟨o,c,s,A,rfl,rfl,h,n,Post.val a i m⟩
   .exact a.elim
  .exact a.elim
 .exact a.elim
def Ug(d:zN X W a f)(c:zN X W b g)(hs:CQ b:=by exact λ_ _=>rfl):zN X W (.Subscript a b pos) (λρ S=>(f ρ S).bind λp S1=>(g ρ S1).bind λq S2=>OT p q S2):=Mx Ck Kn d c hs
end
section
variable{P:ō}{w:World}{A:Ō}{E:VP}{s:Ŋ}{d v it:Addr}{ep i:Nat}{od:Obj}{es:Array DictEntry}{ok ov:ŋ}
def Cm{Q:VP}(e:s.heap.IsItemsView v d)(ho:s.heap.get? d=some od)(a:od.data=.dict es ep)
  (hQ:Q (.ref ↑0) {s with heap:=s.heap.push {cls:=.type "dict_itemiterator",data:=.fields #[.none,.bool false,.ref d,.int 0 0,.int es.size 0,.int ep 0,.none,.none]}}):wpAny (model P w) A (pyIter (.ref v)) Q E s:=by
 obtain⟨ov,c,i,h⟩:=id e;refine wpAny_pyIter_slot e.typeIs PySem.F.slot_dict_items_iter (ì PySem.F.slot_dict_items_iter e.typeIs PySem.F.entry_dict_items_iter ?_ (PySem.F.args_dict_items_iter_1 _));unfold Builtin.«dict_items.__iter__»;refine wB (wP (wB ?_));unfold Builtin.Dict_items.dictOf;refine wB (ñ c h (x:=.ref d) rfl (wP (wB ?_)));unfold Builtin.Dict_items.newIterator;refine wB (ę ho a (wB (Ň ho a ?_)));have b:Builtin.Dict_items.ownsTuple "dict_itemiterator"=true:=by decide
 simp only[b,if_true]
 refine ć (wP ⟨_,rfl,"dict_itemiterator",_,⟨_,ã _ rfl,rfl⟩,PySem.F.slot_dict_itemiterator_next.lookup,?_⟩)
  (by simp only[sizeOk,Builtin.Dict_items.ownedTupleFields,sA0,lA,lC,ú,Ĕ];omega)
 simpa [rawInt,Builtin.Dict_items.ownedTupleFields]using hQ
def Ko{Q:Option ŋ->Ŋ->Prop}(K:IsItemIter s.heap it d i es.size ep ok ov)(U:s.heap.get? d=some od)(W:od.data=.dict es ep)(Z:i<es.size)
  (hQ: ∀h',IsItemIterOut h' it d (i+1) es.size ep es[i].key es[i].val ↑0->
   h'.get? ↑0=some {cls:=.type "tuple",data:=.seq #[es[i].key,es[i].val]}->h'.objs.size=↑0+1->
   (∀b o,b≠it->s.heap.get? b=some o->h'.get? b=some o)->Q (some (.ref ↑0)) {s with heap:=h'}):
  wpAny (model P w) A (pyNext (.ref it)) Q E s:=by
 obtain⟨H,g,dr,Y,X⟩:=s;have M:Shared.TypeIs ⟨H,g,dr,Y,X⟩ (.ref it) "dict_itemiterator":=⟨_,K,rfl⟩
 unfold pyNext
 refine wB (Ĉ (î (name:=Str.ofString "__next__") M PySem.F.slot_dict_itemiterator_next
  (ì PySem.F.slot_dict_itemiterator_next M PySem.F.entry_dict_itemiterator_next ?_ (PySem.F.args_dict_itemiterator_next_1 _))))
 refine wB (wP ?_);refine wB ?_;refine wB ?_
 first |refine wB (Ĩ M (wP ?_))|refine wB (ļ M (wP ?_))
 refine wB (wpAny_fieldsOf K rfl ?_);have T:Builtin.Dict_items.ownsTuple "dict_itemiterator"=true:=by decide
 simp only[T,if_true];show wpAny _ _ (if(Value.ref d==Value.none)=true then _ else _) _ _ _;rw[iN (show¬((Value.ref d==Value.none)=true)from xF0)];refine wB (wP ?_);refine wB (ę U W ?_);rw[iN (by simp)];refine wB (wP ?_);refine wB (Ň U W ?_);rw[iN (by simp)];refine wP ?_;simp only[show¬((i:Int)<0)from by omega,iF,Ď,Đ Z];refine wB ?_
 first |refine wB (Ĩ M (wP ?_))|refine wB (ļ M (wP ?_))
 refine wB (wpAny_isOneOf_itemiter M ?_);show wpAny _ _ (setField (.ref it) 3 (rawInt ((i:Int)+1)) >>= _) _ _ ⟨H,g,dr,Y,X⟩;refine wB (ô K (by simp) λa c n=>?_)
 replace n:Heap.SameBut it H a:=n
 replace c:IsItemIter a it d (i+1) es.size ep ok ov:=by
  have e:((i+1:Nat):Int)=(i:Int)+1:=by omega
  unfold IsItemIter;rw[e];simpa [rawInt]using c
 have u:Shared.TypeIs ⟨a,g,dr,Y,X⟩ (.ref it) "dict_itemiterator":=⟨_,c,rfl⟩
 refine wB (ù ?_);refine wB (wpAny_isOneOf_itemiter u ?_);refine wB (wpAny_isOneOf_itemiter u ?_);show wpAny _ _ (Builtin.Dict_items.pairFromOwner (.ref it) 6 es[i].key es[i].val) _ _ ⟨a,g,dr,Y,X⟩;unfold Builtin.Dict_items.pairFromOwner;refine wB (wpAny_newTuple ?_);have h:IsItemIter (a.push {cls:=.type "tuple",data:=.seq #[es[i].key,es[i].val]}) it d (i+1) es.size ep ok ov:=hP0 _ c;generalize q:a.push {cls:=.type "tuple",data:=.seq #[es[i].key,es[i].val]}=h₂ at h;have r:a.objs.size=H.objs.size:=n.1;have J:it<H.objs.size:=â K;have O:h₂.get? H.objs.size=some {cls:=.type "tuple",data:=.seq #[es[i].key,es[i].val]}:=by rw[<-q, <-r];exact ã _ rfl
 have L:h₂.objs.size=H.objs.size+1:=by rw[<-q,į,r]
 have S: ∀b o,b≠it->H.get? b=some o->h₂.get? b=some o:=λb o N e=>by rw[<-q];exact hP0 _ (n.extBut b o N e)
 show wpAny _ _ (Builtin.Dict_items.ownedTupleIsFree (.ref it) >>= _) _ _ ⟨h₂,g,dr,Y,X⟩;rw[r];clear q c n u r a;refine wB ?_;unfold Builtin.Dict_items.ownedTupleIsFree;refine wB (ñ h rfl (x:=.none) rfl (wP ?_));simp only[if_true];refine wB (ñ h rfl (x:=ok) rfl ?_);refine wB (ñ h rfl (x:=ov) rfl ?_);refine wB (ô h (by simp) λG y j=>?_)
 replace j:Heap.SameBut it h₂ G:=j
 replace y:IsItemIter G it d (i+1) es.size ep es[i].key ov:=y
 refine wB (ô y (by simp) λD z k=>?_)
 replace k:Heap.SameBut it G D:=k
 replace z:IsItemIter D it d (i+1) es.size ep es[i].key es[i].val:=z
 refine wB (ô z (by simp) λI v p=>?_)
 replace p:Heap.SameBut it D I:=p
 replace v:IsItemIterOut I it d (i+1) es.size ep es[i].key es[i].val H.objs.size:=v
 refine wB (ô v (by simp) λC B m=>?_)
 replace m:Heap.SameBut it I C:=m
 replace B:IsItemIterOut C it d (i+1) es.size ep es[i].key es[i].val H.objs.size:=B
 refine wB (wpAny_letGo (wP (wP ⟨_,rfl,wP (hQ C B ?_ ?_ ?_)⟩)))
 .exact m.extBut _ _ (ø J) (p.extBut _ _ (ø J) (k.extBut _ _ (ø J) (j.extBut _ _ (ø J) O)))
 .show C.objs.size=H.objs.size+1;rw[m.1,p.1,k.1,j.1,L]
 .exact λb o N e=>m.extBut b o N (p.extBut b o N (k.extBut b o N (j.extBut b o N (S b o N e))))
def Kp{Q:Option ŋ->Ŋ->Prop}(o:A.handled=none)(c:IsItemIter s.heap it d i es.size ep ok ov)(j:s.heap.get? d=some od)(k:od.data=.dict es ep)(n:es.size<=i)
  (hQ: ∀h',Heap.ExtBut it s.heap h'->Q none {s with heap:=h'}):wpAny (model P w) A (pyNext (.ref it)) Q E s:=by
 have e:s.TypeIs (.ref it) "dict_itemiterator":=⟨_,c,rfl⟩
 unfold pyNext
 refine wB (Ĉ (î (name:=Str.ofString "__next__") e PySem.F.slot_dict_itemiterator_next
  (ì PySem.F.slot_dict_itemiterator_next e PySem.F.entry_dict_itemiterator_next ?_ (PySem.F.args_dict_itemiterator_next_1 _))))
 refine wB (wP ?_);refine wB ?_;refine wB ?_
 first |refine wB (Ĩ e (wP ?_))|refine wB (ļ e (wP ?_))
 refine wB (wpAny_fieldsOf c rfl ?_);have h:Builtin.Dict_items.ownsTuple "dict_itemiterator"=true:=by decide
 simp only[h,if_true];show wpAny _ _ (if(Value.ref d==Value.none)=true then _ else _) _ _ s;rw[iN (show¬((Value.ref d==Value.none)=true)from xF0)];refine wB (wP ?_);refine wB (ę j k ?_);rw[iN (by simp)];refine wB (wP ?_);refine wB (Ň j k ?_);rw[iN (by simp)];refine wP ?_;simp only[show¬((i:Int)<0)from by omega,iF,Ď,Array.getElem?_eq_none n];refine wB ?_
 first |refine wB (Ĩ e (wP ?_))|refine wB (ļ e (wP ?_))
 show wpAny _ _ (setField (.ref it) 2 .none >>= _) _ _ s;refine wB (wpAny_setField c rfl (by simp) ?_);show wpAny _ _ (newExc (.type "StopIteration") [] >>= _) _ _ _;refine wB ?_;simp only[newExc,newTuple];refine wB (ć ?_ (by size_fits));refine wB (m:=firstArgMember _ _) (wpAny_of_eq (a:=Value.none) (by first |rfl|(simp only[firstArgMember];rfl)) ?_);refine ć ?_ (by size_fits);simp only[raiseNew];refine wB (wpAny_handled ?_);rw[show A.in1.handled=none from o];refine wB (wP (wpAny_throw ?_));refine wB (Ġ (T:="StopIteration") (b:=true) ⟨_,ã _ rfl,rfl⟩ isSubtype_stop ?_);exact wP (hQ _ (((ď ..).extBut.push _).push _))
end
section
variable{P:ō}{w:World}{A:Ō}{E:VP}{s:Ŋ}
def OU:entryFor table "dict_itemiterator.__iter__"=some Builtin.«dict_keyiterator.__iter__»:=
 entryFor_alias (id':="dict_keyiterator.__iter__") (by kernel_rfl) rfl (by decide+kernel) (by kernel_rfl)
def GQ{it:Addr}{Q:VP}(a:s.TypeIs (.ref it) "dict_itemiterator")(h:Q (.ref it) s):wpAny (model P w) A (pyIter (.ref it)) Q E s:=by refine wpAny_pyIter_slot a PySem.F.slot_dict_itemiterator_iter (ì PySem.F.slot_dict_itemiterator_iter a OU ?_ (PySem.F.args_dict_itemiterator_iter_1 _));show wpAny _ _ (ret (.ref it)) _ _ s;exact wP ⟨_,rfl,"dict_itemiterator",_,a,PySem.F.slot_dict_itemiterator_next.lookup,h⟩
end
noncomputable def Iti(P:ō)(w:World)(d:Addr)(o:Obj)(xs:List (NK×Addr×ŋ))(vs:List V):It:=
 ⟨λi H=>H d=some (.frz o (DN P w d xs))/\i<xs.length,
   λi H v H'=> ∃p x y,H p=none/\v=.ref p/\xs[i]? =some x/\vs[i]? =some y/\H'=xU H p (.tup [.ref x.2.1,y]),
   λi H=>H d=some (.frz o (DN P w d xs))/\xs.length<=i⟩
def SD{P:ō}{w:World}{K:B9}{elts:B8}{kt:Nat}{pt:Pos}{d it:Addr}{o:Obj}{es:Array DictEntry}{ep:Nat}{vs:List V}(hdat:o.data=.dict es ep)(hes:es.toList=xs.map (entryOfKey (zV P w)))(hvs:Vals vs (xs.map (·.2.2))):
  Turn P w K (.Tuple elts kt pt) (Iti P w d o xs vs) [it] it (λi h=> ∃ok ov,IsItemIter h it d i es.size ep ok ov) where
 mem:=by simp
 obj:=λi h ⟨ok,ov,st⟩ b hb=>by cases mS.mp hb;exact⟨_,st,λv q=>by cases q⟩
 keep:=λi h h' ⟨ok,ov,st⟩ k=>⟨ok,ov,k it (by simp) _ st⟩
 item:=by
  intro X hP hw hK hc i pins s σ H E I hf st hg;subst hP hw hK;obtain⟨hd,hi⟩:=hg;obtain⟨ok,ov,hit⟩:=st;obtain⟨hod,_⟩:=(show ObjOk X.prog X.w H s.heap d (.frz o (DN X.prog X.w d xs))from I.hok d _ hd)
  have hsz:es.size=xs.length:=by rw[<-í,hes,lM]
  have hlt:i<es.size:=by omega
  obtain⟨x,hx⟩: ∃x,xs[i]? =some x:=⟨_,gE hi⟩
  have he:es[i]=entryOfKey (zV X.prog X.w) x:=by have:=congrArg (·[i]?) hes;simp only[ò,ö,hx,Đ hlt,Option.map_some]at this;exact å this
  have hl:=hvs.length;rw[lM]at hl;obtain⟨y,hy⟩: ∃y,vs[i]? =some y:=⟨_,gE (by omega)⟩
  obtain⟨u,hu,ru⟩:=hvs.get hy;rw[ö,hx]at hu;cases hu;refine Ko hit hod hdat hlt λh' a1 a2 a3 a4=>⟨_,rfl,?_⟩
  refine wpAny_letOwnedTupleGo_items a1 λh2 z2 sb2=>?_
  replace a2:h'.get? ↑0=some {cls:=.type "tuple",data:=.seq #[.ref x.2.1,x.2.2]}:=by rw[a2,he];rfl
  have hpn:H ↑0=none:=I.hok.fresh (à _)
  have I0:Inv X pins σ (xU H ↑0 (.tup [.ref x.2.1,y])) {s with heap:=s.heap.push {cls:=.type "tuple",data:=.seq #[.ref x.2.1,x.2.2]}}:=
   I.laid (t':=s.toks) (o:=.tup [.ref x.2.1,y]) (λb o e=>hP0 _ e) (à _) ⟨by show 2<=sizeLine;decide,[.ref x.2.1,x.2.2],.cons rfl (.cons ru .nil),⟨_,ã _ rfl,rfl,_,rfl⟩⟩
  have lt:it<s.heap.objs.size:=â hit;have fr: ∀b∈[it],xU H ↑0 (.tup [.ref x.2.1,y]) b=none:=λb hb=>by cases mS.mp hb;rw[zH (ë lt)];exact(hf it hb).1
  have mv: ∀b o,b∉[it]->(s.heap.push {cls:=.type "tuple",data:=.seq #[.ref x.2.1,x.2.2]}).get? b=some o->h2.get? b=some o:=λb o hb e=>by
   rw[mS]at hb;refine sb2.extBut _ _ hb ?_;by_cases hbs:b=↑0
   .subst hbs;rw[ã _ rfl]at e;cases e;exact a2
   .rw[Heap.get?_push_ne _ _ _ hbs]at e;exact a4 b o hb e
  have I2:=I0.turnedL (h':=h2) (t':=s.toks) mv λb hb=>let ⟨_,c2,c3,c4,c5,c6⟩:=hf b hb;⟨fr b hb,c2,c3,c4,c5,c6⟩;exact⟨.ref ↑0,_,I2,rfl,⟨↑0,x,y,hpn,rfl,hx,hy,rfl⟩,⟨_,_,z2⟩,fr⟩
 done:=by
  intro X hP hw hK hc i pins s σ H E I hf st hg;subst hP hw hK;obtain⟨hd,hi⟩:=hg;obtain⟨ok,ov,hit⟩:=st;obtain⟨hod,_⟩:=(show ObjOk X.prog X.w H s.heap d (.frz o (DN X.prog X.w d xs))from I.hok d _ hd)
  have hsz:es.size=xs.length:=by rw[<-í,hes,lM]
  refine Kp (I.ok.hd hc) hit hod hdat (by omega) λh' he=>⟨rfl,?_⟩
  exact I.turnedL (h':=h') (t':=s.toks) (λb o hb e=>he b o (λz=>hb (by rw[z];simp)) e) hf
 self:=λ_ _ _ _ _ ⟨_,_,st⟩ h=>GQ ⟨_,st,rfl⟩ h
section
variable{X:Cx}{W:XW}{pins:B5}{σ:St}{H:Hp}{s:Ŋ}{α:A9}{o:Expr}{f:AX}{apos pos pt:Pos}{to:TE}{elts:B8}{kt:Nat}
def _root_.L2.Inv.freezeD{d:Addr}{ob:Obj}{kvs:C7}(I:↑2)(i:DD X H d xs)(dn:DenN X.K α H kvs xs)(ho:s.heap.get? d=some ob):Inv X pins σ (xU H d (.frz ob (DN X.prog X.w d xs))) s:=by
 obtain⟨⟨o',es,ep,k,L,hd,G,P,N⟩,E,hs⟩:=rA I i dn;have a: ∀j,H d≠some (.tup j):=λj e=>by rcases i with h|⟨_,h⟩<;>(rw[h]at e;cases e)
 have p: ∀b,H d≠some (.own b):=λb e=>by rcases i with h|⟨_,h⟩<;>(rw[h]at e;cases e)
 have m: ∀b,H d≠some (.tbl b):=λb e=>by rcases i with h|⟨_,h⟩<;>(rw[h]at e;cases e)
 have q:H d≠none:=λe=>by rcases i with h|⟨_,h⟩<;>(rw[h]at e;cases e)
 have ne: ∀{b:Addr}{v:HO},H b=some v->H d≠some v->b≠d:=λe n z=>n (z▸e);refine I.step (ch:=[]) (λ_ z=>nomatch z) (λb o _ _ _ e _=>e) (λb o _ _ _ e _=>⟨_,e⟩) (λb o _ e n=>?_) (λb o _ e=>⟨o,e⟩) (λb j e=>?_) (λb o u e=>?_) (λb ps e=>?_) (λ_ z=>z) (λb u e=>?_) I.bare
 .rw[zH (λz=>q (by rw[<-z];exact n))];exact n
 .rw[zH (ne e (a j))];exact e
 .rw[zH (ne e (i.nf o u))];exact e
 .exact⟨#[],by rw[zH (ne e (m ps)),e];simp⟩
 .by_cases B:b=d
  .subst B;rw[zT]at e;cases e;refine⟨ho,⟨E,hs,o',es,ep,k,L,hd,G,N⟩,⟨_,k⟩,?_⟩;rintro h1 O ⟨C,M,D,y,A,F,r⟩ J;exact⟨C,M,D,y,A,J _ F,r⟩
  .rw[zH B]at e;exact(I.hok b u e).stay (λ_ _ _ r=>r) (λc r=>by rw[zH (ne r (p b))];exact r) λc j r=>by rw[zH (ne r (a j))];exact r
noncomputable def BL(l d:Addr):HO:=.ext λh=>h.IsItemsView l d
def Co:Gp X "dict.items" (λx vs H Q=> ∃d xs,x=.ref d/\vs=[]/\DD X H d xs/\ ∀l,H l=none->Q (.ref l) (xU H l (BL l d))):=by
 intro pins s σ H x vs v us Q I j i h;obtain⟨d,xs,rfl,rfl,a,q⟩:=h;cases j;have:=i.zero;subst this;have c:s.TypeIs (.ref d) "dict":=(AD pins s σ H (.ref d) (.ref d) I rfl ⟨d,xs,rfl,a⟩).1
 have hs:(d==sysModules)=false:=by
  rcases a with h|⟨rfl,h⟩
  .obtain⟨⟨n,hs,_⟩,_⟩:=(show ObjOk X.prog X.w H s.heap d (DN X.prog X.w d xs)from I.hok d _ h)
   exact hs
  .obtain⟨_,hs,_⟩:=(show ObjOk X.prog X.w H s.heap d (.dK [])from I.hok d _ h)
   exact hs
 refine ì PySem.F.slot_dict_items c PySem.F.entry_dict_items ?_ (PySem.F.args_dict_items_1 _);refine wB ?_;unfold Builtin.Dict.noArgs;refine wB (Ģ c ?_);show wpAny _ _ (pure d) _ _ s;refine wP ?_;show wpAny _ _ (Builtin.Dict.showsAll d >>= _) _ _ s;unfold Builtin.Dict.showsAll;rw[iN (by rw[hs];exact xF0)];refine wB (wP ?_);refine wB (ć (wP ⟨_,rfl,.ref ↑0,_,I.laid (o:=BL ↑0 d) (t':=s.toks) (λb o e=>hP0 _ e) (à _) ⟨⟨_,ã _ rfl,rfl,rfl⟩,⟨_,ã _ rfl⟩,?_⟩,rfl,q _ (I.hok.fresh (à _))⟩));rintro h1 p ⟨o,m,r⟩ k;exact⟨o,k o m,r⟩
def qIts(X:Cx)(R:It->Hp->Prop)(x:V)(H:Hp):Prop:= ∃l d xs vs α kvs,x=.ref l/\H l=some (BL l d)/\DD X H d xs/\DenN X.K α H kvs xs/\Vals vs (xs.map (·.2.2))/\ ∀o,R (Iti X.prog X.w d o xs vs) (xU H d (.frz o (DN X.prog X.w d xs)))
def iIts(X:Cx)(to:TE):TI:=λσ H R=>to σ H λx H1=>TyD X x H1/\ ∃d xs,x=.ref d/\([]:List V)=[]/\DD X H1 d xs/\ ∀l,H1 l=none->qIts X R (.ref l) (xU H1 l (BL l d))
def Cp(ho:PE X o to)(i:attributeBase o "items" X.env (eval o X.env)=eval o X.env:=by rfl)(k:(apos.endLine==pos.line)=true:=by rfl):
  PI X (.Tuple elts kt pt) (.Call (.Attribute o "items" apos) [] [] pos) (iIts X to):=by
 intro pins s σ H R I h;refine jI (Ke AD PySem.F.plainAttrs_dict PySem.F.slot_dict_items PySem.F.type_dict_items Co ho i k pins s σ H _ I h) λv a ⟨x,H1,I1,A,p⟩=>?_;obtain⟨l,d,xs,vs,α,kvs,rfl,E,m,dn,G,q⟩:=p;cases A;obtain⟨j,_⟩:=(show ObjOk X.prog X.w H1 a.heap l (BL l d)from I1.hok l _ E)
 obtain⟨⟨od,es,ep,c,N,hd,B,L,O⟩,M,hs⟩:=rA I1 m dn;refine Cm j c hd ?_;have n: ∀b o,a.heap.get? b=some o->(a.heap.push {cls:=.type "dict_itemiterator",data:=.fields #[.none,.bool false,.ref d,.int 0 0,.int es.size 0,.int ep 0,.none,.none]}).get? b=some o:=λb o e=>hP0 _ e;have y:=(I1.kept (t':=a.toks) n).freezeD m dn (n d od c);refine⟨a.heap.objs.size,[a.heap.objs.size],_,_,_,rfl,y,SD hd B G,⟨_,_,ã _ rfl⟩,λb z=>?_,q od⟩;cases mS.mp z;have J:a.heap.objs.size≠d:=ø (â c);obtain⟨_,D,C,r,K,u⟩:=I1.fpOk (à _) (I1.hok.fresh (à a.heap.objs.size));exact⟨by rw[zH J];exact I1.hok.fresh (à _),D,C,r,K,u⟩
def YO(p:Er)(S:Sto):R Wk:=match bT S p with
 |some (l,kvs)=>.ok ⟨kvs.map λa=>.tup [a.1,a.2],[]⟩ (S.set l (.fdc kvs))
 |none=>.no
theorem DenN.at'{α:A9}{H:Hp}{K:B9}: ∀{kvs:C7}{xs:List (NK×Addr×ŋ)}{i:Nat}{b:MV×MV},DenN K α H kvs xs->kvs[i]? =some b-> ∃x,xs[i]? =some x/\Den K α H b.1 (.ref x.2.1)
 |_,_,0,_,.cons hk e a d r l,h=>by cases h;exact⟨_,rfl,a⟩
 |_,_,i+1,_,.cons hk e a d r l,h=>DenN.at' (i:=i) l h
def Cq(ho:zN X W o f)(a:attributeBase o "items" X.env (eval o X.env)=eval o X.env:=by rfl)(j:(apos.endLine==pos.line)=true:=by rfl):
  HN X W (.Tuple elts kt pt) (.Call (.Attribute o "items" apos) [] [] pos) (λρ S=>(f ρ S).bind YO):=by
 obtain⟨t,ho,k⟩:=ho;refine⟨_,Cp ho a j,λα ρ S σ H Rc wd sl q=>k α ρ S σ H _ wd sl (q.bind λu p S1 C H1 e1 x1 Q d1 n=>?_)⟩
 replace n:=n.shift x1
 unfold YO at n;split at n
 .rename_i l kvs ed;obtain⟨c,xs,rfl,r,hS,J,P⟩:=sV Q ed d1.1;obtain⟨vs,N,O⟩:=UR P;refine⟨⟨c,xs,rfl,J⟩,c,xs,rfl,rfl,J,λv I=>?_⟩;have F:=Q.newx (o:=BL v c) I;have U:=Q.new (o:=BL v c) I
  have d:DD X (xU H1 v (BL v c)) c xs:=by
   rcases J with h|⟨e,h⟩
   .exact .inl (by rw[zH (zP h I)];exact h)
   .exact .inr ⟨e,by rw[zH (zP h I)];exact h⟩
  refine⟨v,c,xs,vs,C,kvs,rfl,zT,d,P.ex0 F.toEx0,O,λob=>?_⟩;have L:=U.writex r d.nf (o:=.frz ob (DN X.prog X.w c xs));have A:=(P.ex0 F.toEx0).ex0 L.toEx0;have wf:=U.write r d.nf (o:=.frz ob (DN X.prog X.w c xs)) (ob:=.fdc kvs) ⟨ob,xs,zT,A⟩;refine((n.shift F).shift L).here (u:=Iti X.prog X.w c ob xs vs) wf ⟨λ(α:A9) (S:Sto) (H:Hp)=>H c=some (.frz ob (DN X.prog X.w c xs))/\DenN X.K α H kvs xs/\DenL X.K α H (kvs.map Prod.snd) vs,?_,⟨zT,A,(N.ext F).ext L⟩,λC S1 H1 M S2 H2 ⟨D,z,G⟩ x w _=>⟨x.frz _ _ _ D,z.ex0 x.toEx0,DenL.ext x G⟩,gU⟩;intro i M S2 H2 ⟨D,z,G⟩ Y;have T:=z.length;refine⟨λhi=>?_,λhi=>⟨D,by rw[lM]at hi;omega⟩⟩;rw[lM]at hi;refine⟨⟨D,by omega⟩,?_⟩;rintro _ _ ⟨p,x,y,Z,rfl,hx,hy,rfl⟩;obtain⟨E,b⟩: ∃E,kvs[i]? =some E:=⟨_,gE hi⟩
  obtain⟨x',B,dk⟩:=z.at' b;rw[hx]at B;cases B;obtain⟨y',s,dy⟩:=G.at (show(kvs.map Prod.snd)[i]? =some E.2 by rw[ö,b];rfl);rw[hy]at s;cases s;have m:=Y.newx (o:=.tup [.ref x.2.1,y]) Z;refine⟨m,Y.new Z,⟨m.frz _ _ _ D,z.ex0 m.toEx0,G.ext m⟩,.tup [E.1,E.2],by rw[ö,b];rfl,?_⟩;exact nP (.of zT) (zR (dk.ext m) (zR (dy.ext m) zX))
 .exact n.elim
end
end M
end L2
namespace PySem
def OV:typeLookup (.type "zip") "keys"=pure none:=am_miss_of_fast (by decide+kernel)
theorem rQ:typeLookup (.type "zip") "__getattr__"=pure none:=by rw[typeLookup_type,builtinLookup_eq_fast];kernel_rfl
def iA:entryFor table "zip.__getattribute__"=some Builtin.«object.__getattribute__»:=
 entryFor_alias (id':="object.__getattribute__") (by kernel_rfl) (by decide+kernel) (by decide+kernel) (by kernel_rfl)
def nS(a:Addr)(xs:A7)(sl:Array (Option ŋ))(name:Str)(u:Tok)(c:typeLookup (.type "zip") name=pure none)(b:(["__module__","__name__","__qualname__","__doc__","__annotations__"]:B0).contains name=false)(hsz:name.length+100<=sizeLine:=by size_fits):
  Meets (Builtin.«object.__getattribute__» ⟨[.ref a,.str name u],[]⟩) (λA R s=>s.heap.get? a=some {cls:=.type "zip",dict:=none,data:=.fields xs,slots:=sl}/\raisesAttr (.ref a) name A R s):=
 Meets.of_wp λprog w A R s hs=>by
  obtain⟨h,g,d,e,j⟩:=s;obtain⟨i,hs⟩:=hs;have k:(⟨h,g,d,e,j⟩:Ŋ).TypeIs (.ref a) "zip":=⟨_,i,rfl⟩
  unfold Builtin.«object.__getattribute__»
  repeat (any_goals (first |assumption|wp_step))
  simp only[b,fT,iF]
  repeat (any_goals (first |assumption|wp_step))
  exact wpAny_raiseAttrError hs.1 hs.2 (attrMsg_fits (by decide+kernel) hsz)
def getAttr?_miss_zip{prog:ō}{w:World}{A:Ō}{E:VP}{s:Ŋ}{a:Addr}{xs:A7}{sl:Array (Option ŋ)}{name:Str}{Q:Option ŋ->Ŋ->Prop}
  (hx:s.heap.get? a=some {cls:=.type "zip",dict:=none,data:=.fields xs,slots:=sl}) (hmiss:typeLookup (.type "zip") name=pure none) (hname:(["__module__","__name__","__qualname__","__doc__","__annotations__"]:B0).contains name=false) (hA:A.handled=none)
  (h: ∀h' j,(∀b o,s.heap.get? b=some o->h'.get? b=some o)->Q none {s with heap:=h',toks:=j}) (hsz:name.length+100<=sizeLine:=by size_fits):
  wpAny (model prog w) A (getAttr? (.ref a) name) Q E s:=by
 obtain⟨m,g,d,j,n⟩:=s;have k: ∀c,(⟨m,g,d,c,n⟩:Ŋ).TypeIs (.ref a) "zip":=λ_=>⟨_,hx,rfl⟩
 have v:=sub_AttributeError;have y:=F.slot_zip_getattribute.lookup;have p:=F.slot_zip_getattribute.bind (.ref a);have u:=rQ;unfold getAttr? getAttrBy? getAttrBy
 repeat (any_goals (first |assumption|exact k _|((with_reducible show wpAny _ _ (call (Value.builtin "zip.__getattribute__") _ _) _ _ _);refine Ĺ F.slot_zip_getattribute (k _) iA (F.args_zip_getattribute_2 _ _) (nS a xs sl name _ hmiss hname hsz) ⟨hx,hA,λh' c e i=>?_⟩)|wp_step))
 obtain⟨t',r,q⟩:=i.there;show wpAny _ _ (getattributeRaised _ _ _ _ _ _ _) _ _ _;unfold getattributeRaised
 repeat (any_goals (first |assumption|wp_step))
 exact h _ _ i.keeps
def OW{M:Model}{A:Ō}{E:VP}{s:Ŋ}{a:Addr}{Q:Option Obj->Ŋ->Prop}(h:Q (s.heap.get? a) s):wpAny M A (loadIfAlive a) Q E s:=λ_ _ _=>h
end PySem
namespace L2
namespace M
open PySem PySem.Spec PyProof.Rows
variable{kds:C1}{Q:Option ŋ->Ŋ->Prop}{ps:B0}
noncomputable def Kq(a b:ŋ)(TI TO:Addr):Obj:={cls:=.type "zip",dict:=none,data:=.fields #[a,b,.bool false,.ref TI,.ref TO],slots:=#[]}
structure ZipSt2(k1 k2:Bool)(z TI TO i1 i2 l1 l2:Addr)(i:Nat)(h:Heap):Prop where
 z: ∃T b,h.get? z=some (Kq (rawInt (T:Nat)) (.bool b) TI TO)/\T≠z/\T≠i1/\T≠i2/\ ∃o,h.get? T=some o
 ti:IsPair h TI (.ref i1) (.ref i2)
 s1:IsSub k1 h i1 l1 i
 s2:IsSub k2 h i2 l2 i
section
variable{prog:ō}{w:World}{A:Ō}{E:VP}{s:Ŋ}{k1 k2:Bool}{z TI TO i1 i2 l1 l2:Addr}{i:Nat}{xs ys:A7}
def OX{T:Addr}{b:Bool}{Q:Bool->Ŋ->Prop}(hz:s.heap.get? z=some (Kq (rawInt (T:Nat)) (.bool b) TI TO)){o:Obj}(d:s.heap.get? T=some o)
  (hQ: ∀h',h'.get? z=some (Kq (rawInt (T:Nat)) (.bool true) TI TO)->Heap.SameBut z s.heap h'->Q false {s with heap:=h'}):
  wpAny (model prog w) A (Builtin.SmallTypes.ownedTupleIsFree (.ref z)) Q E s:=by
 unfold Builtin.SmallTypes.ownedTupleIsFree;refine wB (ñ hz rfl (x:=rawInt (T:Nat)) rfl ?_);show wpAny _ _ (loadIfAlive T >>= _) _ _ _;refine wB (OW ?_);rw[d];show wpAny _ _ (field (.ref z) 1 >>= _) _ _ _;refine wB (ñ hz rfl (x:=.bool b) rfl ?_)
 cases b with
 |true=>
  refine wP (hQ s.heap hz ?_);exact⟨rfl,λ_ _=>rfl⟩
 |false=>
  show wpAny _ _ (setField (.ref z) 1 (.bool true) >>= _) _ _ _;exact wB (ô hz (by simp) λh' a c=>wP (hQ h' a c))
theorem YQ{x y:ŋ}{Q:VP}(D:Apart5 z TI TO i1 i2)(X:Off l1 z TO i1 i2)(K:Off l2 z TO i1 i2)(st:ZipSt2 k1 k2 z TI TO i1 i2 l1 l2 i s.heap)(p:IsSeq k1 s.heap l1 xs)(r:IsSeq k2 s.heap l2 ys)(hx:xs[i]? =some x)(hy:ys[i]? =some y)
  (hQ: ∀h',ZipSt2 k1 k2 z TI TO i1 i2 l1 l2 (i+1) h'->IsPair h' ↑0 x y->
   (∀c o,c≠z->c≠i1->c≠i2->s.heap.get? c=some o->h'.get? c=some o)->Q (.ref ↑0) {s with heap:=h'}):
  wpAny (model prog w) A (Builtin.«zip.__next__» ⟨[.ref z],[]⟩) (λfin s'=> ∃v,fin=.done (.ret v)/\Q v s') E s:=by
 obtain⟨⟨T,b,C,N,M,O,J,L⟩,k,h1,S⟩:=st;show wpAny _ _ (field (.ref z) 2 >>= _) _ _ _;refine wB (ñ C rfl (x:=.bool false) rfl ?_);show wpAny _ _ (field (.ref z) 3 >>= _) _ _ _;refine wB (ñ C rfl (x:=.ref TI) rfl (wB (č k rfl ?_)));show wpAny _ _ (Builtin.SmallTypes.ownedTupleIsFree (.ref z) >>= _) _ _ _;refine wB (OX C L λha q a=>?_);rw[iN xF0];simp only[forIn_toArray,forIn_cons,forIn_nil];refine wB (wB (wB (ù ?_)));show wpAny _ _ (Builtin.SmallTypes.nextOf (.ref i1) >>= _) _ _ _;refine wB (eH (h1.move λo e=>a.extBut _ _ D.i1z e) (p.move λo e=>a.extBut _ _ X.1 e) hx λY m j=>wP ?_);refine wP ?_;refine wB (wB (ù ?_));show wpAny _ _ (Builtin.SmallTypes.nextOf (.ref i2) >>= _) _ _ _;have G: ∀c o,c≠z->c≠i1->s.heap.get? c=some o->Y.get? c=some o:=λc o H u e=>j.extBut _ _ u (a.extBut _ _ H e);refine wB (eH (S.move λo e=>G _ o D.i2z D.i12.symm e) (r.move λo e=>G _ o K.1 K.2.2.1 e) hy λhd B d=>wP ?_);refine wP (wP ?_);have h: ∀c o,c≠z->c≠i1->c≠i2->s.heap.get? c=some o->hd.get? c=some o:=λc o H u n4 e=>d.extBut _ _ n4 (G c o H u e);have hsz:hd.objs.size=s.heap.objs.size:=by rw[d.1,j.1,a.1]
 refine wB (wpAny_newTuple (hsz:=by show 2<=sizeLine;decide) ?_);refine wP ⟨_,rfl,?_⟩;show Q (.ref hd.objs.size) _;have F:hd.get? z=some (Kq (rawInt (T:Nat)) (.bool true) TI TO):=d.extBut _ _ D.i2z.symm (j.extBut _ _ D.i1z.symm q)
 have I: ∀{n:Nat},n=↑0->hd.objs.size=n->Q (.ref n) {s with heap:=hd.push {cls:=.type "tuple",data:=.seq #[x,y]}}:=λ{n} U P=>by
  subst U;refine hQ _ ⟨⟨T,true,hP0 _ F,N,M,O,J,hP0 _ (h T J N M O L)⟩,hP0 _ (h TI _ D.TIz D.TIi1 D.TIi2 k),?_,?_⟩ ?_ λc o c1 Z W e=>hP0 _ (h c o c1 Z W e)
  .exact m.move λo e=>hP0 _ (d.extBut _ _ D.i12 e)
  .exact B.move λo e=>hP0 _ e
  .rw[<-P];exact ã _ rfl
 exact I hsz rfl
def Cr{Q:Fin->Ŋ->Prop}(G:A.handled=none)(D:Apart5 z TI TO i1 i2)(I:Off l1 z TO i1 i2)(H:Off l2 z TO i1 i2)(st:ZipSt2 k1 k2 z TI TO i1 i2 l1 l2 i s.heap)(j:IsSeq k1 s.heap l1 xs)(m:IsSeq k2 s.heap l2 ys)(k:xs[i]? =none\/ys[i]? =none)
  (hE: ∀h' e,(∀c o,c≠z->c≠i1->c≠i2->s.heap.get? c=some o->h'.get? c=some o)->(∃o,h'.get? e=some o/\o.cls=.type "StopIteration")->E (.ref e) {s with heap:=h'}):
  wpAny (model prog w) A (Builtin.«zip.__next__» ⟨[.ref z],[]⟩) Q E s:=by
 obtain⟨⟨T,b,p,Y,X,Z,U,O⟩,n,h1,K⟩:=st;show wpAny _ _ (field (.ref z) 2 >>= _) _ _ _;refine wB (ñ p rfl (x:=.bool false) rfl ?_);show wpAny _ _ (field (.ref z) 3 >>= _) _ _ _;refine wB (ñ p rfl (x:=.ref TI) rfl (wB (č n rfl ?_)));show wpAny _ _ (Builtin.SmallTypes.ownedTupleIsFree (.ref z) >>= _) _ _ _;refine wB (OX p O λW L a=>?_);rw[iN xF0];simp only[forIn_toArray,forIn_cons,forIn_nil];refine wB (wB (wB (ù ?_)));show wpAny _ _ (Builtin.SmallTypes.nextOf (.ref i1) >>= _) _ _ _
 cases C:xs[i]? with
 |none=>
  exact wB (tX G (h1.move λo e=>a.extBut _ _ D.i1z e) (j.move λo e=>a.extBut _ _ I.1 e) C λr e d u=>hE r e (λc o B v _ q=>d _ _ v (a.extBut _ _ B q)) u)
 |some x=>
  have S:ys[i]? =none:=by rcases k with h|h;(rw[C]at h;cases h);exact h
  refine wB (eH (h1.move λo e=>a.extBut _ _ D.i1z e) (j.move λo e=>a.extBut _ _ I.1 e) C λr J d=>wP ?_);refine wP ?_;refine wB (wB (ù ?_));show wpAny _ _ (Builtin.SmallTypes.nextOf (.ref i2) >>= _) _ _ _;have y: ∀c o,c≠z->c≠i1->s.heap.get? c=some o->r.get? c=some o:=λc o P N e=>d.extBut _ _ N (a.extBut _ _ P e);exact wB (tX G (K.move λo e=>y _ o D.i2z D.i12.symm e) (m.move λo e=>y _ o H.1 H.2.2.1 e) S λhd e F u=>hE hd e (λc o B v M q=>F _ _ M (y c o B v q)) u)
end
def ZSt(k1 k2:Bool)(z TI TO i1 i2 l1 l2:Addr)(i:Nat)(h:Heap):Prop:=ZipSt k1 k2 z TI TO i1 i2 l1 l2 i h\/ZipSt2 k1 k2 z TI TO i1 i2 l1 l2 i h
section
variable{prog:ō}{w:World}{A:Ō}{E:VP}{s:Ŋ}{k1 k2:Bool}{z TI TO i1 i2 l1 l2:Addr}{i:Nat}{xs ys:A7}
def Kr{x y:ŋ}(D:Apart5 z TI TO i1 i2)(r:Off l1 z TO i1 i2)(q:Off l2 z TO i1 i2)(st:ZSt k1 k2 z TI TO i1 i2 l1 l2 i s.heap)(a:IsSeq k1 s.heap l1 xs)(d:IsSeq k2 s.heap l2 ys)(p:xs[i]? =some x)(u:ys[i]? =some y)
  (hQ: ∀h',ZSt k1 k2 z TI TO i1 i2 l1 l2 (i+1) h'->IsPair h' ↑0 x y->(∀c o,c≠z->c≠TO->c≠i1->c≠i2->s.heap.get? c=some o->h'.get? c=some o)->Q (some (.ref ↑0)) {s with heap:=h'}):
  wpAny (model prog w) A (pyNext (.ref z)) Q E s:=by
 rcases st with st|st
 .have h:s.TypeIs (.ref z) "zip":=⟨_,st.z,rfl⟩
  have m:z<s.heap.objs.size:=â st.z;obtain⟨p1,I,_⟩:=st.s1.there;obtain⟨p2,g2,_⟩:=st.s2.there;unfold pyNext
  refine wB (Ĉ (î (name:=Str.ofString "__next__") h ĉ (ì ĉ h ľ
   (NW D r q st a d p u λh' j B k H n v=>wP (hQ h' (.inr ⟨⟨↑0,false,j,ø m,ø (â I),ø (â g2),_,n⟩,v TI _ D.TIz D.TITO D.TIi1 D.TIi2 st.ti,k,H⟩) n v)) (ķ _))))
 .obtain⟨T,b,m,_⟩:=st.z;have h:s.TypeIs (.ref z) "zip":=⟨_,m,rfl⟩
  unfold pyNext
  refine wB (Ĉ (î (name:=Str.ofString "__next__") h ĉ (ì ĉ h ľ
   (YQ D r q st a d p u λh' j B k=>wP (hQ h' (.inr j) B λc o G _ C F e=>k c o G C F e)) (ķ _))))
def Uh(q:A.handled=none)(D:Apart5 z TI TO i1 i2)(u:Off l1 z TO i1 i2)(r:Off l2 z TO i1 i2)(st:ZSt k1 k2 z TI TO i1 i2 l1 l2 i s.heap)(h:IsSeq k1 s.heap l1 xs)(j:IsSeq k2 s.heap l2 ys)(a:xs[i]? =none\/ys[i]? =none)
  (hQ: ∀h',(∀c o,c≠z->c≠TO->c≠i1->c≠i2->s.heap.get? c=some o->h'.get? c=some o)->Q none {s with heap:=h'}):
  wpAny (model prog w) A (pyNext (.ref z)) Q E s:=by
 rcases st with st|st
 .have k:s.TypeIs (.ref z) "zip":=⟨_,st.z,rfl⟩
  unfold pyNext
  refine wB (Ĉ (î (name:=Str.ofString "__next__") k ĉ (ì ĉ k ľ
   (TV q D u r st h j a λh' e n m=>?_) (ķ _))))
  obtain⟨o,p,d⟩:=m;exact wB (Ġ (T:="StopIteration") (b:=true) ⟨o,p,d⟩ isSubtype_stop (wP (hQ h' n)))
 .obtain⟨T,b,C,_⟩:=st.z;have k:s.TypeIs (.ref z) "zip":=⟨_,C,rfl⟩
  unfold pyNext
  refine wB (Ĉ (î (name:=Str.ofString "__next__") k ĉ (ì ĉ k ľ
   (Cr q D u r st h j a λh' e n m=>?_) (ķ _))))
  obtain⟨o,p,d⟩:=m;exact wB (Ġ (T:="StopIteration") (b:=true) ⟨o,p,d⟩ isSubtype_stop (wP (hQ h' λc o B _ v y e=>n c o B v y e)))
def ZSt.frame{h h':Heap}{d:Addr}(st:ZSt k1 k2 z TI TO i1 i2 l1 l2 i h)(hd:d≠z/\d≠TI/\d≠TO/\d≠i1/\d≠i2)(k: ∀b o,b≠d->h.get? b=some o->h'.get? b=some o)(q: ∃o,h'.get? d=some o):ZSt k1 k2 z TI TO i1 i2 l1 l2 i h':=by
 obtain⟨c,j,p,n,m⟩:=hd;rcases st with⟨hz,hTI,⟨a,b,hTO⟩,h1,h2⟩|⟨⟨T,b,hz,Tz,T1,T2,oT,hT⟩,hTI,h1,h2⟩
 .exact .inl ⟨k _ _ c.symm hz,k _ _ j.symm hTI,⟨a,b,k _ _ p.symm hTO⟩,h1.move λo e=>k _ o n.symm e,h2.move λo e=>k _ o m.symm e⟩
 .refine .inr ⟨⟨T,b,k _ _ c.symm hz,Tz,T1,T2,?_⟩,k _ _ j.symm hTI,h1.move λo e=>k _ o n.symm e,h2.move λo e=>k _ o m.symm e⟩;by_cases e:T=d
  .rw[e];exact q
  .exact⟨oT,k _ _ e hT⟩
end
section
variable{prog:ō}{w:World}{K:Type}[DecidableEq K]{knd:KeyKind prog w K}{A:Ō}{E:VP}{s:Ŋ}{R:Result->Ŋ->Prop}{k1 k2:Bool}{z TI TO i1 i2 l1 l2 D:Addr}{xs ys:A7}
def Kt(hh:A.in1.handled=none)(P:Apart5 z TI TO i1 i2)(o1:Off l1 z TO i1 i2)(o2:Off l2 z TO i1 i2)(hd:D≠z/\D≠TI/\D≠TO/\D≠i1/\D≠i2){h₀:Heap}(G:IsSeq k1 h₀ l1 xs)(I:IsSeq k2 h₀ l2 ys)(kvs:List (K×ŋ))(hz:kvs.length<=sizeLine)
  (hkv: ∀(i:Nat)(y:K×ŋ),kvs[i]? =some y-> ∃x,xs[i]? =some x/\ys[i]? =some y.2/\knd.is y.1 x=true) (hend:xs[kvs.length]? =none\/ys[kvs.length]? =none)
  (fz:h₀.get? z=none) (fTO:h₀.get? TO=none) (f1:h₀.get? i1=none) (f2:h₀.get? i2=none) (fD:h₀.get? D=none):
  ∀(k i:Nat)(j:Int)(s:Ŋ),kvs.length - i=k->i<=kvs.length->ZSt k1 k2 z TI TO i1 i2 l1 l2 i s.heap->s.heap.DictOf knd D (merged [] (kvs.take i))->(∀b o,h₀.get? b=some o->s.heap.get? b=some o)->
   (∀h' tk,(∀b o,h₀.get? b=some o->h'.get? b=some o)->h'.DictOf knd D (merged [] kvs)->R (.ok (.ret .none)) {s with heap:=h',toks:=tk})->
   codeAny (model prog w) A (.builtin "dict.update.loop" ⟨[.ref D,.ref z,rawInt j,.none],[]⟩) R s:=by
 have H: ∀{b c:Addr}{o:Obj},h₀.get? b=some o->h₀.get? c=none->b≠c:=λe n q=>by rw[q,n]at e;cases e
 have old: ∀{h h':Heap},(∀b o,h₀.get? b=some o->h.get? b=some o)->(∀c o,c≠z->c≠TO->c≠i1->c≠i2->h.get? c=some o->h'.get? c=some o)-> ∀b o,h₀.get? b=some o->h'.get? b=some o:=λa c b o e=>c b o (H e fz) (H e fTO) (H e f1) (H e f2) (a b o e);obtain⟨d1,d2,T,d4,d5⟩:=hd;have dk: ∀{h h':Heap}{m:List (K×ŋ)},h.DictOf knd D m->(∀c o,c≠z->c≠TO->c≠i1->c≠i2->h.get? c=some o->h'.get? c=some o)->h'.DictOf knd D m:=λ⟨o,es,ep,ho,r⟩ c=>⟨o,es,ep,c D o d1 T d4 d5 ho,r⟩
 intro k
 induction k with
 |zero=>
  intro i j s hk hi C S d Y;have U:i=kvs.length:=by omega
  subst U;refine ņ PySem.F.entry_dict_update_loop ?_;rw[ħ PySem.F.plain_dict_update_loop _];show wpAny _ A.in1 (pyNext (.ref z) >>= _) _ _ s;refine wB (Uh hh P o1 o2 C (G.move λo e=>d _ o e) (I.move λo e=>d _ o e) hend λh' p=>?_);show wpAny _ A.in1 (Builtin.Dict.addKeywords D [] >>= λ_=>ret Value.none) _ _ _;refine wB (wP ?_);rw[take_length]at S;exact wP (Y h' s.toks (old d p) (dk S p))
 |succ k ih=>
  intro i j s hk hi C S d Y;have O:i<kvs.length:=by omega
  obtain⟨y,B⟩: ∃y,kvs[i]? =some y:=⟨_,gE O⟩
  obtain⟨x,hx,hy,Q⟩:=hkv i y B;refine ņ PySem.F.entry_dict_update_loop ?_;rw[ħ PySem.F.plain_dict_update_loop _];show wpAny _ A.in1 (pyNext (.ref z) >>= _) _ _ s;refine wB (Kr P o1 o2 C (G.move λo e=>d _ o e) (I.move λo e=>d _ o e) hx hy λh' M N p=>?_);have u:=old d p;have Z:=dk S p;have X:Shared.TypeIs {s with heap:=h'} (.ref ↑0) "tuple":=⟨_,N,rfl⟩
  refine wB (ù ?_);refine wB (wpAny_tryCatch ?_);unfold Builtin.Dict.pairItems;refine wB (Ğ X ?_);rw[iP (by decide)];refine wB ?_;show wpAny _ _ (do match (<-load s.heap.objs.size).data with |.seq xs _=>pure (some xs)|_=>pure none) _ _ _;refine wB (wpAny_load N ?_);refine wP (wP ?_);show wpAny _ _ (holding [x,y.2] (dictSet D x y.2)) _ _ _;refine ù ?_;have J:=merged_length_le [] (kvs.take i);have aa:(kvs.take i).length<=kvs.length:=List.length_take_le' i kvs;refine wpAny_dictSet_pairs (s:={s with heap:=h'}) (hsz:=by rw[ú]at J;omega) Q Z λh2 L E=>?_;have v: ∀b o,h₀.get? b=some o->h2.get? b=some o:=λb o e=>by rw[E.2 b (H e fD)];exact u b o e
  refine wP ⟨plainId_quiet PySem.F.plain_dict_update_loop _,ih (i+1) (j+1) _ (by omega) O (M.frame ⟨d1,d2,T,d4,d5⟩ (λb o hb e=>by rw[E.2 b hb];exact e) ?_) ?_ v λh3 W k3 T=>Y h3 W k3 T⟩
  .obtain⟨o,_,_,ho,_⟩:=id L;exact⟨o,ho⟩
  .rw[merged_take_succ _ _ _ _ B];exact L
def GR{kvs:List (K×ŋ)}{Q:VP}(u:A.handled=none)(P:Apart5 z TI TO i1 i2)(N:Off l1 z TO i1 i2)(L:Off l2 z TO i1 i2)(st:ZipSt k1 k2 z TI TO i1 i2 l1 l2 0 s.heap){h₀:Heap}(j: ∀b o,h₀.get? b=some o->s.heap.get? b=some o)
  (hl1:IsSeq k1 h₀ l1 xs) (hl2:IsSeq k2 h₀ l2 ys) (hz:kvs.length<=sizeLine) (hkv: ∀(i:Nat)(C:K×ŋ),kvs[i]? =some C-> ∃x,xs[i]? =some x/\ys[i]? =some C.2/\knd.is C.1 x=true) (hend:xs[kvs.length]? =none\/ys[kvs.length]? =none)
  (fz:h₀.get? z=none) (fTO:h₀.get? TO=none) (f1:h₀.get? i1=none) (f2:h₀.get? i2=none)
  (h: ∀h' y,(∀b o,h₀.get? b=some o->h'.get? b=some o)->h'.DictOf knd ↑0 (merged [] kvs)->Q (.ref ↑0) {s with heap:=h',toks:=y}):
  wpAny (model prog w) A (call (.type "dict") [.ref z]) Q E s:=by
 refine callType_codes (Q₁:=λp d=>p=.ref ↑0/\d={s with heap:=s.heap.push {cls:=.type "dict",data:=.dict #[]}}) PySem.F.kt_called_dict (PySem.F.kt_typeCall_dict_1 _) PySem.F.entry_dict_init (kt_code_dict_new _ ⟨rfl,rfl⟩) ?_;rintro p d ⟨rfl,rfl⟩;have c:(s.heap.push {cls:=.type "dict",data:=.dict #[]}).DictOf knd ↑0 []:=Heap.DictOf.new s.heap;have r: ∀b o,s.heap.get? b=some o->(s.heap.push {cls:=.type "dict",data:=.dict #[]}).get? b=some o:=λb o e=>hP0 _ e;refine⟨c.typeIs,PySem.F.args_dict_init_2 _ _,?_⟩;unfold Builtin.«dict.__init__»;refine wB ?_;unfold Builtin.Dict.selfAndRest;refine wB (Ģ c.typeIs ?_);show wpAny _ _ (pure (↑0,[Value.ref z])) _ _ _;refine wP ?_;show wpAny _ _ (Builtin.Dict.updateFrom "dict.__init__" ↑0 (.ref z) [] .none) _ _ _;unfold Builtin.Dict.updateFrom;refine wB (Ğ (T:="zip") ⟨_,r _ _ st.z,rfl⟩ ?_);rw[iP (by decide)];refine wB (getAttr?_miss_zip (r _ _ st.z) OV (by decide+kernel) u (λh1 J k1=>?_) (by decide+kernel));rw[iP (show(none:Option ŋ).isNone=true from rfl)];refine wB (ĕ ?_);obtain⟨k,n,⟨a,b,q⟩,I,H⟩:=st;have m: ∀b o,s.heap.get? b=some o->h1.get? b=some o:=λb o e=>k1 b o (r b o e);refine wB (wpAny_pyIter_zip (m _ _ k) ?_);have ne: ∀{b:Addr}{o:Obj},s.heap.get? b=some o->↑0≠b:=λe=>ø (â e);obtain⟨p1,O,_⟩:=I.there;obtain⟨p2,g2,_⟩:=H.there;refine wP ⟨plainId_quiet PySem.F.plain_dict_update_loop _,Kt (knd:=knd) (h₀:=h₀) (D:=↑0) (by first |exact u|exact(show A.in1.in1.handled=none from u)) P N L ⟨ne k,ne n,ne q,ne O,ne g2⟩ hl1 hl2 kvs hz hkv hend fz fTO f1 f2 ?_ _ 0 0 _ rfl (zero_le _) (.inl ⟨m _ _ k,m _ _ n,⟨a,b,m _ _ q⟩,I.move λo e=>m _ o e,H.move λo e=>m _ o e⟩) ?_ (λb o e=>m b o (j b o e)) λh' y M B=>⟨rfl,h h' y M B⟩⟩
 .cases v:h₀.get? ↑0 with
  |none=>rfl
  |some G=>exact absurd (â (j _ _ v)) (ı _)
 .obtain⟨G,es,ep,v,rest⟩:=c;exact⟨G,es,ep,k1 _ _ v,rest⟩
end
section
variable{X:Cx}{W:XW}{α:A9}{H:Hp}{a b:Expr}{p1 p2 pos pos2:Pos}{ta:TA}{af:Rho->Sto->R (List Er)}
def tDZ(X:Cx)(ta:TA):TE:=λσ H Q=>ta σ H λvs H1=> ∃(k1 k2:Bool)(l1 l2:Addr)(us ws:List V)(ks:List Key),vs=[.ref l1,.ref l2]/\GB k1 X.K H1 l1 us/\GB k2 X.K H1 l2 ws/\us=ks.map kV/\X.calm=true/\ ∀d,H1 d=none->Q (.ref d) (xU H1 d (.dK (ON (ks.zip ws))))
theorem Cs(X:Cx): ∀{ks:List Key}{is b:A0}{ws:List V},Vals (ks.map kV) is->Vals ws b->KV (ks.zip ws) (ks.zip b)/\ ∀(i:Nat)(a:Key×ŋ),(ks.zip b)[i]? =some a-> ∃x,is[i]? =some x/\b[i]? =some a.2/\(xH X.prog X.w).is a.1 x=true
 |[],_,_,_,_,_=>⟨.nil,λi a h=>by simp at h⟩
 |k::ks,_,_,_,.cons r t,.nil=>⟨.nil,λi a h=>by simp at h⟩
 |k::ks,_,_,_,.cons r t,.cons r' t'=>by
  obtain⟨h1,c⟩:=Cs X (ks:=ks) t t';refine⟨.cons ⟨rfl,r'⟩ h1,λi a h=>?_⟩
  cases i with
  |zero=>cases h;exact⟨_,rfl,rfl,OM r⟩
  |succ i=>exact c i a h
def Ku(G:Gl X "dict")(Z:X.mg "dict"=none)(E:Gl X "zip")(C:X.mg "zip"=none)(W:PA X [a,b] ta)(hs:starEach [a,b] X.env=[(false,eval a X.env),(false,eval b X.env)]:=by rfl)(m:starEach [b] X.env=[(false,eval b X.env)]:=by rfl)
  (hz:starEach [.Call (.Name "zip" p2) [a,b] [] pos2] X.env=[(false,eval (.Call (.Name "zip" p2) [a,b] [] pos2) X.env)]:=by rfl):
  PE X (.Call (.Name "dict" p1) [.Call (.Name "zip" p2) [a,b] [] pos2] [] pos) (tDZ X ta):=by
 intro pins s σ H Q I h;refine Call_ (mQ I G Z KY (Č ?_ (by rw[hz];rfl) (by rfl)));rw[hz];show wpAny _ _ (spliced ((false,eval (.Call (.Name "zip" p2) [a,b] [] pos2) X.env)::[])) _ _ s;refine Calls.spliced_cons ?_;refine Call_ (mQ I E C Bn (Č (jI (W pos2 pins s σ H _ I h) λus c ⟨vs,H1,I1,r1,q1⟩=>?_) (by rw[hs,m]) (by rw[m];rfl)));obtain⟨k1,k2,l1,l2,U,ws,A,rfl,c1,S,rfl,Y,q⟩:=q1
 cases r1 with
 |cons r rr=>
  cases rr with
  |cons r' rr=>
   cases rr;cases r;cases r';obtain⟨its,M,p1,z1⟩:=I1.seqK c1;obtain⟨j,L,p2,z2⟩:=I1.seqK S;refine NY p1 p2 λh' st u=>Calls.spliced_nil ?_;obtain⟨O,e2⟩:=Cs X M L;have K:=M.length;have n2:=L.length;rw[lM]at K
   have lt: ∀{k:Bool}{l:Addr}{B:A7},IsSeq k c.heap l B->l<c.heap.objs.size:=λ{k} {l} {B} p=>by
    cases k with
    |true=>obtain⟨o,e,_⟩:=(p:c.heap.IsList l B);exact â e
    |false=>obtain⟨o,e,_⟩:=(p:c.heap.IsTuple l B);exact â e
   have v: ∀{l:Addr},l<c.heap.objs.size->Off l (c.heap.objs.size+4) (c.heap.objs.size+3) c.heap.objs.size (c.heap.objs.size+1):=λ{l} h=>by exact⟨ë (ç h (đ _ _)),ë (ç h (đ _ _)),ë h,ë (ç h (đ _ _))⟩
   have y: ∀n,c.heap.objs.size<=n->c.heap.get? n=none:=λn hn=>by
    cases G:c.heap.get? n with
    |none=>rfl
    |some oo=>exact absurd (â G) (Nat.not_lt.mpr hn)
   have d:c.heap.objs.size<=h'.objs.size:=by have:=â st.z;have h4:c.heap.objs.size+4<h'.objs.size:=this;omega
   refine GR (knd:=xH X.prog X.w) (kvs:=A.zip j) (s:={c with heap:=h'}) (I1.ok.hd Y) (apart_new _) (v (lt p1)) (v (lt p2)) st u p1 p2 (by rw[Ļ];omega) (λi kv hi=>?_) ?_ (y _ (đ _ _)) (y _ (đ _ _)) (y _ (à _)) (y _ (đ _ _)) λN tk D F=>?_
   .obtain⟨x,P,g2,g3⟩:=e2 i kv hi;exact⟨x,by simpa using P,by simpa using g2,g3⟩
   .rw[Ļ];by_cases J:A.length<=j.length
    .left;rw[min_eq_left J,K];simp
    .right;rw[min_eq_right (by omega)];simp
   .have T:=YK (A.zip ws);rw[Ļ]at T;refine⟨.ref h'.objs.size,_,I1.laid (t':=tk) D d (show ObjOk X.prog X.w _ N _ (.dK (ON (A.zip ws)))from⟨by omega,ŀ.mpr (Ne.symm (ë (ç (KF I1) d))),_,US O .nil,F⟩),rfl,q _ (I1.hok.fresh d)⟩
def Ui:List Er->Sto->R Er
 |[p,q],S=>match srcOf S p with
  |some a=>match srcOf S q with
   |some b=>if a.ds.all tD=true then .ok (.val (.loc S.length)) (S++[.dic (OO (a.ds.zip b.ds))])else .no
   |none=>.no
  |none=>.no
 |_,_=>.no
theorem OY: ∀{ds:C1}{us:List V},ds.all tD=true->DenL X.K α H ds us-> ∃b:List Key,us=b.map kV/\ ∀{es:C1}{ws:List V},DenL X.K α H es ws->DenK X.K α H (ds.zip es) (b.zip ws)
 |[],us,_,l=>⟨[],by rw[l.isnil];rfl,λ_=>.nil⟩
 |d::ds,us,h,l=>by
  obtain⟨v,r,rfl,i,j⟩:=l.uncons;rw[List.all_cons,aE]at h;obtain⟨c,a⟩:=ï.mp h.1;obtain⟨b,rfl,f⟩:=OY h.2 j;refine⟨c::b,by rw[YG (X:=X) a i];rfl,λ{es} {ws} le=>?_⟩
  cases es with
  |nil=>rw[le.isnil];exact .nil
  |cons e es=>
   obtain⟨m,n,rfl,k,l2⟩:=le.uncons;exact .cons (YF a) k (f l2)
def Kv(T:X.calm=true)(M:Gl X "dict")(U:X.mg "dict"=none)(n:Gl X "zip")(j:X.mg "zip"=none)(s:CS X W [a,b] af)(hs:starEach [a,b] X.env=[(false,eval a X.env),(false,eval b X.env)]:=by rfl)(h:starEach [b] X.env=[(false,eval b X.env)]:=by rfl)
  (hz:starEach [.Call (.Name "zip" p2) [a,b] [] pos2] X.env=[(false,eval (.Call (.Name "zip" p2) [a,b] [] pos2) X.env)]:=by rfl):
  zN X W (.Call (.Name "dict" p1) [.Call (.Name "zip" p2) [a,b] [] pos2] [] pos) (λρ S=>(af ρ S).bind Ui):=by
 obtain⟨t,s,k⟩:=s;refine⟨_,Ku M U n j s hs h hz,λα ρ S σ H Q E sl q=>k α ρ S σ H _ E sl (q.bind λvs rs S1 r H1 e O d D c=>?_)⟩
 replace c:=c.shift O
 unfold Ui at c;split at c
 .rename_i r1 r2;split at c
  .rename_i A C;split at c
   .rename_i y B;split at c
    .rename_i F;obtain⟨u,v,rfl,G,P⟩:=Mz D;obtain⟨l1,P1,rfl,p1,Z⟩:=vX d C G;obtain⟨l2,P2,rfl,p2,I⟩:=vX d B P;obtain⟨us,L,g2⟩:=Z.get _ _ _ p1;obtain⟨ws,Y,J⟩:=I.get _ _ _ p2;obtain⟨i,rfl,f⟩:=OY F g2;have K:=f J;refine⟨A.k,y.k,l1,l2,_,ws,i,rfl,L,Y,rfl,T,λp z=>?_⟩;have w:=d.newx (o:=.dK (ON (i.zip ws))) z;obtain⟨x,N⟩:=d.put (ho:=.dK (ON (i.zip ws))) (m:=.dic (OO (A.ds.zip y.ds))) z (.inl ⟨_,zT,(AH K .nil).ex0 ⟨⟨[p],rfl⟩,w.tup,w.frz⟩⟩);exact c (.ref p) (r++[p]) _ x N (DenE.val (mV (by rw[<-d.len,æ (à _),sub_self];rfl)))
    .exact c.elim
   .exact c.elim
  .exact c.elim
 .exact c.elim
end
section
open PySem.SeqAt
open PySem.AutoSeq1 (wpAny_loadPart')
open PySem.MeetsSeq PySem.MeetsSeq2 PySem.MeetsSeq3
def YR(l b:Addr)(items a:A7)(n L:Nat)(G z:Option Addr)(sl D:Array (Option ŋ))(v:Bool)(k:Nat):
  ∀i:Nat,items.size - i=k->i<=items.size->i<=a.size->Meets (Builtin.«list.__eq__.loop» ⟨[.ref l,.ref b,rawInt i,rawInt 0],[]⟩)
   (λA R s=>s.heap.get? l=some {cls:=.type "list",dict:=G,data:=.seq items n,slots:=sl}/\s.heap.get? b=some {cls:=.type "list",dict:=z,data:=.seq a L,slots:=D}/\
    LexR A.in1 s (items.toList.drop i) (a.toList.drop i) v/\R (.ok (.ret (.bool v))) s):=by
 induction k with
 |zero=>
  intro i H h1 F prog w A R s h;obtain⟨K,g,d,J,I⟩:=s;obtain⟨q,o,m,h⟩:=h
  wp_walk using ÿ q,ÿ o
  have j:items[((i:Nat):Int).toNat]? =none:=by simp;omega
  have hd:items.toList.drop i=[]:=by simp;omega
  rw[hd]at m
  have C:v=decide (items.size<a.size):=by
   generalize E:a.toList.drop i=zs at m;have c:=congrArg List.length E;rw[þ,í]at c
   cases m with
   |nn=>simp only[ú]at c;exact(dF0 (by omega)).symm
   |nc x xs=>simp only[lC]at c;exact(dT0 (by omega)).symm
  rw[C]at h;rw[j]
  cases e:a[((i:Nat):Int).toNat]? with
  |none=>
   wp_walk using ÿ q,ÿ o
   exact h
  |some y=>
   wp_walk using ÿ q,ÿ o
   exact h
 |succ k ih=>
  intro i H h1 F prog w A R s h;obtain⟨K,g,d,J,I⟩:=s;obtain⟨q,o,m,h⟩:=h
  wp_walk using ÿ q,ÿ o
  have u:i<items.size:=by omega
  have j:items[((i:Nat):Int).toNat]? =some items[i]:=by simp[u]
  have hd:items.toList.drop i=items[i]::items.toList.drop (i+1):=by rw[Ħ (by simpa using u)];simp
  have M:((i:Int)+1)=((i+1:Nat):Int):=by push_cast;rfl
  rw[hd]at m;by_cases p:i<a.size
  .have e:a[((i:Nat):Int).toNat]? =some a[i]:=by simp[p]
   have r:a.toList.drop i=a[i]::a.toList.drop (i+1):=by rw[Ħ (by simpa using p)];simp
   rw[r]at m;rw[j,e]
   cases m with
   |eq he hr=>
    refine wB (he prog w _ _ ?_)
    wp_walk
    rw[M];exact⟨plainId_quiet plain_eq_loop _,ņ entry_eq_loop (by rw[ħ plain_eq_loop _];exact ih (i+1) (by omega) (by omega) (by omega) prog w A R _ ⟨q,o,hr,h⟩)⟩
   |ne he hr=>
    refine wB (he prog w _ _ ?_);have B:=hr prog w
    wp_walk using ÿ q,ÿ o
    rw[j,e]
    wp_walk using B
    exact h
  .have e:a[((i:Nat):Int).toNat]? =none:=by simp;omega
   have r:a.toList.drop i=[]:=by simp;omega
   rw[r]at m;cases m;have C:decide (items.size<a.size)=false:=dF0 (by omega);rw[<-C]at h;rw[j,e]
   wp_walk using ÿ q,ÿ o
   exact h
def YS(l b:Addr)(items a:A7)(n m:Nat)(j e:Option Addr)(sl c:Array (Option ŋ))(i:Bool):
  Meets (Builtin.«list.__lt__» ⟨[.ref l,.ref b],[]⟩)
   (λA R s=>s.heap.get? l=some {cls:=.type "list",dict:=j,data:=.seq items n,slots:=sl}/\s.heap.get? b=some {cls:=.type "list",dict:=e,data:=.seq a m,slots:=c}/\
    LexR A.in1 s items.toList a.toList i/\R (.ok (.ret (.bool i))) s):=by
 intro prog w A R s h;obtain⟨r,g,d,q,v⟩:=s;obtain⟨k,o,p,h⟩:=h;have u:=AutoSeq1.sub_list_list
 wp_walk using ÿ k,ÿ o
 exact⟨plainId_quiet plain_eq_loop _,ņ entry_eq_loop (by rw[ħ plain_eq_loop _];exact YR l b items a n m j e sl c i _ 0 rfl (zero_le _) (zero_le _) prog w A R _ ⟨k,o,by simpa using p,h⟩)⟩
end
def LstAt(h:Heap)(a:Addr)(its:A0):Prop:= ∃o n,h.get? a=some o/\o.cls=.type "list"/\o.data=.seq its.toArray n
section
variable{A:Ō}{E:VP}{s:Ŋ}
def Ct{M:Model}{b:A0}(m:b≠[])(h: ∀x,x∈b-> ∃a its,x=.ref a/\LstAt s.heap a its):
  wpAny M A (keyKind' b.toArray) (λk s'=>s'=s/\k=oneType') E s:=by
 rw[keyKind'_eq];refine wB (û (Srt.wp_mapMA (g:=λ_=>(none:Option ŋ)) λx j=>?_) (λr s' d=>?_) λ_ _ e=>e)
 .obtain⟨a,its,rfl,o,n,h1,i,p⟩:=h x j;rw[Srt.firstOfTuple'_eq];refine wB (Ğ (T:="list") ⟨o,h1,i⟩ ?_);rw[iP (by decide)];exact wP ⟨rfl,rfl⟩
 .obtain⟨rfl,rfl⟩:=d
  match b,m,h with
  |x::l,m,h=>
   rw[iN (by simp),iN (by simp)];rw[oneTypeOnly'_eq];refine wB (wB (û (Srt.wp_mapMA (g:=λ_=>Value.type "list") λx j=>?_) (λr s' d=>?_) λ_ _ e=>e))
   .obtain⟨a,its,rfl,o,n,h1,i,p⟩:=h x j;exact Ğ (T:="list") ⟨o,h1,i⟩ ⟨rfl,rfl⟩
   .obtain⟨rfl,rfl⟩:=d;have q:(List.map (λ_=>Value.type "list") (x::l)).toArray[0]? =some (Value.type "list"):=by simp
    have c:((List.map (λ_=>Value.type "list") (x::l)).toArray.all λx=>x==Value.type "list")=true:=by simp only[all_toArray,all_map,ą];intro _ _;rfl
    rw[q];dsimp only;rw[c];exact wP (wP ⟨rfl,rfl⟩)
def YT{prog:ō}{w:World}{l b:Addr}{its a:A0}{k:Bool}{Q:Bool->Ŋ->Prop}(D:A.units+2<cLine)(z:LstAt s.heap l its)(r:LstAt s.heap b a)(C:LexR A.in1 s its a k)(y:Q k s):
  wpAny (model prog w) A (keyLt' oneType' (.ref l) (.ref b)) Q E s:=by
 obtain⟨⟨u,v,q,sl⟩,n,j,p,hd⟩:=z;obtain⟨⟨o,e,m,i⟩,B,h,c,d⟩:=r;simp only at p hd c d;subst p hd c d;rw[keyLt'_oneType,oneLt'_eq];simp only[if_true];refine wB (wpAny_cRoomFor (by omega) ?_);refine wB (wpAny_callSpecialIfBound?_slot ⟨_,j,rfl⟩ PySem.F.slot_list_lt (Ĺ PySem.F.slot_list_lt ⟨_,j,rfl⟩ PySem.F.entry_list_lt (PySem.F.args_list_lt_2 _ _) (YS l b _ _ n B v e sl i k) ⟨j,h,C,?_⟩));exact Ķ y
end
def KX(l:Bool)(K:B9)(α:A9)(H:Hp)(d:MV)(v:V):Prop:=if l=true then∃es a vs,d=.tup es/\v=.ref a/\H a=some (.lst vs)/\a∉α/\DenL K α H es vs else Den K α H d v
inductive KXL(l:Bool)(K:B9)(α:A9)(H:Hp):List MV->List V->Prop
 |nil:KXL l K α H [] []
 |cons {d v ds vs}:KX l K α H d v->KXL l K α H ds vs->KXL l K α H (d::ds) (v::vs)
noncomputable def YU(l:Bool)(d:MV):Er:=if l=true then(match d with |.tup es=>.new es|d=>.val d)else .val d
def Fn(l b:Bool)(d:MV):Prop:=if l=true then∃es,d=.tup es else KindD b d
abbrev UT(l b:Bool):SortKind:=if l=true then oneType' else Cc b
section
variable{l:Bool}{K:B9}{α:A9}{H H':Hp}
def KX.ext(x:Ext α H α H'){d:MV}{v:V}(h:KX l K α H d v):KX l K α H' d v:=by
 cases l with
 |true=>obtain⟨es,a,vs,c,b,h,n,l⟩:=h;exact⟨es,a,vs,c,b,x.keep a _ h n,n,DenL.ext x l⟩
 |false=>exact Den.ext x h
theorem KXL.ext(x:Ext α H α H'): ∀{ds:C1}{vs:List V},KXL l K α H ds vs->KXL l K α H' ds vs
 |_,_,.nil=>.nil
 |_,_,.cons h t=>.cons (h.ext x) (KXL.ext x t)
theorem KXL.length: ∀{ds:C1}{vs:List V},KXL l K α H ds vs->vs.length=ds.length
 |_,_,.nil=>rfl
 |_,_,.cons h t=>by rw[lC,lC,KXL.length t]
theorem KXL.append: ∀{ds es:C1}{vs us:List V},KXL l K α H ds vs->KXL l K α H es us->KXL l K α H (ds++es) (vs++us)
 |_,_,_,_,.nil,h=>h
 |_,_,_,_,.cons a t,h=>.cons a (KXL.append t h)
theorem KXL.at: ∀{ds:C1}{vs:List V}{i:Nat}{d:MV},KXL l K α H ds vs->ds[i]? =some d-> ∃v,vs[i]? =some v/\KX l K α H d v
 |_,_,0,_,.cons h t,e=>by cases e;exact⟨_,rfl,h⟩
 |_,_,i+1,_,.cons h t,e=>KXL.at (i:=i) t e
theorem KXL.get: ∀{ds:C1}{vs:List V}{i:Nat}{v:V},KXL l K α H ds vs->vs[i]? =some v-> ∃d,ds[i]? =some d/\KX l K α H d v
 |_,_,0,_,.cons h t,e=>by cases e;exact⟨_,rfl,h⟩
 |_,_,i+1,_,.cons h t,e=>KXL.get (i:=i) t e
def KXL.den: ∀{ds:C1}{vs:List V},KXL false K α H ds vs->DenL K α H ds vs
 |_,_,.nil=>zX
 |_,_,.cons h t=>zR h t.den
def Uj{b:Bool}{d:MV}{u:V}(k:Fn l b d)(h:DenX K α H (YU l d) u):KX l K α H d u:=by
 cases l with
 |true=>obtain⟨es,rfl⟩:=k;obtain⟨b,vs,e,h,n,l⟩:=h;exact⟨es,b,vs,rfl,e,h,n,l⟩
 |false=>exact h
end
section
variable{X:Cx}{l b:Bool}{α:A9}{S:Sto}{H:Hp}{pins:B5}{σ:St}{s:Ŋ}{k:Nat}{fa:Addr}{fd:FuncData}{ps:B0}{Fd:List MV->Sto->R Er}
structure LpX(l:Bool)(X:Cx)(pins:B5)(σ:St)(α:A9)(S:Sto)(H:Hp)(L KS:Addr)(e1:Nat)(kds:C1)(m:Nat)(s':Ŋ):Prop where
 go: ∃(H':Hp)(ks:A0)(n:Nat)(kvs:List V),Inv X pins σ H' s'/\Ext α H α H'/\Wd X.g α S H'/\s'.heap.get? L=some (seqObj "list" #[] e1)/\s'.heap.get? KS=some (seqObj "list" ks.toArray n)/\H' L=none/\H' KS=none/\
  Vals kvs ks/\KXL l X.K α H' (kds.take m) kvs
def Cu(F:FnOk X.prog X.w X.K X.mg X.base DT k fa fd ps (RD X.g 1 Fd))(hr:Room (k+2) X.A)(i:Binds X.K fd ps []){L c:Addr}{C:Nat}{ds:C1}{xs:List V}{its:A0}(T:L≠c)
  (fL: ∀H',H' L=none->pP X pins H' L) (fK: ∀H',H' c=none->pP X pins H' c) (dl:DenL X.K α H ds xs) (rv:Vals xs its) (hlen:ds.length<128) (hkl:kds.length=ds.length)
  (hk: ∀(m:Nat) d kd,ds[m]? =some d->kds[m]? =some kd->zK 1 Fd [.val d] S=.ok (YU l kd) S) (hkind: ∀d,d∈kds->Fn l b d) {m:Nat} {x:ŋ} (hx:its[m]? =some x) {A':A7} {E':VP} {P:ForInStep PUnit->Ŋ->Prop}
  (h:LpX l X pins σ α S H L c C kds m s) (hp: ∀s',LpX l X pins σ α S H L c C kds (m+1) s'->P (.yield ⟨⟩) s'):wpAny (model X.prog X.w) X.A.in1.in1 (Srt.kStep L fa A' (.ref c) x) P E' s:=by
 obtain⟨H',q,n,kvs,I,xt,Z,gL,gK,nL,nK,vk,dk⟩:=h.go;have hm:m<xs.length:=by rw[rv.length];exact(gS.mp hx).1
 obtain⟨O,r⟩: ∃O,xs[m]? =some O:=⟨xs[m],gE hm⟩
 obtain⟨x',y,rx⟩:=rv.get r;rw[hx]at y;cases y;obtain⟨d,hd,dd⟩:=dl.get r;obtain⟨kd,p⟩: ∃kd,kds[m]? =some kd:=⟨kds[m]'(by rw[hkl, <-dl.length];exact hm),gE _⟩
 have hc:=hk m d kd hd p
 have I2:=I.pinned (fp:=[L,c]) (λb i=>by
  rcases mC.mp i with rfl|i
  .exact fL _ nL
  .rw[mS.mp i];exact fK _ nK) (λb i=>by
  rcases mC.mp i with rfl|i
  .exact⟨_,gL,λv z=>by cases z⟩
  .rw[mS.mp i];exact⟨_,gK,λv z=>by cases z⟩)
 have pl:sM [L,c] s.heap=[(L,seqObj "list" #[] C),(c,seqObj "list" q.toArray n)]:=by unfold sM;simp[gL,gK]
 rw[pl]at I2;unfold Srt.kStep;refine wB (Ĉ (û (Ka (Q:=λu j=> ∃a,Ext α H' a j/\Wd X.g a S j/\KX l X.K a j kd u) F hr i I2 (us:=[x]) (vs:=[O]) (.cons rx .nil) ?_) (λu s2 h2=>?_) λ_ _ e=>e))
 .refine HQ (W:=W0) (Ext.refl α H') Z (rs:=[.val d]) (.cons (DenE.val (dd.ext xt)) (λds b e=>by cases e) .nil) ?_;rw[hc];exact λu a j B E N=>⟨a,B,E,Uj (hkind kd (è p)) N.1⟩
 .obtain⟨v,j,J,U,a,B,E,N⟩:=h2;have G:=Tj Z B E;subst G;have pL:=J.pin (L,seqObj "list" #[] C) (by simp);have D:=J.pin (c,seqObj "list" q.toArray n) (by simp);have I4:=J.unpinned;dsimp only;have kl:q.length<128:=by rw[<-vk.length,dk.length,lT];omega
  refine wB (listUpdate_at D.1 rfl ?_ (by rw[sA0];have:=Ĕ;omega) (by rw[ĝ,sA0];have:=Ĕ;omega));obtain⟨M,Y⟩: ∃M,(s2.heap.update c (Obj.mapSeq λv=>v.push u)).get? c=some (seqObj "list" (q++[u]).toArray M):=⟨_,by have:=get?_update_seq D.1 (λv=>v.push u);rw[List.push_toArray]at this;exact this⟩
  refine wP (hp _ ⟨j,q++[u],M,kvs++[v],?_,xt.trans B,E,?_,Y,pL.2.1,D.2.1,vk.append (.cons U .nil),?_⟩)
  .obtain⟨f0,f1,f2,f3,f4,f5⟩:=fK j D.2.1;exact I4.turned (t':=s2.toks) (λb o i e=>(ý _ _ (Ne.symm i)).trans e) f0 f1 f3 f4 f5
  .exact(ý _ _ (Ne.symm T)).trans pL.1
  .rw[List.take_succ,p];exact(KXL.ext B dk).append (.cons N .nil)
def Cv{es:C1}(h:gW (.tup es)=true):uE es=true:=by unfold gW at h;exact h
def Uk(I:↑2){d b:MV}{v:V}(p:gW d=true)(i:gW b=true)(h:KX l X.K α H d v)(h':KX l X.K α H b v):d=b:=by
 cases l with
 |true=>
  obtain⟨es,a,vs,rfl,rfl,h1,_,l1⟩:=h;obtain⟨k,m,j,rfl,e,c,_,l2⟩:=h';cases e;rw[h1]at c;cases c;rw[ES I (Cv p) (Cv i) l1 l2]
 |false=>exact UP I p i h h'
def SE(I:↑2){a:Addr}{vs:List V}(h:H a=some (.lst vs)): ∃its,Vals vs its/\LstAt s.heap a its:=by obtain⟨its,r,⟨o,n,d,c,hd,b⟩,z⟩:=I.list (.of h:SqL X.K H a vs);exact⟨its,r,o,n,d,c,b⟩
def Kw(I:↑2)(j:Wd X.g α S H){A:Ō}(C:A.units+64<cLine){d f:MV}{x y:V}{u v:ŋ}{k:Bool}(kd:Fn l b d)(F:Fn l b f)(h1:KX l X.K α H d x)(o:KX l X.K α H f y)(r:RelV x u)(q:RelV y v)
  (h:vH S zG d f=some k) (prog:ō) (w:World) (E:VP) (Q:Bool->Ŋ->Prop) (hq:Q k s):wpAny (model prog w) A (keyLt' (UT l b) u v) Q E s:=by
 cases l with
 |false=>exact Jz I j C kd F h1 o r q h prog w E Q hq
 |true=>
  obtain⟨es,a,vs,rfl,rfl,D,_,l1⟩:=h1;obtain⟨m,M,z,rfl,rfl,g2,_,l2⟩:=o;cases r;cases q;obtain⟨its,B,L⟩:=SE I D;obtain⟨p,J,G⟩:=SE I g2;have h':tU (eqv S 39) (vH S 39) es m=some k:=h;have i:A.in1.units+39<cLine:=by show A.units+1+39<cLine;omega
  exact YT (by omega) L G (TN (λd f x y u v k a b c n e=>vS I j 39 A.in1 d f x y u v k i a b c n e) (λd f x y u v k a b c n e=>JU I j 39 A.in1 d f x y u v k i a b c n e) l1 l2 B J h') hq
def KZ(l:Bool)(K:B9)(α:A9)(H:Hp)(kds:C1)(u:ŋ):MV:=
 open Classical in if h: ∃d v,d∈kds/\KX l K α H d v/\RelV v u then Classical.choose h else kds.headD .non
def Vz(l:Bool)(K:B9)(α:A9)(H:Hp)(S:Sto)(kds:C1)(p q:Keyed):Bool:=(vH S zG (KZ l K α H kds p.1) (KZ l K α H kds q.1)).getD false
def jM{K:B9}(a:kds≠[])(u:ŋ):KZ l K α H kds u∈kds:=by
 unfold KZ;split
 .rename_i h;obtain⟨v,h1,_⟩:=ā h;exact h1
 .match kds,a with
  |x::l,_=>exact mF0
def AM{K:B9}{u:ŋ}(h: ∃d v,d∈kds/\KX l K α H d v/\RelV v u): ∃v,KX l K α H (KZ l K α H kds u) v/\RelV v u:=by unfold KZ;rw[dif_pos h];obtain⟨v,_,a,b⟩:=ā h;exact⟨v,a,b⟩
def UU(I:↑2){kvs:List V}{ks:A0}(b: ∀d,d∈kds->gW d=true)(q:KXL l X.K α H kds kvs)(m:Vals kvs ks){i:Nat}{u:ŋ}{a:MV}(o:ks[i]? =some u)(h:kds[i]? =some a):
  KZ l X.K α H kds u=a:=by
 obtain⟨v,p,j⟩:=q.at h;obtain⟨w,c,r⟩:=m.get p;rw[o]at c;cases c;have e:a∈kds:=è h;have ne:kds≠[]:=λz=>by rw[z]at e;cases e
 obtain⟨y,k,n⟩:=AM (K:=X.K) (α:=α) (H:=H) ⟨a,v,e,j,r⟩;rw[n.inj r]at k;exact Uk I (b _ (jM ne u)) (b a e) k j
theorem Zb(I:↑2)(wd:Wd X.g α S H){A:Ō}(hu:A.units+64<cLine)(hne:kds≠[])(hkind: ∀d,d∈kds->Fn l b d)(ho:OrdD S kds){E':VP}:
  Srt.Cmp (model X.prog X.w) A E' s (UT l b) (λp=> ∃d v,d∈kds/\KX l X.K α H d v/\RelV v p.1) (Vz l X.K α H S kds) where
 go x y hx hy st hk Q hq:=by
  obtain⟨v1,d1,r1⟩:=AM hx;obtain⟨v2,d2,r2⟩:=AM hy;obtain⟨t,ht⟩:=ho.any _ (jM (l:=l) (K:=X.K) (α:=α) (H:=H) hne x.1) _ (jM (l:=l) (K:=X.K) (α:=α) (H:=H) hne y.1);have e:Vz l X.K α H S kds x y=t:=by unfold Vz;rw[ht];rfl
  rw[e]at hq;exact Srt.wp_lt hk (λE Q hq=>Kw I wd hu (hkind _ (jM hne x.1)) (hkind _ (jM hne y.1)) d1 d2 r1 r2 ht X.prog X.w E Q hq) hq
 tr x y z h1 h2:=by unfold Vz at h1 h2 ⊢;have mx:=jM (l:=l) (K:=X.K) (α:=α) (H:=H) hne x.1;have my:=jM (l:=l) (K:=X.K) (α:=α) (H:=H) hne y.1;have mz:=jM (l:=l) (K:=X.K) (α:=α) (H:=H) hne z.1;obtain⟨t1,e1⟩:=ho.any _ my _ mx;obtain⟨t2,e2⟩:=ho.any _ mz _ my;rw[e1]at h1;rw[e2]at h2;have h1:t1=false:=h1;have h2:t2=false:=h2;subst h1 h2;rw[ho.tr _ mx _ my _ mz e1 e2];rfl
 as x y h:=by unfold Vz at h ⊢;have mx:=jM (l:=l) (K:=X.K) (α:=α) (H:=H) hne x.1;have my:=jM (l:=l) (K:=X.K) (α:=α) (H:=H) hne y.1;obtain⟨t1,e1⟩:=ho.any _ mx _ my;rw[e1]at h;have h:t1=true:=h;subst h;rw[ho.as _ mx _ my e1];rfl
def Ul(I:↑2){A:Ō}{kvs:List V}{ks:A0}(h:kds≠[])(c: ∀d,d∈kds->Fn l b d)(k:KXL l X.K α H kds kvs)(j:Vals kvs ks){v:VP}:
  wpAny (model X.prog X.w) A (keyKind' ks.toArray) (λq s'=>s'=s/\q=UT l b) v s:=by
 cases l with
 |false=>exact Tl I h c k.den j
 |true=>
  have ne:ks≠[]:=λz=>by have h1:=j.length;have m:=k.length;rw[z]at h1;exact h (Ń.mp (by rw[<-m,h1];rfl))
  refine Ct ne λu p=>?_;obtain⟨i,hi⟩:=getElem?_of_mem p;have n:i<kvs.length:=by rw[j.length];exact(gS.mp hi).1
  obtain⟨y,h1,r⟩:=j.get (gE n);rw[hi]at h1;cases h1;obtain⟨d,m,es,a,vs,rfl,e,o,_,_⟩:=k.get (gE n);rw[e]at r;cases r;obtain⟨its,_,t⟩:=SE I o;exact⟨a,its,rfl,t⟩
def Cw(F:FnOk X.prog X.w X.K X.mg X.base DT k fa fd ps (RD X.g 1 Fd))(hr:Room (k+2) X.A)(P:Binds X.K fd ps [])(I:↑2)(wd:Wd X.g α S H){la:Addr}{xs:List V}{ds:C1}(hl:SqL X.K H la xs)(dl:DenL X.K α H ds xs)
  (hlen:ds.length<128) (hkl:kds.length=ds.length) (hk: ∀(m:Nat) d kd,ds[m]? =some d->kds[m]? =some kd->zK 1 Fd [.val d] S=.ok (YU l kd) S) (hpu: ∀d,d∈kds->gW d=true) (hkind: ∀d,d∈kds->Fn l b d) (hord:OrdD S kds) {Q:VK}
  (hQ: ∀(idx:Db)(H':Hp)(p:Addr)(ys:List V),idx.Perm (List.range ds.length)->idx.Pairwise (λi j=> ∀a c,kds[i]? =some a->kds[j]? =some c->vH S zG c a=some false)->Ext α H α H'->Wd X.g α S H'->H' p=none->H p=none->
   DenL X.K α H' (idx.filterMap (ds[·]?)) ys->Q (.ref p) (xU H' p (.lst ys))):wpAny (model X.prog X.w) X.A (call (.builtin "sorted") [.ref la] [("key",.ref fa)]) (EP X pins σ Q) X.xe s:=by
 obtain⟨its,rv,⟨o,n0,e0,af,_,ah⟩,_⟩:=I.list hl;have ak:s.heap.IsList la its.toArray:=⟨o,e0,af,n0,ah⟩
 have M:its.length=ds.length:=by rw[<-rv.length,dl.length]
 have aw:=Ĕ;refine call_function_entry_kw kind_sorted plain_sorted entry_sorted (KO _ _) ?_;unfold Builtin.«sorted»;refine wB (m:=checkCount "sorted" 1 1 _) (wP ?_);refine wB (collect_list ak ?_ (by omega));refine wB (wpAny_newList ?_);generalize U:(s.heap.push (seqObj "list" #[] 0)).update s.heap.objs.size (Obj.mapSeq (· ++its.toArray))=h1;have ax:h1.objs.size=↑0+1:=by rw[<-U,Heap.size_update,size_push']
 have k1: ∀b u,s.heap.get? b=some u->h1.get? b=some u:=λb u e=>by rw[<-U,ý _ _ (ø (â e))];exact hP0 _ e
 have G:(h1.push (seqObj "list" its.toArray 0)).get? h1.objs.size=some (seqObj "list" its.toArray 0):=ã _ rfl;show wpAny _ _ _ _ _ {s with heap:=h1.push (seqObj "list" its.toArray 0)};dsimp only;generalize hL:h1.objs.size=L at *;have sL:↑0<=L:=by omega
 refine wB (ù (wpAny_call_entry_kw slot_list_sort ⟨_,G,rfl⟩ entry_list_sort (Srt.sort_keyed G (by omega) λe1 T=>?_) (RT _ _)));dsimp only at T ⊢;generalize J:h1.push (seqObj "list" its.toArray 0)=h2 at *;have av:h2.objs.size=L+1:=by rw[<-J,size_push',hL]
 generalize ai:h2.objs.size+1=KS;have sK:↑0<=KS:=by omega
 have Y:L≠KS:=by omega
 have fL: ∀H',H' L=none->pP X pins H' L:=λH' hn=>I.fpOk sL hn;have fK: ∀H',H' KS=none->pP X pins H' KS:=λH' hn=>I.fpOk sK hn;have k3: ∀b u,s.heap.get? b=some u->(((h2.update L (Obj.mapSeq λ_=>#[])).push (seqObj "tuple" its.toArray 0)).push (seqObj "list" #[] 0)).get? b=some u:=λb u e=>by refine hP0 _ (hP0 _ ?_);rw[ý _ _ (ø (ç (â e) sL)), <-J];exact hP0 _ (k1 b u e)
 have I3:Inv X pins σ H {s with heap:=((h2.update L (Obj.mapSeq λ_=>#[])).push (seqObj "tuple" its.toArray 0)).push (seqObj "list" #[] 0)}:=I.kept (t':=s.toks) k3
 have base:LpX l X pins σ α S H L KS e1 kds 0 {s with heap:=((h2.update L (Obj.mapSeq λ_=>#[])).push (seqObj "tuple" its.toArray 0)).push (seqObj "list" #[] 0)}:=by
  refine⟨H,[],0,[],I3,Ext.refl α H,wd,hP0 _ (hP0 _ T),?_,I.hok.fresh sL,I.hok.fresh sK,.nil,by rw[List.take_zero];exact .nil⟩;rw[<-ai];have e:h2.objs.size+1=((h2.update L (Obj.mapSeq λ_=>#[])).push (seqObj "tuple" its.toArray 0)).objs.size:=by rw[size_push',Heap.size_update]
  rw[e];exact ã _ rfl
 refine û (wpAny_forIn_list (α:=ŋ) (β:=PUnit) _ (λrest _ s'=> ∃m,rest=its.drop m/\LpX l X pins σ α S H L KS e1 kds m s') (λ_ s'=>LpX l X pins σ α S H L KS e1 kds its.length s') ?_ ?_ its PUnit.unit ⟨0,rfl,base⟩) (λ_ C y aq=>?_) λ_ _ e=>e
 .rintro x rest _ s' ⟨m,e,y⟩;have hx:its[m]? =some x:=by have:=congrArg (·[0]?) e;simp only[List.getElem?_cons_zero,getElem?_drop,Nat.add_zero]at this;exact this.symm
  refine Cu F hr P Y fL fK dl rv hlen hkl hk hkind hx y λau aa=>⟨m+1,?_,aa⟩
  have:=congrArg List.tail e;rw[List.tail_cons,List.tail_drop]at this;exact this
 .rintro _ s' ⟨m,e,y⟩;have hm:its.length<=m:=List.drop_eq_nil_iff.mp e.symm;obtain⟨H',B,n,kvs,a1,a2,a3,a4,a5,a6,a7,a8,a9⟩:=y.go;exact⟨H',B,n,kvs,a1,a2,a3,a4,a5,a6,a7,a8,by rw[Ā (by omega)]at a9 ⊢; exact a9⟩
 .obtain⟨H',B,n,kvs,O,xt,Z,gL,gK,nL,nK,D,E⟩:=y.go;rw[Ā (by omega)]at E;have q:B.length=ds.length:=by rw[<-D.length,E.length,hkl]
  have hu:X.A.in1.in1.units+64<cLine:=by have:=hr.un;show X.A.units+1+1+64<cLine;omega
  refine⟨B,n,UT l b,(λp=> ∃d v,d∈kds/\KX l X.K α H' d v/\RelV v p.1),Vz l X.K α H' S kds,gL,gK,by omega,λar=>?_,λout op os=>?_⟩
  .have ne:kds≠[]:=λz=>by rw[z]at hkl;simp at hkl;omega
   refine⟨Ul O ne hkind E D,Zb O Z hu ne hkind hord,λp hp=>?_⟩;have ag:p.1∈B:=(of_mem_zip hp).1;obtain⟨i,hi⟩:=getElem?_of_mem ag;have W:i<kvs.length:=by rw[D.length];exact(gS.mp hi).1
   obtain⟨u',N,r⟩:=D.get (gE W);rw[hi]at N;cases N;obtain⟨d,aj,ab⟩:=E.get (gE W);exact⟨d,_,è aj,ab,r⟩
  .obtain⟨idx,ip,ie⟩:=IB op.symm (List.range ds.length) (XY q M);have ib: ∀i,i∈idx->i<ds.length:=λi hi=>mem_range.mp (ip.mem_iff.mp hi);have eo:out.map (·.2)=idx.filterMap (its[·]?):=by rw[<-ie,Ĳ];exact ET λi hi=>by rw[M];exact ib i hi
   have po:idx.Pairwise (λi j=> ∀a c,kds[i]? =some a->kds[j]? =some c->vH S zG c a=some false):=by rw[<-ie,pairwise_map]at os;refine List.Pairwise.imp_of_mem (λ{i j} hi hj h a c ha hc=>?_) os;have ui:B[i]? =some (B[i]'(by rw[q];exact ib i hi)):=gE _;have uj:B[j]? =some (B[j]'(by rw[q];exact ib j hj)):=gE _;have h':(vH S zG (KZ l X.K α H' kds ((B[j]?).getD .none)) (KZ l X.K α H' kds ((B[i]?).getD .none))).getD false=false:=h;rw[ui,uj]at h';simp only[Option.getD_some]at h';rw[UU O hpu E D ui ha,UU O hpu E D uj hc]at h';obtain⟨t,ht⟩:=hord.any c (è hc) a (è ha);rw[ht]at h';have h':t=false:=h';rw[ht,h']
   have vy:=Vals.pick rv idx;refine⟨_,rfl,wP ⟨_,rfl,.ref L,xU H' L (.lst (idx.filterMap (xs[·]?))),?_,rfl,hQ idx H' L _ ip po xt Z nL (I.hok.fresh sL) ((dl.ext xt).pick idx)⟩⟩;have I5:Inv X pins σ H' {C with heap:=C.heap.update KS (Obj.mapSeq λ_=>#[])}:=by obtain⟨f0,f1,f2,f3,f4,f5⟩:=fK H' nK;exact O.turned (t':=C.toks) (λb o P e=>(ý _ _ (Ne.symm P)).trans e) f0 f1 f3 f4 f5
   have ae:(C.heap.update KS (Obj.mapSeq λ_=>#[])).get? L=some (seqObj "list" #[] e1):=(ý _ _ (Ne.symm Y)).trans gL;obtain⟨f0,f1,f2,f3,f4,f5⟩:=fL H' nL
   have I6:Inv X pins σ H' {C with heap:=(C.heap.update KS (Obj.mapSeq λ_=>#[])).update L (Obj.mapSeq λ_=>(out.map (·.2)).toArray)}:=
    I5.turned (t':=C.toks) (λb o P e=>(ý _ _ (Ne.symm P)).trans e) f0 f1 f3 f4 f5
   obtain⟨n',ao⟩: ∃n',((C.heap.update KS (Obj.mapSeq λ_=>#[])).update L (Obj.mapSeq λ_=>(out.map (·.2)).toArray)).get? L=some (seqObj "list" (idx.filterMap (its[·]?)).toArray n'):=⟨_,by have:=get?_update_seq ae (λ_=>(out.map (·.2)).toArray);rw[eo]at this ⊢;exact this⟩
   refine XX (its:=idx.filterMap (its[·]?)) I6 (fL H' nL) (õ I.sz sL) ao vy ?_
   .have:=ī (xs[·]?) idx;have h3:=ip.length_eq;rw[Ē]at h3;omega
end
structure SrtOkX(l:Bool)(Fd:List MV->Sto->R Er)(S:Sto)(ds kds:C1)(b:Bool):Prop where
 len:ds.length<128
 kl:kds.length=ds.length
 call: ∀(m:Nat) d kd,ds[m]? =some d->kds[m]? =some kd->zK 1 Fd [.val d] S=.ok (YU l kd) S
 pu: ∀d,d∈kds->gW d=true
 kind: ∀d,d∈kds->Fn l b d
 ord:OrdD S kds
open Classical in
def BM(l:Bool)(Fd:List MV->Sto->R Er)(rs:List Er)(S:Sto):R Er:=match rs with
 |[p]=>match jL S p with
  |some ds=>if h: ∃r, ∃kds b,SrtOkX l Fd S ds kds b/\ ∀a,UQ S ds kds a->a=r then .ok (.new (Classical.choose h)) S else .no
  |none=>.no
 |_=>.no
def Ky{l:Bool}{Fd:List MV->Sto->R Er}{p:Er}{S:Sto}{ds r:C1}{b:Bool}(e:jL S p=some ds)(ok:SrtOkX l Fd S ds kds b)(u: ∀c,UQ S ds kds c->c=r)(ex:UQ S ds kds r)(k: ∀a d,SrtOkX l Fd S ds a d->a=kds):
  BM l Fd [p] S=.ok (.new r) S:=by
 unfold BM;dsimp only;rw[e];dsimp only;have h: ∃r, ∃kds b,SrtOkX l Fd S ds kds b/\ ∀c,UQ S ds kds c->c=r:=⟨r,kds,b,ok,u⟩
 rw[dif_pos h];obtain⟨a,d,i,j⟩:=ā h;rw[k a d i]at j;rw[<-j r ex]
section
variable{X:Cx}{W:XW}{a:Expr}{af:Rho->Sto->R (List Er)}{pos:Pos}
def SF(l:Bool){k:Nat}{fa:Addr}{fd:FuncData}{Fd:List MV->Sto->R Er}{x:Str}{p kp kq:Pos}(F:FnOk X.prog X.w X.K X.mg X.base DT k fa fd ps (RD X.g 1 Fd))(B:Room (k+2) X.A)(L:Gl X "sorted")(hm:X.mg "sorted"=none)
  (hgk:Gl X x) (hmk:X.mg x=some (.ref fa)) (hb:Binds X.K fd ps []) (n:CS X W [a] af) (hd:(x==("__debug__":Str))=false:=by decide)
  (he:backTo pos (starEach [a] X.env)=(false,eval a X.env)::backTo pos (starEach [] X.env):=by rfl) (hpl:(backTo pos (starEach [a] X.env)).any (·.1)=false:=by rfl):
  zN X W (.Call (.Name "sorted" p) [a] [⟨some "key",.Name x kp,kq⟩] pos) (λρ S=>(af ρ S).bind λrs S1=>BM l Fd rs S1):=by
 obtain⟨t,n,C⟩:=n
 refine⟨λσ H Q=>t σ H λvs H1=> ∃α S la xs ds kds b,vs=[.ref la]/\Wd X.g α S H1/\SqL X.K H1 la xs/\DenL X.K α H1 ds xs/\SrtOkX l Fd S ds kds b/\
   ∀(idx:Db)(H':Hp)(p:Addr)(ys:List V),idx.Perm (List.range ds.length)->idx.Pairwise (λi j=> ∀a c,kds[i]? =some a->kds[j]? =some c->vH S zG c a=some false)->Ext α H1 α H'->Wd X.g α S H'->H' p=none->H1 p=none->
   DenL X.K α H' (idx.filterMap (ds[·]?)) ys->Q (.ref p) (xU H' p (.lst ys)),?_,λα ρ S σ H Q e sl q=>C α ρ S σ H _ e sl (q.bind λvs rs S1 m H1 e1 T y D d=>?_)⟩
 .intro pins s σ H Q I h;refine wpAny_Call_Name_kw (mQ I L hm XZ ?_);refine callWith_kw (jI (n pos pins s σ H _ I h) λus s1 ⟨vs,H1,I1,J,d⟩=>?_) he hpl;obtain⟨α,S,la,xs,ds,kds,b,rfl,e,U,o,ok,O⟩:=d;obtain⟨u,rfl,Y⟩:=J.one;cases Y;refine kws_cons (JC I1 hgk hmk (kws_nil ?_) hd);exact Cw F B hb I1 e U o ok.len ok.kl ok.call ok.pu ok.kind ok.ord O
 .replace d:=d.shift T
  unfold BM at d;split at d
  .rename_i p0;split at d
   .rename_i ds z;split at d
    .rename_i h;obtain⟨v,rfl,Z⟩:=HP D;obtain⟨la,xs,rfl,G,o⟩:=tQ rfl y z Z;obtain⟨kds,b,ok,u⟩:=ā h;refine⟨m,S1,la,xs,ds,kds,b,rfl,y,G,o,ok,λidx H' pp ys i1 i2 M P N i6 r=>?_⟩;have E:=u _ ⟨idx,i1,i2,rfl⟩;rw[E]at r;exact(d.shift M).newl P N r
    .exact d.elim
   .exact d.elim
  .exact d.elim
def BN(l:Bool){k:Nat}{Fd:List MV->Sto->R Er}{x:Str}{p i e:Pos}(G:YC X.prog X.w X.K X.mg X.base x k 1 ps Fd)(d:Room (k+2) X.A)(c:Gl X "sorted")(h:X.mg "sorted"=none)
  (hgk:Gl X x) (ha:CS X W [a] af) (hd:(x==("__debug__":Str))=false:=by decide)
  (he:backTo pos (starEach [a] X.env)=(false,eval a X.env)::backTo pos (starEach [] X.env):=by rfl) (hpl:(backTo pos (starEach [a] X.env)).any (·.1)=false:=by rfl):
  zN X W (.Call (.Name "sorted" p) [a] [⟨some "key",.Name x i,e⟩] pos) (λρ S=>(af ρ S).bind λrs S1=>BM l Fd rs S1):=
 let ⟨_,_,F,m,_,b⟩:=G.ex;SF l F d c h hgk m b ha hd he hpl
end
def KAt(d:Addr)(us:A0)(ep:Nat)(h:Heap):Prop:= ∃o es,h.get? d=some o/\o.ExactDict/\o.data=.dict es ep/\es.toList.map (·.key)=us
def KAt.at{d:Addr}{us:A0}{ep:Nat}{h h':Heap}(x:KAt d us ep h)(m: ∀o,h.get? d=some o->h'.get? d=some o):KAt d us ep h':=let ⟨o,es,a,r⟩:=x;⟨o,es,m o a,r⟩
theorem KAt.size{d:Addr}{us:A0}{ep:Nat}{h:Heap}(x:KAt d us ep h): ∃o es,h.get? d=some o/\o.ExactDict/\o.data=.dict es ep/\es.size=us.length/\ ∀i (hi:i<es.size),us[i]? =some es[i].key:=by obtain⟨o,es,b,a,hd,e⟩:=x;refine⟨o,es,b,a,hd,by rw[<-e,lM,í],λi hi=>?_⟩;rw[<-e,ö,ò,Đ hi];rfl
section
variable{P:ō}{w:World}{A:Ō}{E:VP}{s:Ŋ}{d it:Addr}{us:A0}{ep i:Nat}
def YV{Q:VP}(hs:(d==sysModules)=false)(i:KAt d us ep s.heap)
  (hQ:Q (.ref ↑0) {s with heap:=s.heap.push {cls:=.type "dict_keyiterator",data:=.fields #[.ref d,.int 0 0,.int us.length 0,.int ep 0]}}):wpAny (model P w) A (pyIter (.ref d)) Q E s:=by
 obtain⟨o,es,e,h,a,c,_⟩:=i.size;have b:s.TypeIs (.ref d) "dict":=⟨o,e,h.1⟩
 refine wpAny_pyIter_slot b PySem.F.slot_dict_iter (ì PySem.F.slot_dict_iter b PySem.F.entry_dict_iter ?_ (PySem.F.args_dict_iter_1 _));refine wB ?_;refine wB (Ģ b ?_);show wpAny _ _ _ _ _ s;refine wP ?_;show wpAny _ _ (Builtin.Dict.showsAll d >>= _) _ _ s;unfold Builtin.Dict.showsAll;rw[iN (by rw[hs];exact xF0)];refine wB (wP ?_);refine wB (ę e a ?_);refine wB (Ň e a ?_);refine wB (ć (wP ⟨_,rfl,_,_,⟨_,ã _ rfl,rfl⟩,PySem.F.slot_dict_keyiterator_next.lookup,?_⟩));simpa [rawInt,c]using hQ
theorem Cy{x:ŋ}(a:s.heap.IsKeyIter it d i us.length ep)(y:KAt d us ep s.heap)(q:us[i]? =some x)
  (hQ: ∀h',h'.IsKeyIter it d (i+1) us.length ep->Heap.SameBut it s.heap h'->Q (some x) {s with heap:=h'}):wpAny (model P w) A (pyNext (.ref it)) Q E s:=by
 obtain⟨o,n,u,hd⟩:=id a;obtain⟨od,es,h,r,m,j,k⟩:=y.size;have p:i<us.length:=(gS.mp q).1;have b:i<es.size:=by rw[j];exact p
 have v:es[i].key=x:=by have:=k i b;rw[q]at this;exact(å this).symm
 unfold pyNext;refine wB (Ĉ (î a.typeIs PySem.F.slot_dict_keyiterator_next (ì PySem.F.slot_dict_keyiterator_next a.typeIs PySem.F.entry_dict_keyiterator_next ?_ (PySem.F.args_dict_keyiterator_next_1 _))));refine wB (wP (wB (wB ?_)))
 first |refine wB (ĩ a.typeIs (wP ?_))|refine wB _
 refine wB (wpAny_fieldsOf n hd ?_);have e:Builtin.Dict_items.ownsTuple "dict_keyiterator"=false:=by decide
 simp only[e,fT,iF];show wpAny _ _ (if _=true then _ else _) _ _ s;rw[iN (show¬((Value.ref d==Value.none)=true)from xF0)];refine wB (wP (wB (ę h m ?_)));rw[iN (by rw[j];simp)];refine wB (wP (wB (Ň h m ?_)));rw[iN (by simp)];refine wP ?_;simp only[show¬((i:Int)<0)from by lia,iF,Ď,Đ b];refine wB ?_
 first |refine wB (ĩ a.typeIs (wP ?_))|refine wB _
 refine wB (wpAny_isOneOf_keyiter a.typeIs ?_);show wpAny _ _ (setField (.ref it) 1 (rawInt ((i:Int)+1)) >>= _) _ _ s;refine wB (wpAny_setField n hd (by simp) ?_)
 have c:(s.heap.update it (Obj.mapFields (·.setIfInBounds 1 (rawInt ((i:Int)+1))))).IsKeyIter it d (i+1) us.length ep:=
  ⟨_,Heap.get?_update_self _ n (Obj.isFreed_of_fields (Obj.data_mapFields hd _)),(Obj.cls_mapFields ..).trans u,by rw[Obj.data_mapFields hd];simp[rawInt]⟩
 refine wB (ù ?_);refine wB (wpAny_isOneOf_keyiter c.typeIs ?_);show wpAny _ _ (pure es[i].key) _ _ _;exact wP (wP ⟨_,rfl,wP (v▸hQ _ c (ď ..))⟩)
theorem Cz(q:A.handled=none)(a:s.heap.IsKeyIter it d i us.length ep)(p:KAt d us ep s.heap)(n:us.length<=i)
  (hQ: ∀h',Heap.ExtBut it s.heap h'->Q none {s with heap:=h'}):wpAny (model P w) A (pyNext (.ref it)) Q E s:=by
 obtain⟨o,m,u,hd⟩:=id a;obtain⟨od,es,e,r,c,h,k⟩:=p.size;have j:es.size<=i:=by rw[h];exact n
 unfold pyNext;refine wB (Ĉ (î a.typeIs PySem.F.slot_dict_keyiterator_next (ì PySem.F.slot_dict_keyiterator_next a.typeIs PySem.F.entry_dict_keyiterator_next ?_ (PySem.F.args_dict_keyiterator_next_1 _))));refine wB (wP (wB (wB ?_)))
 first |refine wB (ĩ a.typeIs (wP ?_))|refine wB _
 refine wB (wpAny_fieldsOf m hd ?_);have b:Builtin.Dict_items.ownsTuple "dict_keyiterator"=false:=by decide
 simp only[b,fT,iF];show wpAny _ _ (if _=true then _ else _) _ _ s;rw[iN (show¬((Value.ref d==Value.none)=true)from xF0)];refine wB (wP (wB (ę e c ?_)));rw[iN (by rw[h];simp)];refine wB (wP (wB (Ň e c ?_)));rw[iN (by simp)];refine wP ?_;simp only[show¬((i:Int)<0)from by lia,iF,Ď,Array.getElem?_eq_none j];refine wB ?_
 first |refine wB (ĩ a.typeIs (wP ?_))|refine wB _
 show wpAny _ _ (setField (.ref it) 0 .none >>= _) _ _ s;refine wB (wpAny_setField m hd (by simp) ?_);show wpAny _ _ _ _ _ _;refine wB ?_;simp only[newExc,newTuple];refine wB (ć ?_ (by size_fits));refine wB (wpAny_of_eq (by first |rfl|(simp only[firstArgMember];rfl)) ?_);refine ć ?_ (by size_fits);simp only[raiseNew];refine wB (wpAny_handled ?_);rw[show A.in1.handled=none from q];refine wB (wP (wpAny_throw ?_));refine wB (Ġ ⟨_,ã _ rfl,rfl⟩ isSubtype_stop ?_);exact wP (hQ _ (((ď ..).extBut.push _).push _))
def YW(hh:A.handled=none)(I:Addr)(hne:d≠I)(us:A0)(ep:Nat):Walks P w A I [I,d] [I] us.length (λi x=>us[i]? =some x) (λi h=>h.IsKeyIter I d i us.length ep/\KAt d us ep h) where
 sub:=λb hb=>by simp at hb;simp[hb]
 frame:=λ_ _ _ st hk=>⟨st.1.at λo e=>hk I (by simp) o e,st.2.at λo e=>hk d (by simp) o e⟩
 item:=λi s Q E hi st hQ=>by have hx:=gE hi;refine Cy st.1 st.2 hx λh' hit' hs'=>?_;exact hQ _ h' s.toks hx ⟨hit',st.2.at λo e=>hs'.extBut d o hne e⟩ λb o hb e=>hs'.extBut b o (λh=>hb (by simp[h])) e
 done:=λs Q E st hQ=>Cz hh st.1 st.2 (à _) λh' he'=>hQ h' s.toks λb o hb e=>he' b o (λh=>hb (by simp[h])) e
 self:=λ_ _ _ _ st hQ=>wpAny_pyIter_keyiter st.1 hQ
def Da(us:A0)(ep:Nat):PySem.W.KdlSrc P w "dict" d d us.length (λi x=>us[i]? =some x) (λh=>(d==sysModules)=false/\KAt d us ep h) where
 type:=λ_ hm=>let ⟨o,_,ho,hc,_⟩:=hm.2;⟨o,ho,hc.1⟩
 there:=λ_ hm=>⟨let ⟨_,_,ho,_⟩:=hm.2;â ho,let ⟨_,_,ho,_⟩:=hm.2;â ho⟩
 keep:=λ_ _ hm hk=>⟨hm.1,hm.2.at λo e=>hk d (.inl rfl) o e⟩
 notList:=by decide
 notTuple:=by decide
 hint:=λ_ _ _ _ hm hq=>PySem.W.kdl_hint_dict (let ⟨o,_,ho,hc,_⟩:=hm.2;⟨o,ho,hc.1⟩) hq
 iter:=λ_ _ hh hm=>⟨_,_,(λ_ _ hq=>YV hm.1 hm.2 hq),YW hh _ (ë (let ⟨_,_,ho,_⟩:=hm.2;â ho)) us ep,⟨⟨_,ã _ rfl,rfl,rfl⟩,hm.2.at λo e=>hP0 _ e⟩⟩
end
section
variable{X:Cx}{W:XW}
theorem OZ{K:B9}{α:A9}{H:Hp}: ∀{kvs:C7}{xs:List (NK×Addr×ŋ)},DenN K α H kvs xs->DenL K α H (kvs.map (·.1)) (xs.map λx=>V.ref x.2.1)
 |_,_,.nil=>zX
 |_,_,.cons hk e a d r l=>zR a (OZ l)
theorem PB: ∀(xs:List (NK×Addr×ŋ)),Vals (xs.map λx=>V.ref x.2.1) (xs.map λx=>Value.ref x.2.1)
 |[]=>.nil
 |x::xs=>.cons rfl (PB xs)
theorem SH:CallR X (.type "list") (λxs H Q=> ∃d b α kvs,xs=[.ref d]/\DD X H d b/\DenN X.K α H kvs b/\X.calm=true/\ ∀p,H p=none->Q (.ref p) (xU H p (.lst (b.map λx=>V.ref x.2.1)))):=by
 intro pins s σ H xs us Q I r h;obtain⟨d,b,α,kvs,rfl,v,dn,E,q⟩:=h;obtain⟨u,rfl,A⟩:=vals1 r;cases A;obtain⟨⟨o,es,ep,F,i,hd,B,_,_⟩,k,hs⟩:=rA I v dn;have y:KAt d (b.map λx=>Value.ref x.2.1) ep s.heap:=⟨o,es,F,i,hd,by rw[B,Ĳ];rfl⟩
 refine PySem.W.kdl_call (Da _ ep) (I.ok.hd E) ⟨hs,y⟩ (by rw[lM];exact k) λh' G c C z n a=>?_
 have D:c.toList=b.map λx=>Value.ref x.2.1:=by
  refine ext_getElem? λj=>?_;by_cases m:j<c.size
  .have e:=Đ m;rw[ò,e];exact(a.2 j _ e).symm
  .have e:(b.map λx=>Value.ref x.2.1).length<=j:=by have:=a.1;lia
   rw[ò,Array.getElem?_eq_none #[0],getElem?_eq_none e]
 refine⟨.ref ↑0,_,I.laid z (à _) (show ObjOk X.prog X.w _ h' _ (.lst _)from⟨by rw[lM];exact k,c.toList,C,by rw[D];exact PB b,?_⟩),rfl,q _ (I.hok.fresh (à _))⟩;exact n
def AN:List Er->Sto->R Er
 |[r],S=>match bT S r with |some (_,kvs)=>.ok (.new (kvs.map (·.1))) S|none=>.no
 |_,_=>.no
def Dc(q:X.calm=true):qB X W (λxs H Q=> ∃d b α kvs,xs=[.ref d]/\DD X H d b/\DenN X.K α H kvs b/\X.calm=true/\ ∀p,H p=none->Q (.ref p) (xU H p (.lst (b.map λx=>V.ref x.2.1)))) AN:=by
 intro rs vs α S H Q h d a;unfold AN at a;split at a
 .split at a
  .rename_i n kvs e;obtain⟨v,rfl,o⟩:=lW d;obtain⟨c,xs,rfl,j,r,m,i⟩:=sV h e o;exact⟨c,xs,α,kvs,rfl,m,i,q,λp k=>a.newl h k (OZ i)⟩
  .exact a.elim
 .exact a.elim
end
mutual
def SI:Expr->List Str
 |.Name x _=>[x]
 |.Tuple es _ _=>Zc es
 |_=>[]
def Zc:List Expr->List Str
 |[]=>[]
 |e::es=>SI e++Zc es
end
section
variable{X:Cx}{W:XW}{iter:Expr}{pos:Pos}
noncomputable abbrev gnN(T:B0)(N:B0)(idx:Db):List Str:=[]++T++idx.map λi=>(N[i]?).getD Str.empty
def De{elt tg:Expr}{ifs:B8}{sc a:Scope}{N:B0}{idx:Db}{b:Rho->Sto->R Wk}{cf:AZ}{ef:AX}{gf:MV->Rho->Sto->R Rho}(c:FnScope N ps a)
  (hi:HN X W tg iter b) (hg: ∀C s₂ H1 fp,(gnN (SI tg) N idx).Nodup->Fi (SI tg).length (zM X sc (SI tg) idx C s₂ H1 fp) W0 tg gf)
  (hc: ∀C s₂ H1 fp,NO (zM X sc (SI tg) idx C s₂ H1 fp) W0 ifs cf) (he: ∀C s₂ H1 fp,zN (zM X sc (SI tg) idx C s₂ H1 fp) W0 elt ef)
  (hcalm:X.calm=true:=by rfl) (e1:X.env.scope=a:=by rfl) (e2:X.N=N:=by rfl) (hB:rS a N sc idx=true:=by decide+kernel) (hN:(gnN (SI tg) N idx).Nodup:=by decide+kernel)
  (hs: ∀y,foldedSetIterable iter X.env y=pure y:=by intro _;rfl):
  zN X W (.ListComp elt [⟨tg,iter,ifs,0⟩] sc pos) (λρ S=>(b ρ S).bind λk S1=>if k.ds.length<1000000 then(yE gf cf ef (vG (SI tg).length idx ρ) k.gs k.ds S1).bind λout S2=>.ok (.new out) S2 else .no):=Hx a N _ idx hi hcalm hg hc he e1 e2 hB hN hs
def Df{x:Str}{c b:Pos}{i:Nat}{elt tg:Expr}{ifs:B8}{sc a:Scope}{N:B0}{idx:Db}{d:Rho->Sto->R Wk}{cf:AZ}{ef:AX}{gf:MV->Rho->Sto->R Rho}(e:FnScope N ps a)
  (hi:HN X W tg iter d) (hg: ∀C s₂ H1 fp,(gnN (SI tg) N idx).Nodup->Fi (SI tg).length (zM X sc (SI tg) idx C s₂ H1 fp) W0 tg gf)
  (hc: ∀C s₂ H1 fp,NO (zM X sc (SI tg) idx C s₂ H1 fp) W0 ifs cf) (he: ∀C s₂ H1 fp,zN (zM X sc (SI tg) idx C s₂ H1 fp) W0 elt ef)
  (hcalm:X.calm=true:=by rfl) (e1:X.env.scope=a:=by rfl) (e2:X.N=N:=by rfl) (hB:rS a N sc idx=true:=by decide+kernel) (hN:(gnN (SI tg) N idx).Nodup:=by decide+kernel)
  (hs: ∀y,foldedSetIterable iter X.env y=pure y:=by intro _;rfl)
  (hi2:X.N[i]? =some x:=by rfl) (hx:Loc X.env.scope x:=by first |exact Or.inl rfl|exact Or.inr rfl)
  (hsw:swapsWith (.ListComp elt [⟨tg,iter,ifs,0⟩] sc pos) (some (.Name x c)) b.line X.env=pure true:=by with_unfolding_all rfl) (hf:Q1 X x:=by first |exact .inl rfl|exact .inr rfl|assumption):
  NN X W (.Assign [.Name x c] (.ListComp elt [⟨tg,iter,ifs,0⟩] sc pos) b) (λρ S=>((d ρ S).bind λk S1=>if k.ds.length<1000000 then(yE gf cf ef (vG (SI tg).length idx ρ) k.gs k.ds S1).bind λout S2=>.ok (.new out) S2 else .no).bind (GK ρ i)):=Hy i (by rw[e2];exact e.nd) a N _ idx hi hcalm hg hc he e1 e2 hB hN hs hi2 hx hsw hf
end
section
variable{P:ō}{w:World}{K:B9}{mg:B3}{base:Heap}{x qual:Str}{st:Stmt}{ps N:B0}{k:Nat}
abbrev ScK(N ps:B0)(sc:Scope):Prop:=N.Nodup/\N.take ps.length=ps/\(∀x∈ps,sc.names.lookup x=some .local\/sc.names.lookup x=some .cell)/\ ∀y∈sc.names,y.2≠.free
def okL{f:Addr}{fd:FuncData}(j:AY)(F:Fun K x qual st f fd)
  (h: ∀(e:ŋ)(A:Ō)(d:List Env)(s:Ŋ)(H:Hp)(E:XK),N.Nodup->FnScope N ps (zQ st)->Room k (A.deeper (envOfC qual (zQ st) ↑0 f e))->vQ (JE DT P w K mg base N qual (zQ st) f e A d s H E).nox W0 (gQ st) j)
  (h4:ScK N ps (zQ st):=by decide+kernel) (a:(zQ st).kind=.function:=by rfl) (b:(zQ st).isCoroutine=false:=by rfl) (c:(zQ st).isGenerator=false:=by rfl):
  FnOk P w K mg base DT (k+1) f fd ps (RD ⟨K,mg,P,w⟩ ps.length λds S=>yD (j (zU N ds) S)):=
 have i:FnScope N ps _:=⟨a,b,c,h4.1,h4.2.1,h4.2.2.1,h4.2.2.2⟩
 okM j F i λe A d s H E m=>h e A d s H E i.nd i m
def Um:Nat->(List ŋ->Prop)->Prop
 |0,p=>p []
 |n+1,p=> ∀a,Um n λl=>p (a::l)
theorem Zd: ∀(us:A0){p:List ŋ->Prop},Um us.length p->p us
 |[],_,h=>h
 |a::l,_,h=>Zd l (h a)
def forN{n:Nat}{p:List ŋ->Prop}(h:Um n p)(us:A0)(e:us.length=n):p us:=Zd us (e▸h)
def okA(i:AY)(D:DefM K mg x st)
  (h: ∀(f:Addr)(e:ŋ)(A:Ō)(d:List Env)(s:Ŋ)(H:Hp)(E:XK),N.Nodup->FnScope N ps (zQ st)->Room k (A.deeper (envOfC x (zQ st) ↑0 f e))->vQ (JE DT P w K mg base N x (zQ st) f e A d s H E).nox W0 (gQ st) i)
  (hb:Cd x st ps:=by exact λ_ _ _ _ _ _=>forN (by(repeat intro _);rfl))
  (h4:ScK N ps (zQ st):=by decide+kernel) (a:(zQ st).kind=.function:=by rfl) (b:(zQ st).isCoroutine=false:=by rfl) (c:(zQ st).isGenerator=false:=by rfl):
  YC P w K mg base x (k+1) ps.length ps λds S=>yD (i (zU N ds) S):=
 okC D hb λf _ F=>okL i F (h f) h4 a b c
end
end M
end L2
namespace L2
namespace M
namespace My
open PySem PySem.Spec PyProof.Rows
variable{S Z T B:Sto}{xs ys:Ch}{m:MV}{rs:List Er}{α:Type}{ts:Tk}{lr j:Nat}{σ:List Nat->MV}{o:MO}
set_option bootstrap.genMatcherCode true in
local macro_rules
 | `(tactic|simp? [$xs,*] $[$l:location]?)=>`(tactic|simp only[List.getElem?_cons_zero,getElem?_cons_succ,Iq,jG,as_int,Yc,Ry,add_int,sub_int,eq_int,Rz,OA,lst1,lst2,lst3,lst6,tup2,tup3,Sd,Se,Sf,Sh,Si,Sj,Iy,Iz,List.set_cons_zero,set_cons_succ,if_true,Jb,Ja,vJ,kJ,bJ,dJ,iJ,mJ,tJ,zJ,fJ,eJ,uJ,pJ,qJ,rJ,sJ,wJ,yJ,AJ,BJ,CJ,DJ,EJ,FJ,JJ,$xs,*] $[$l:location]?)
set_option bootstrap.genMatcherCode true in
local macro_rules
 |`(#[$x])=>`(some (.loc $x))
 |`(#[$x,0])=>`(some (.int $x))
 |`(#[$x,1])=>`(.val (.loc $x))
 |`(#[$x,2])=>`(some (.lst $x))
 |`(#[$x,3])=>`(some (.tup $x))
 |`(#[$x,4])=>`(some (.str $x))
 |`(#[$x,5])=>`(.val (.int $x))
 |`(#[$x,6])=>`(.val (.tup $x))
 |`(#[$x,7])=>`(some (.dic $x))
 |`(#[$x,8])=>`(($x).map MV.str)
 |`(#[])=>`(by lia)
 |`(#[$x,$s,0])=>`(.ok (.next $x) $s)
 |`(#[$x,$s,1])=>`(.ok (.val $x) $s)
 |`(#[$x,$s,2])=>`(.ok (.new $x) $s)
noncomputable abbrev BO:List Str:=["_law_well","_law_many","_law_digit"]
noncomputable abbrev qI:List Str:=["_law_well","_law_names_here","_law_pool_here"]
abbrev AF:=AY
abbrev AE:=AX
def xO:AF:=(iJ (bJ (bJ (yJ (vJ 0) (yJ (kJ (.typ "str")) wJ)) vW) EC) ((AJ (bJ (yJ (kJ (.int 1)) (yJ (kJ (.int 0)) (yJ (vJ 0) wJ))) xR))) (JJ))
def eR:AF:=(AJ (bJ (yJ (kJ (.int 0)) (yJ (vJ 0) (yJ (kJ (.str [])) wJ))) xR))
def kW:AF:=zI (xO) ((eR))
def nT(ds:C1)(S:Sto):R Er:=yD (kW (zU ["value"] ds) S)
def cB:AZ:=uJ
def kX:AE:=(fJ 1 nT (yJ (vJ 0) wJ))
def eS:AF:=(AJ (bJ (yJ (pJ (bJ (vJ 0) Hs) (zW 0) (cB) (kX) 1 []) wJ) cA))
def nU:AF:=(eS)
def nV(ds:C1)(S:Sto):R Er:=yD (nU (zU ["values"] ds) S)
def eT:AY:=(iJ (sJ (qJ (bJ (vJ 1) EC)) (bJ (dJ RH (dJ iC (vJ 1) (kJ (.int (-1)))) (vJ 2)) eC)) ((BJ (eJ wG eF (vJ 1) (yJ (vJ 2) wJ)))) (JJ))
def nW:AY:=(eT)
def nY:AF:=(CJ (bJ wJ xW) 1)
def nZ:AF:=(FJ (bJ (bJ (yJ (vJ 0) wJ) (BM false nV)) vR) (zW 2) (nW))
def mY:AF:=(AJ (vJ 1))
def mZ:AF:=zI (nY) (zI (nZ) ((mY)))
def oA(ds:C1)(S:Sto):R Er:=yD (mZ (zU ["some","ordered","values"] ds) S)
def gX:AY:=(iJ (bJ (dJ vU (dJ iC (vJ 3) (kJ (.int 0))) (kJ (.str [118,97,114]))) eC) ((EJ (kJ (.bl true)) (DJ IE (vJ 1) (dJ iC (vJ 3) (kJ (.int 1)))))) (JJ))
def gY:AY:=(gX)
def eU:AY:=(FJ (bJ (dJ iC (vJ 2) (kJ (.int 1))) Hs) (zW 3) (gY))
def gZ:AY:=(eU)
def aB:AF:=(CJ zJ 1)
def aC:AF:=(FJ (bJ (vJ 0) itQ) (zW 2) (gZ))
def aD:AF:=(AJ (bJ (yJ (vJ 1) wJ) AG))
def oB:AF:=zI (aB) (zI (aC) ((aD)))
def xX(ds:C1)(S:Sto):R Er:=yD (oB (zU ["atoms","names","atom","term"] ds) S)
def yR:AY:=(CJ (iJ (bJ (dJ vU (dJ iC (vJ 3) (kJ (.int 0))) (kJ (.str [118,97,114]))) eC) (eJ RX Ci (vJ 2) (yJ (dJ iC (vJ 3) (kJ (.int 1))) (yJ (vJ 4) wJ))) (dJ iC (vJ 3) (kJ (.int 1)))) 5)
def cN:AY:=(iJ (bJ (dJ RH (vJ 5) (vJ 4)) eC) ((AJ (kJ .non))) (JJ))
def xT:AY:=zI (yR) ((cN))
def iG:AF:=(CJ zJ 2)
def iH:AF:=(FJ (bJ (yJ (vJ 0) (yJ (vJ 1) wJ)) Nc) (fZ 2 (zA (zW 3) (zA (zW 4) zY))) (xT))
def BP:AF:=(AJ (vJ 2))
def aT:AF:=zI (iG) (zI (iH) ((BP)))
def aU(ds:C1)(S:Sto):R Er:=yD (aT (zU ["terms","cells","values","term","cell","expected"] ds) S)
def jN:AZ:=(bJ (dJ vU (dJ iC (vJ 0) (kJ (.int 0))) (dJ iC (vJ 2) (kJ (.int 0)))) eC)
def xE:AE:=(bJ (yJ (fJ 2 aU (yJ (dJ iC (vJ 2) (kJ (.int 1))) (yJ (dJ iC (vJ 0) (kJ (.int 1))) wJ))) (yJ (vJ 1) wJ)) xR)
def xF:AZ:=(bJ (dJ HS (vJ 0) (kJ .non)) eC)
def jO:AE:=(bJ (yJ (vJ 0) (yJ (vJ 1) wJ)) xR)
def iI:AF:=(CJ (pJ (bJ (yJ (vJ 0) (yJ (vJ 1) wJ)) Nc) (fZ 2 (zA (zW 0) (zA (zW 1) zY))) (jN) (xE) 2 [2]) 3)
def iK:AF:=(AJ (pJ (bJ (vJ 3) vR) (fZ 2 (zA (zW 0) (zA (zW 1) zY))) (xF) (jO) 2 []))
def rC:AF:=zI (iI) ((iK))
def lZ(ds:C1)(S:Sto):R Er:=yD (rC (zU ["rows","marks","atom","fits"] ds) S)
def dQ:AZ:=uJ
def jU:AE:=(dJ OT (vJ 1) (vJ 0))
def iY:AF:=(AJ (bJ (yJ (pJ (bJ (vJ 1) itQ) (zW 0) (dQ) (jU) 1 [0]) wJ) cA))
def iL:AF:=(iY)
def yH(ds:C1)(S:Sto):R Er:=yD (iL (zU ["values","names"] ds) S)
def rD:AY:=(CJ (fJ 2 yH (yJ (vJ 3) (yJ (vJ 1) wJ))) 5)
def rE:AY:=(EJ (dJ Ud (eJ qH uH (vJ 2) (yJ (vJ 5) (yJ (kJ (.int 0)) wJ))) (vJ 4)) (DJ HZ (vJ 2) (vJ 5)))
def DE:AY:=zI (rD) ((rE))
def AO:AZ:=uJ
def mE:AE:=(bJ (yJ (bJ (yJ (vJ 2) (yJ (vJ 0) wJ)) Ui) (yJ (vJ 1) wJ)) xR)
def DF:AF:=(CJ zJ 2)
def DG:AF:=(FJ (bJ (vJ 0) vR) (fZ 2 (zA (zW 3) (zA (zW 4) zY))) (DE))
def DH:AF:=(AJ (pJ (bJ (vJ 2) YO) (fZ 2 (zA (zW 0) (zA (zW 1) zY))) (AO) (mE) 2 [1]))
def UV:AF:=zI (DF) (zI (DG) ((DH)))
def EY(ds:C1)(S:Sto):R Er:=yD (UV (zU ["fits","names","told","values","mark","some"] ds) S)
def oC:AY:=(BJ (eJ wG eF (eJ qH Vy (vJ 3) (yJ (fJ 2 yH (yJ (vJ 4) (yJ (vJ 2) wJ))) (yJ (bJ wJ xW) wJ))) (yJ (bJ (yJ (vJ 4) (yJ (vJ 5) wJ)) xR) wJ)))
def eV:AY:=(oC)
def oD:AY:=(iJ (bJ (dJ BK (vJ 8) (vJ 5)) EC) (zI (CJ (bJ (yJ (vJ 7) wJ) RY) 9) (zI (BJ (eJ RX EX (vJ 9) (yJ (vJ 4) wJ))) ((BJ (eJ wG eF (vJ 6) (yJ (bJ (yJ (vJ 9) (yJ (dJ BK (vJ 8) (vJ 5)) wJ)) xR) wJ)))))) (JJ))
def eW:AY:=(oD)
def oE:AY:=(FJ (bJ (eJ qH uH (vJ 3) (yJ (fJ 2 yH (yJ (vJ 7) (yJ (vJ 2) wJ))) (yJ (bJ wJ xW) wJ))) vR) (fZ 2 (zA (zW 4) (zA (zW 5) zY))) (eW))
def eX:AY:=(oE)
def oF:AF:=(CJ zJ 3)
def oG:AF:=(FJ (bJ (vJ 1) vR) (fZ 2 (zA (zW 4) (zA (zW 5) zY))) (eV))
def oH:AF:=(CJ (bJ wJ xW) 6)
def oI:AF:=(FJ (bJ (vJ 0) vR) (fZ 2 (zA (zW 7) (zA (zW 8) zY))) (eX))
def EZ:AF:=(AJ (vJ 6))
def uI:AF:=zI (oF) (zI (oG) (zI (oH) (zI (oI) ((EZ)))))
def qK(ds:C1)(S:Sto):R Er:=yD (uI (zU ["fits","others","shared","by_shared","more","other","together","values","mark","both"] ds) S)
def wZ:AZ:=(bJ (dJ (CT false) (vJ 0) (vJ 1)) eC)
def dE:AE:=(vJ 0)
def kC:AZ:=(sJ (bJ (dJ (CT false) (vJ 0) (vJ 1)) eC) (bJ (dJ (CT false) (vJ 0) (vJ 2)) eC))
def dF:AE:=(vJ 0)
def kD:AZ:=(bJ (dJ (CT true) (vJ 0) (vJ 1)) eC)
def dG:AE:=(vJ 0)
def kE:AZ:=(bJ (dJ (CT false) (vJ 0) (vJ 1)) eC)
def dH:AE:=(vJ 0)
def kG:AY:=(CJ (fJ 1 xX (yJ (bJ (yJ (vJ 8) wJ) xW) wJ)) 9)
def kH:AY:=(CJ (pJ (bJ (vJ 9) vR) (zW 0) (wZ) (dE) 1 [5]) 10)
def kI:AY:=(CJ (dJ wQ (bJ (yJ (vJ 3) wJ) NU) (fJ 1 xX (yJ (tJ vV (vJ 4) (bJ (dJ wQ (vJ 7) (kJ (.int 1))) Fg) mJ) wJ))) 11)
def kL:AY:=(CJ (fJ 2 EY (yJ (fJ 3 lZ (yJ (vJ 0) (yJ (vJ 1) (yJ (vJ 8) wJ)))) (yJ (pJ (bJ (vJ 9) vR) (zW 0) (kC) (dF) 1 [10,11]) wJ))) 12)
def kM:AY:=(CJ (pJ (bJ (vJ 9) vR) (zW 0) (kD) (dG) 1 [10]) 13)
def kN:AY:=(CJ (pJ (bJ (dJ wQ (vJ 5) (vJ 13)) vR) (zW 0) (kE) (dH) 1 [11]) 5)
def kO:AY:=(CJ (fJ 2 EY (yJ (fJ 3 qK (yJ (vJ 6) (yJ (vJ 12) (yJ (vJ 10) wJ)))) (yJ (vJ 5) wJ))) 6)
def yT:AY:=zI (kG) (zI (kH) (zI (kI) (zI (kL) (zI (kM) (zI (kN) ((kO)))))))
def xB:AZ:=uJ
def yM:AE:=(bJ (yJ (fJ 2 yH (yJ (vJ 0) (yJ (vJ 2) wJ))) (yJ (vJ 1) wJ)) xR)
def gI:AF:=(CJ (dJ iC (vJ 2) (kJ (.int 0))) 3)
def gM:AF:=(CJ (dJ iC (vJ 2) (kJ (.int 1))) 4)
def xY:AF:=(CJ (bJ wJ xW) 5)
def xZ:AF:=(CJ (bJ (yJ (bJ (yJ zJ (yJ (kJ (.int (-1))) wJ)) xR) wJ) xW) 6)
def wA:AF:=(FJ (bJ (yJ (vJ 4) wJ) Ye) (fZ 2 (zA (zW 7) (zA (zW 8) zY))) (yT))
def gN:AF:=(AJ (bJ (yJ (pJ (bJ (vJ 6) vR) (fZ 2 (zA (zW 0) (zA (zW 1) zY))) (xB) (yM) 2 [3]) wJ) IL))
def kY:AF:=zI (gI) (zI (gM) (zI (xY) (zI (xZ) (zI (wA) ((gN))))))
def xP(ds:C1)(S:Sto):R Er:=yD (kY (zU ["rows","marks","question","head","atoms","known","fits","place","atom","own","shared","asked","others","new"] ds) S)
def iZ:AZ:=uJ
def lB:AE:=(kJ (.int 1))
def qL:AF:=(AJ (fJ 1 oA (yJ (bJ (yJ (fJ 3 xP (yJ (vJ 0) (yJ (pJ (bJ (vJ 0) vR) (zW 0) (iZ) (lB) 1 []) (yJ (vJ 1) wJ)))) wJ) AN) wJ)))
def rF:AF:=(qL)
def wM(ds:C1)(S:Sto):R Er:=yD (rF (zU ["rows","question"] ds) S)
def kZ:AF:=(iJ (bJ (dJ Rh (vJ 1) (bJ (yJ (vJ 0) wJ) mW)) eC) ((AJ (dJ iC (vJ 0) (vJ 1)))) (JJ))
def mG:AF:=(AJ (kJ (.int 0)))
def bA:AF:=zI (kZ) ((mG))
def zS(ds:C1)(S:Sto):R Er:=yD (bA (zU ["_law_script","_law_k"] ds) S)
def bB:AY:=(CJ (dJ NS (dJ wQ (dJ wQ (dJ vT (vJ 2) (kJ (.int 48271))) (dJ vT (kJ (.int 7919)) (vJ 4))) (kJ (.int 11))) (kJ (.int 2147483647))) 2)
def bC:AY:=(CJ (dJ NS (dJ vT (vJ 2) (vJ 2)) (kJ (.int 2147483629))) 5)
def bD:AY:=(CJ (dJ wQ (dJ vT (vJ 3) (kJ (.int 2147483587))) (dJ NS (dJ vT (vJ 5) (kJ (.int 69621))) (kJ (.int 2147483587)))) 3)
def jV:AY:=zI (bB) (zI (bC) ((bD)))
def jW:AF:=(CJ (dJ XH (vJ 0) (kJ (.int 2))) 1)
def jX:AF:=(iJ (bJ (dJ vU (dJ NS (vJ 0) (kJ (.int 2))) (kJ (.int 0))) eC) ((AJ (bJ (yJ (vJ 1) wJ) xW))) (JJ))
def dR:AF:=(CJ (dJ NS (vJ 1) (kJ (.int 2147483647))) 2)
def pM:AF:=(CJ (kJ (.int 0)) 3)
def dS:AF:=(FJ (bJ (yJ (kJ (.int 16)) wJ) eE) (zW 4) (jV))
def dU:AF:=(AJ (bJ (yJ (vJ 3) wJ) xW))
def cO:AF:=zI (jW) (zI (jX) (zI (dR) (zI (pM) (zI (dS) ((dU))))))
def yA(ds:C1)(S:Sto):R Er:=yD (cO (zU ["_law_cell","_law_rest","_law_number","_law_total","_law_k","_law_other"] ds) S)
def cP:AF:=(CJ (dJ NS (dJ iC (vJ 0) (kJ (.int 0))) (vJ 1)) 2)
def cQ:AF:=(EJ (dJ XH (dJ iC (vJ 0) (kJ (.int 0))) (vJ 1)) (DJ HV (vJ 0) (kJ (.int 0))))
def sC:AF:=(AJ (vJ 2))
def qM:AF:=zI (cP) (zI (cQ) ((sC)))
def zB(ds:C1)(S:Sto):R Er:=yD (qM (zU BO ds) S)
def dW:AY:=(CJ (dJ wQ (vJ 2) (dJ iC (vJ 1) (fJ 2 zB (yJ (vJ 0) (yJ (kJ (.int 26)) wJ))))) 2)
def cR:AY:=(dW)
def sD:AF:=(CJ (kJ (.str [97,98,99,100,101,102,103,104,105,106,107,108,109,110,111,112,113,114,115,116,117,118,119,120,121,122])) 1)
def sE:AF:=(CJ (kJ (.str [])) 2)
def lD:AF:=(FJ (bJ (yJ (dJ wQ (kJ (.int 1)) (fJ 2 zB (yJ (vJ 0) (yJ (kJ (.int 8)) wJ)))) wJ) eE) (zW 3) (cR))
def sF:AF:=(AJ (vJ 2))
def qN:AF:=zI (sD) (zI (sE) (zI (lD) ((sF))))
def kP(ds:C1)(S:Sto):R Er:=yD (qN (zU ["_law_well","_law_letters","_law_word_here","_law_k"] ds) S)
def dX:AY:=(CJ (fJ 2 zB (yJ (vJ 0) (yJ (kJ (.int 4)) wJ))) 4)
def dY:AY:=(CJ (dJ Ax (fJ 2 zB (yJ (vJ 0) (yJ (kJ (.int 9)) wJ))) (kJ (.int 4))) 5)
def jY:AY:=(iJ (bJ (dJ vU (vJ 4) (kJ (.int 1))) eC) ((CJ (dJ wQ (dJ Ax (fJ 2 zB (yJ (vJ 0) (yJ (dJ Ax (dJ vT (kJ (.int 2)) (dJ Ib (kJ (.int 10)) (kJ (.int 30)))) (kJ (.int 1))) wJ))) (dJ Ib (kJ (.int 10)) (kJ (.int 30)))) (kJ (.int 1))) 5)) (JJ))
def jZ:AY:=(iJ (bJ (dJ gtF (vJ 4) (kJ (.int 1))) eC) ((CJ (fJ 1 kP (yJ (vJ 0) wJ)) 5)) (JJ))
def hX:AY:=(iJ (bJ (dJ (CT true) (vJ 5) (vJ 2)) eC) ((BJ (eJ wG eF (vJ 2) (yJ (vJ 5) wJ)))) (JJ))
def jP:AY:=zI (dX) (zI (dY) (zI (jY) (zI (jZ) ((hX)))))
def lE:AF:=(CJ (bJ wJ xW) 2)
def lF:AF:=(FJ (bJ (yJ (vJ 1) wJ) eE) (zW 3) (jP))
def lG:AF:=(AJ (vJ 2))
def iM:AF:=zI (lE) (zI (lF) ((lG)))
def gO(ds:C1)(S:Sto):R Er:=yD (iM (zU ["_law_well","_law_many","_law_pool_here","_law_k","_law_way","_law_value"] ds) S)
def bE:AY:=(CJ (dJ wQ (kJ (.int 1)) (fJ 2 zB (yJ (vJ 0) (yJ (kJ (.int 3)) wJ)))) 3)
def bF:AY:=(BJ (eJ wG eF (vJ 1) (yJ (bJ (yJ (vJ 3) (yJ (fJ 2 zB (yJ (vJ 0) (yJ (dJ wQ (vJ 3) (kJ (.int 1))) wJ))) wJ)) xR) wJ)))
def wH:AY:=zI (bE) ((bF))
def dZ:AF:=(CJ (bJ wJ xW) 1)
def nA:AF:=(FJ (bJ (yJ (dJ wQ (kJ (.int 1)) (fJ 2 zB (yJ (vJ 0) (yJ (kJ (.int 3)) wJ)))) wJ) eE) (zW 2) (wH))
def nB:AF:=(AJ (vJ 1))
def cS:AF:=zI (dZ) (zI (nA) ((nB)))
def cT(ds:C1)(S:Sto):R Er:=yD (cS (zU ["_law_well","_law_tables_here","_law_k","_law_wide"] ds) S)
def eY:AZ:=uJ
def bG:AE:=(dJ iC (vJ 2) (fJ 2 zB (yJ (vJ 1) (yJ (bJ (yJ (vJ 2) wJ) mW) wJ))))
def aF:AF:=(CJ (fJ 2 zB (yJ (vJ 0) (yJ (bJ (yJ (vJ 1) wJ) mW) wJ))) 3)
def aG:AF:=(AJ (bJ (yJ (vJ 3) (yJ (bJ (yJ (pJ (bJ (yJ (dJ iC (dJ iC (vJ 1) (vJ 3)) (kJ (.int 0))) wJ) eE) (zW 0) (eY) (bG) 1 [0,2]) wJ) cA) wJ)) xR))
def oK:AF:=zI (aF) ((aG))
def oM(ds:C1)(S:Sto):R Er:=yD (oK (zU ["_law_well","_law_tables_here","_law_pool_here","_law_t"] ds) S)
def gA:AZ:=uJ
def wI:AE:=(fJ 1 yA (yJ (vJ 0) wJ))
def gB:AY:=(CJ (fJ 3 oM (yJ (vJ 8) (yJ (vJ 2) (yJ (vJ 3) wJ)))) 9)
def wK:AY:=(iJ (rJ (bJ (dJ (CT true) (vJ 9) (vJ 7)) eC) (bJ (dJ Rh (bJ (yJ (vJ 7) wJ) mW) (vJ 4)) eC)) ((BJ (eJ wG eF (vJ 7) (yJ (vJ 9) wJ)))) (JJ))
def xG:AY:=zI (gB) ((wK))
def cU:AF:=(CJ (fJ 1 yA (yJ (vJ 1) wJ)) 5)
def cV:AF:=(CJ (fJ 2 zB (yJ (vJ 5) (yJ (kJ (.int 20)) wJ))) 6)
def cW:AF:=(CJ (bJ wJ xW) 7)
def cX:AF:=(FJ (bJ (dJ wQ (pJ (bJ (vJ 0) vR) (zW 0) (gA) (wI) 1 []) (dJ vT (bJ (yJ (vJ 5) wJ) xW) (vJ 6))) vR) (zW 8) (xG))
def sG:AF:=(AJ (vJ 7))
def iO:AF:=zI (cU) (zI (cV) (zI (cW) (zI (cX) ((sG)))))
def iQ(ds:C1)(S:Sto):R Er:=yD (iO (zU ["_law_cells","_law_extra","_law_tables_here","_law_pool_here","_law_most","_law_more","_law_many","_law_rows_here","_law_well","_law_row_here"] ds) S)
def wN:AF:=(iJ (bJ (dJ vU (fJ 2 zB (yJ (vJ 0) (yJ (kJ (.int 4)) wJ))) (kJ (.int 0))) eC) ((AJ (bJ (yJ (kJ (.str [105,115])) (yJ (dJ iC (vJ 2) (fJ 2 zB (yJ (vJ 0) (yJ (bJ (yJ (vJ 2) wJ) mW) wJ)))) wJ)) xR))) (JJ))
def cY:AF:=(AJ (bJ (yJ (kJ (.str [118,97,114])) (yJ (dJ iC (vJ 1) (fJ 2 zB (yJ (vJ 0) (yJ (bJ (yJ (vJ 1) wJ) mW) wJ)))) wJ)) xR))
def gP:AF:=zI (wN) ((cY))
def iR(ds:C1)(S:Sto):R Er:=yD (gP (zU qI ds) S)
def cC:AZ:=uJ
def jA:AE:=(fJ 3 iR (yJ (vJ 1) (yJ (vJ 2) (yJ (vJ 3) wJ))))
def cE:AY:=(CJ (fJ 2 zB (yJ (vJ 0) (yJ (bJ (yJ (vJ 1) wJ) mW) wJ))) 7)
def cF:AY:=(BJ (eJ wG eF (vJ 5) (yJ (bJ (yJ (vJ 7) (yJ (bJ (yJ (pJ (bJ (yJ (dJ iC (dJ iC (vJ 1) (vJ 7)) (kJ (.int 0))) wJ) eE) (zW 0) (cC) (jA) 1 [0,2,3]) wJ) cA) wJ)) xR) wJ)))
def kQ:AY:=zI (cE) ((cF))
def eZ:AF:=(CJ (bJ wJ xW) 5)
def fA:AF:=(FJ (bJ (yJ (vJ 4) wJ) eE) (zW 6) (kQ))
def fB:AF:=(AJ (vJ 5))
def aH:AF:=zI (eZ) (zI (fA) ((fB)))
def aI(ds:C1)(S:Sto):R Er:=yD (aH (zU ["_law_well","_law_tables_here","_law_names_here","_law_pool_here","_law_many","_law_atoms_here","_law_k","_law_t"] ds) S)
def xK:AY:=(iJ (rJ (bJ (dJ vU (vJ 4) (kJ (.str [118,97,114]))) eC) (bJ (dJ (CT true) (vJ 5) (vJ 1)) eC)) ((BJ (eJ wG eF (vJ 1) (yJ (vJ 5) wJ)))) (JJ))
def yG:AY:=(xK)
def jH:AY:=(FJ (bJ (vJ 3) Hs) (fZ 2 (zA (zW 4) (zA (zW 5) zY))) (yG))
def wU:AY:=(jH)
def wV:AF:=(CJ (bJ wJ xW) 1)
def wW:AF:=(FJ (bJ (vJ 0) itQ) (fZ 2 (zA (zW 2) (zA (zW 3) zY))) (wU))
def wX:AF:=(AJ (vJ 1))
def gC:AF:=zI (wV) (zI (wW) ((wX)))
def gF(ds:C1)(S:Sto):R Er:=yD (gC (zU ["_law_atoms_here","_law_found","_law_t","_law_terms","_law_word_here","_law_name"] ds) S)
def nE:AY:=(iJ (bJ (dJ RH (vJ 3) (bJ wJ xW)) eC) ((BJ (eJ wG eF (vJ 4) (yJ (eJ wG YA (vJ 3) (yJ (fJ 2 zB (yJ (vJ 0) (yJ (bJ (yJ (vJ 3) wJ) mW) wJ))) wJ)) wJ)))) (JJ))
def jQ:AY:=(nE)
def lH:AF:=(CJ (fJ 1 gF (yJ (vJ 1) wJ)) 3)
def lI:AF:=(CJ (bJ wJ xW) 4)
def lK:AF:=(FJ (bJ (yJ (fJ 2 zB (yJ (vJ 0) (yJ (dJ wQ (vJ 2) (kJ (.int 1))) wJ))) wJ) eE) (zW 5) (jQ))
def lL:AF:=(AJ (vJ 4))
def iS:AF:=zI (lH) (zI (lI) (zI (lK) ((lL))))
def dI(ds:C1)(S:Sto):R Er:=yD (iS (zU ["_law_well","_law_atoms_here","_law_most","_law_there","_law_head_here","_law_k"] ds) S)
def cG:AY:=(CJ (fJ 1 kP (yJ (vJ 0) wJ)) 4)
def jB:AY:=(iJ (bJ (dJ (CT false) (vJ 4) (vJ 2)) eC) ((CJ (dJ iC (bJ (yJ (dJ wQ (kJ (.str [98])) (vJ 1)) (yJ (dJ wQ (dJ wQ (kJ (.str [98])) (vJ 1)) (kJ (.str [97]))) wJ)) xW) (vJ 3)) 4)) (JJ))
def cH:AY:=(BJ (eJ wG eF (vJ 2) (yJ (vJ 4) wJ)))
def kR:AY:=zI (cG) (zI (jB) ((cH)))
def bH:AF:=(CJ (tJ vV (fJ 1 kP (yJ (vJ 0) wJ)) mJ (bJ (kJ (.int 6)) Fg)) 1)
def bI:AF:=(iJ (bJ (dJ vU (fJ 2 zB (yJ (vJ 0) (yJ (kJ (.int 2)) wJ))) (kJ (.int 0))) eC) ((AJ (bJ (yJ (vJ 1) (yJ (dJ wQ (vJ 1) (kJ (.str [97]))) (yJ (dJ wQ (kJ (.str [98])) (vJ 1)) wJ))) xW))) (JJ))
def fC:AF:=(CJ (bJ (yJ (vJ 1) wJ) xW) 2)
def fE:AF:=(FJ (bJ (yJ (kJ (.int 2)) wJ) eE) (zW 3) (kR))
def fF:AF:=(AJ (vJ 2))
def uK:AF:=zI (bH) (zI (bI) (zI (fC) (zI (fE) ((fF)))))
def aK(ds:C1)(S:Sto):R Er:=yD (uK (zU ["_law_well","_law_base","_law_names_here","_law_k","_law_name"] ds) S)
def cI:AY:=(iJ (bJ (bJ (yJ (vJ 2) (yJ (kJ (.typ "str")) wJ)) vW) EC) ((BJ (eJ wG eF (vJ 1) (yJ (bJ (yJ (kJ (.int 1)) (yJ (kJ (.int 0)) (yJ (vJ 2) wJ))) xR) wJ)))) ((BJ (eJ wG eF (vJ 1) (yJ (bJ (yJ (kJ (.int 0)) (yJ (vJ 2) (yJ (kJ (.str [])) wJ))) xR) wJ)))))
def bK:AY:=(cI)
def bL:AF:=(CJ (bJ wJ xW) 1)
def bM:AF:=(FJ (bJ (vJ 0) Hs) (zW 2) (bK))
def fG:AF:=(AJ (vJ 1))
def aL:AF:=zI (bL) (zI (bM) ((fG)))
def bN(ds:C1)(S:Sto):R Er:=yD (aL (zU ["_law_cells","_law_marks","_law_value"] ds) S)
def bO:AY:=(iJ (rJ (bJ (dJ vU (vJ 8) (kJ (.str [118,97,114]))) eC) (bJ (dJ (YI false) (vJ 9) (vJ 3)) eC)) ((BJ (eJ wG eF (vJ 7) (yJ (bJ (yJ (kJ (.str [105,115])) (yJ (dJ OT (vJ 3) (vJ 9)) wJ)) xR) wJ)))) ((BJ (eJ wG eF (vJ 7) (yJ (bJ (yJ (vJ 8) (yJ (vJ 9) wJ)) xR) wJ)))))
def jC:AY:=(bO)
def fH:AY:=(CJ (bJ wJ xW) 7)
def fI:AY:=(FJ (bJ (vJ 6) Hs) (fZ 2 (zA (zW 8) (zA (zW 9) zY))) (jC))
def fM:AY:=(BJ (eJ wG eF (vJ 4) (yJ (bJ (yJ (vJ 5) (yJ (bJ (yJ (vJ 7) wJ) cA) wJ)) xR) wJ)))
def aM:AY:=zI (fH) (zI (fI) ((fM)))
def oN:AF:=(CJ (bJ (yJ (vJ 1) (yJ (vJ 2) wJ)) Ui) 3)
def oO:AF:=(CJ (bJ wJ xW) 4)
def oP:AF:=(FJ (bJ (vJ 0) vR) (fZ 2 (zA (zW 5) (zA (zW 6) zY))) (aM))
def oQ:AF:=(AJ (bJ (yJ (bJ wJ xR) (yJ (bJ (yJ (vJ 4) wJ) cA) wJ)) xR))
def oR:AF:=zI (oN) (zI (oO) (zI (oP) ((oQ))))
def oS(ds:C1)(S:Sto):R Er:=yD (oR (zU ["_law_atoms_here","_law_head_here","_law_answer","_law_values","_law_found","_law_t","_law_terms","_law_put_here","_law_word_here","_law_name"] ds) S)
def bP:AZ:=uJ
def kS:AE:=(dJ wQ (vJ 1) (bJ (yJ (vJ 0) wJ) xR))
def fN:AY:=(BJ (eJ wG Kf (vJ 4) (yJ (pJ (bJ (vJ 0) vR) (zW 0) (bP) (kS) 1 [5]) wJ)))
def aO:AY:=(fN)
def fO:AY:=(CJ (bJ wJ xW) 4)
def fP:AY:=(FJ (bJ (vJ 2) vR) (zW 5) (aO))
def fQ:AY:=(CJ (vJ 4) 2)
def aP:AY:=zI (fO) (zI (fP) ((fQ)))
def oU:AF:=(CJ (bJ (yJ (bJ wJ xR) wJ) xW) 2)
def oV:AF:=(FJ (bJ (yJ (vJ 1) wJ) eE) (zW 3) (aP))
def oW:AF:=(AJ (vJ 2))
def oX:AF:=zI (oU) (zI (oV) ((oW)))
def oY(ds:C1)(S:Sto):R Er:=yD (oX (zU ["_law_pool_here","_law_many","_law_found","_law_k","_law_more","_law_some"] ds) S)
def gG:AY:=(CJ (dJ wQ (tJ vV (vJ 3) mJ (bJ (vJ 1) Fg)) (tJ vV (vJ 3) (bJ (dJ wQ (vJ 1) (kJ (.int 1))) Fg) mJ)) 4)
def nF:AY:=(iJ (bJ (dJ (CT true) (vJ 4) (vJ 2)) eC) ((BJ (eJ wG eF (vJ 2) (yJ (vJ 4) wJ)))) (JJ))
def jR:AY:=zI (gG) ((nF))
def lN:AF:=(CJ (bJ wJ xW) 2)
def lO:AF:=(FJ (bJ (vJ 0) vR) (zW 3) (jR))
def lP:AF:=(AJ (bJ (yJ (vJ 2) wJ) (BM true bN)))
def iT:AF:=zI (lN) (zI (lO) ((lP)))
def iU(ds:C1)(S:Sto):R Er:=yD (iT (zU ["_law_told","_law_at","_law_found","_law_answer","_law_short"] ds) S)
def rG:AZ:=(bJ (dJ (CT true) (vJ 0) (vJ 1)) eC)
def AQ:AE:=(vJ 0)
def AR:AY:=(CJ (fJ 2 wM (yJ (vJ 7) (yJ (fJ 3 oS (yJ (vJ 5) (yJ (vJ 6) (yJ (vJ 10) wJ)))) wJ))) 11)
def AS:AY:=(iJ (bJ (dJ RH (vJ 11) (dJ iC (bJ (yJ (bJ wJ xW) (yJ (bJ (yJ (bJ wJ xR) wJ) xW) wJ)) xW) (bJ (yJ (dJ (CT false) (vJ 10) (vJ 8)) wJ) Bl))) eC) ((AJ (kJ (.bl false)))) (JJ))
def uL:AY:=zI (AR) ((AS))
def LA:AF:=(CJ (fJ 1 cT (yJ (fJ 1 yA (yJ (fJ 2 zS (yJ (vJ 0) (yJ (kJ (.int 0)) wJ))) wJ)) wJ)) 1)
def LB:AF:=(CJ (fJ 2 gO (yJ (fJ 1 yA (yJ (fJ 2 zS (yJ (vJ 0) (yJ (kJ (.int 1)) wJ))) wJ)) (yJ (kJ (.int 4)) wJ))) 2)
def LC:AF:=(CJ (fJ 1 aK (yJ (fJ 1 yA (yJ (fJ 2 zS (yJ (vJ 0) (yJ (kJ (.int 2)) wJ))) wJ)) wJ)) 3)
def LD:AF:=(CJ (fJ 1 yA (yJ (fJ 2 zS (yJ (vJ 0) (yJ (kJ (.int 3)) wJ))) wJ)) 4)
def LE:AF:=(CJ (fJ 5 aI (yJ (vJ 4) (yJ (vJ 1) (yJ (vJ 3) (yJ (vJ 2) (yJ (dJ wQ (kJ (.int 1)) (fJ 2 zB (yJ (vJ 4) (yJ (kJ (.int 4)) wJ)))) wJ)))))) 5)
def LF:AF:=(CJ (fJ 1 yA (yJ (fJ 2 zS (yJ (vJ 0) (yJ (kJ (.int 5)) wJ))) wJ)) 4)
def LG:AF:=(CJ (bJ (yJ (fJ 3 dI (yJ (vJ 4) (yJ (vJ 5) (yJ (kJ (.int 3)) wJ)))) wJ) cA) 6)
def LH:AF:=(CJ (fJ 5 iQ (yJ (tJ vV (vJ 0) (bJ (kJ (.int 6)) Fg) mJ) (yJ (fJ 2 zS (yJ (vJ 0) (yJ (kJ (.int 4)) wJ))) (yJ (vJ 1) (yJ (vJ 2) (yJ (kJ (.int 30)) wJ)))))) 7)
def LI:AF:=(CJ (fJ 2 wM (yJ (vJ 7) (yJ (bJ (yJ (vJ 6) (yJ (bJ (yJ (vJ 5) wJ) cA) wJ)) xR) wJ))) 8)
def FA:AF:=(iJ (qJ (bJ (bJ (yJ (vJ 8) (yJ (kJ (.typ "list")) wJ)) vW) EC)) ((AJ (kJ (.bl false)))) (JJ))
def FB:AF:=(CJ (fJ 2 oY (yJ (vJ 2) (yJ (bJ (yJ (vJ 6) wJ) mW) wJ))) 9)
def FC:AF:=(iJ (bJ (dJ RH (pJ (bJ (vJ 8) vR) (zW 0) (rG) (AQ) 1 [9]) (bJ wJ xW)) eC) ((AJ (kJ (.bl false)))) (JJ))
def FD:AF:=(FJ (bJ (vJ 9) vR) (zW 10) (uL))
def qO:AF:=(iJ (bJ (dJ vU (vJ 6) (bJ wJ xR)) eC) ((AJ (kJ (.bl true)))) (JJ))
def uM:AF:=(CJ (fJ 2 zB (yJ (vJ 4) (yJ (bJ (yJ (vJ 6) wJ) mW) wJ))) 12)
def uN:AF:=(AJ (dJ vU (fJ 2 wM (yJ (vJ 7) (yJ (bJ (yJ (dJ wQ (tJ vV (vJ 6) mJ (bJ (vJ 12) Fg)) (tJ vV (vJ 6) (bJ (dJ wQ (vJ 12) (kJ (.int 1))) Fg) mJ)) (yJ (bJ (yJ (vJ 5) wJ) cA) wJ)) xR) wJ))) (fJ 2 iU (yJ (vJ 8) (yJ (vJ 12) wJ)))))
def UW:AF:=zI (LA) (zI (LB) (zI (LC) (zI (LD) (zI (LE) (zI (LF) (zI (LG) (zI (LH) (zI (LI) (zI (FA) (zI (FB) (zI (FC) (zI (FD) (zI (qO) (zI (uM) ((uN))))))))))))))))
def IM(ds:C1)(S:Sto):R Er:=yD (UW (zU ["_law_script","_law_tables_here","_law_pool_here","_law_names_here","_law_well","_law_atoms_here","_law_head_here","_law_rows_here","_law_told","_law_every","_law_answer","_law_left","_law_at"] ds) S)
def Kz{b:Int}(h:XG 0 b)(a:Int)(S:Sto):XH #[a,5] #[b,5] S=.ok #[a / b,5] S:=iP (show XG a b from h)
def wC{l:Nat}{ds:C1}{d:MV}(a:S[l]? =#[ds,2])(hz:ds.length<1000000):eF #[l,1] [.val d] S=#[.non,S.set l (.lst (ds++[d])),1]:=by show GN #[l,1] S (λds=>if ds.length<sizeLine then some (ds++[d])else none)=_;unfold GN;dsimp only;rw[a];dsimp only;rw[iP (ç hz (fits (à _)))]
theorem yN{l:Nat}{ds:C1}(a:S[l]? =#[ds,2]):wG #[l,1] S=true:=by unfold wG;rw[lY a];rfl
def Dg{l:Nat}{ds:C1}{k:Int}{d:MV}{ρ:Rho}(b:S[l]? =#[ds,2])(a:JF ds.length k=some j):HV #[l,1] #[k,5] d ρ S=.ok ρ (S.set l (.lst (ds.set j d))):=by unfold HV;dsimp only;rw[b];dsimp only;rw[a]
def get_set{l:Nat}{o':MO}(h:S[l]? =some o):(S.set l o')[l]? =some o':=ė (gS.mp h).1
def tE{l m:Nat}{o':MO}(h:l≠m):(S.set l o')[m]? =S[m]? :=Ĥ h
def rH{l:Nat}{ds:C1}(a:S[l]? =#[ds,2]):cA [#[l,1]] S=.ok #[ds,6] S:=by show(match jL S #[l,1]with |some ds=>R.ok (Er.val (.tup ds)) S|none=>.no)=_;rw[lY a]
theorem UX(ds:C1)(S:Sto):mW [#[ds,6]] S=.ok #[ds.length,5] S:=rfl
theorem LK(gf:MV->Rho->Sto->R Rho)(ρ:Rho)(d:MV)(S:Sto):Hq gf ρ (.val d) S=(gf d ρ S).bind λa S2=>#[a,S2,0]:=rfl
noncomputable def tbl(p:Int×Int):MV:=.tup [.int p.1,.int p.2]
def La(ts:Tk):Prop:=1<=ts.length/\ts.length<=4/\ ∀p∈ts,1<=p.1/\p.1<=4/\0<=p.2/\p.2<=p.1
mutual
def pd:MV->Bool
 |.int _=>true
 |.str _=>true
 |.tup ds=>MU ds
 |_=>false
def MU:List MV->Bool
 |[]=>true
 |d::ds=>pd d&&MU ds
end
mutual
def vI:MV->Nat
 |.tup ds=>rR ds+1
 |_=>0
def rR:List MV->Nat
 |[]=>0
 |d::ds=>max (vI d) (rR ds)
end
def yW(ds:C1):pd (.tup ds)=MU ds:=by rw[pd]
def cZ:MU []=true:=by rw[MU]
def yC(d:MV)(ds:C1):MU (d::ds)=(pd d&&MU ds):=by rw[MU]
def gH(ds:C1):vI (.tup ds)=rR ds+1:=by rw[vI]
def yS(d:MV)(ds:C1):rR (d::ds)=max (vI d) (rR ds):=by rw[rR]
def mH:rR []=0:=by rw[rR]
def AT(i:Int):pd (.int i)=true:=by rw[pd]
def nG(i:Db):pd (.str i)=true:=by rw[pd]
def rK(i:Int):vI (.int i)=0:=by simp[vI]
def dA(i:Db):vI (.str i)=0:=by simp[vI]
theorem bQ: ∀{ds:C1},(∀d∈ds,pd d=true)->MU ds=true
 |[],_=>cZ
 |d::ds,h=>by rw[yC,h d mF0,bQ λe a=>h e (mO _ a)];rfl
theorem LL: ∀{ds:C1},MU ds=true-> ∀d∈ds,pd d=true
 |[],_,d,h=>by simp at h
 |e::ds,hp,d,h=>by
  rw[yC,aE]at hp;rcases mC.mp h with rfl|h
  .exact hp.1
  .exact LL hp.2 d h
theorem rL: ∀{ds:C1}{n:Nat},(∀d∈ds,vI d<=n)->rR ds<=n
 |[],n,_=>by rw[mH];exact zero_le _
 |d::ds,n,h=>by rw[yS];have h1:=h d mF0;have b:=rL λe a=>h e (mO _ a);omega
theorem PC: ∀{ds:C1}, ∀d∈ds,vI d<=rR ds
 |[],d,h=>by simp at h
 |e::ds,d,h=>by
  rw[yS];rcases mC.mp h with rfl|h
  .exact Nat.le_max_left _ _
  .exact õ (PC d h) (Nat.le_max_right _ _)
def PD{d:MV}(h:pd d=true):(∃i,d=.int i)\/(∃x,d=.str x)\/ ∃ds,d=.tup ds/\MU ds=true:=by
 cases d with
 |int i=>exact .inl ⟨i,rfl⟩
 |str x=>exact .inr (.inl ⟨x,rfl⟩)
 |tup ds=>exact .inr (.inr ⟨ds,rfl,by rw[<-yW];exact h⟩)
 |_=>rw[pd]at h<;>first |cases h|(intros;simp)
def dec_is{p:Prop}[Decidable p]{q:Prop}[Decidable q](h:p↔q):decide p=decide q:=by
 by_cases a:q
 .rw[dT0 a,dT0 (h.mpr a)]
 .rw[dF0 a,dF0 λz=>a (h.mp z)]
theorem uO{e:MV->MV->Option Bool}: ∀{ds es:C1},(∀d∈ds, ∀f∈es,e d f=some (decide (d=f)))-> ∃bs,BH e ds es=some bs/\(bs.all id&&ds.length==es.length)=decide (ds=es)
 |[],[],_=>⟨[],rfl,by simp⟩
 |[],_::_,_=>⟨[],rfl,by simp⟩
 |_::_,[],_=>⟨[],rfl,by simp⟩
 |d::ds,f::es,h=>by
  obtain⟨bs,h1,c⟩:=uO (e:=e) (ds:=ds) (es:=es) λa i b j=>h a (mO _ i) b (mO _ j);refine⟨decide (d=f)::bs,?_,?_⟩
  .unfold BH;rw[h d mF0 f mF0,h1];rfl
  .by_cases hd:d=f
   .subst hd;rw[List.all_cons,dT0 rfl];simp only[id,Bool.true_and,lC];rw[show(ds.length+1==es.length+1)=(ds.length==es.length) by simp,c];exact dec_is (by simp)
   .rw[List.all_cons,dF0 hd];rw[dF0 (show¬(d::ds=f::es)from λz=>hd (List.cons.inj z).1)];rfl
theorem fR{S:Sto}: ∀(n:Nat){d e:MV},pd d=true->pd e=true->vI d<n->eqv S n d e=some (decide (d=e))
 |0,d,e,_,_,h=>by omega
 |n+1,d,e,hd,he,h=>by
  rcases PD hd with⟨i,rfl⟩|⟨x,rfl⟩|⟨ds,rfl,pds⟩<;>rcases PD he with⟨j,rfl⟩|⟨y,rfl⟩|⟨es,rfl,pes⟩
  .rw[JZ];exact congrArg some (dec_is (by simp))
  .rw[Sa,dF0 (by simp)]
  .rw[dF0 (by simp)];rfl
  .rw[Sb,dF0 (by simp)]
  .rw[uA];exact congrArg some (dec_is (by simp))
  .rw[dF0 (by simp)];rfl
  .rw[dF0 (by simp)];rfl
  .rw[dF0 (by simp)];rfl
  .rw[gH]at h;obtain⟨bs,h1,k⟩:=uO (e:=eqv S n) (ds:=ds) (es:=es) λa c b m=>fR n (LL pds a c) (LL pes b m) (by have:=PC a c;omega);show((BH (eqv S n) ds es).map λbs=>bs.all id&&ds.length==es.length)=_;rw[h1];show some (bs.all id&&ds.length==es.length)=_;rw[k];exact congrArg some (dec_is (by simp))
def Lb{d e:MV}(hd:pd d=true)(a:pd e=true)(h:vI d<40):vU (.val d) (.val e) S=#[.bl (decide (d=e)),S,1]:=EH (fR (zG+1) hd a (by unfold zG;omega))
theorem PF{S:Sto}{d:MV}(hd:pd d=true): ∀{ys:C1},(∀y∈ys,pd y=true/\vI y<40)->NT S zG d ys=some (ys.map λy=>decide (y=d))
 |[],_=>rfl
 |y::ys,h=>by have h1:=h y mF0;unfold NT;rw[fR zG h1.1 hd (by unfold zG;exact h1.2),PF hd λz a=>h z (mO _ a)];rfl
def SqM(S:Sto)(m:MV)(ds:C1):Prop:=m=.tup ds\/ ∃l,m=.loc l/\S[l]? =#[ds,2]
def SqM.len{ds:C1}(h:SqM S m ds):mW [.val m] S=.ok #[ds.length,5] S:=by
 rcases h with rfl|⟨l,rfl,hS⟩
 .rfl
 .exact kU hS
def SqM.app{ds:C1}(h:SqM S m ds):SqM (S++T) m ds:=by
 rcases h with h|⟨l,h,hS⟩
 .exact .inl h
 .exact .inr ⟨l,h,by rw[á (gS.mp hS).1];exact hS⟩
def dL{n:Nat}{F:List MV->Sto->R Er}{r:Er}{ds:C1}{as:C1}{S2:Sto}(b:rs.length=n)(d:zF rs S=(as,S2))(e:F as S2=.ok r (S++T))(c:r=.new ds\/ ∃l,r=#[l,1]/\↑1<=l/\(S++T)[l]? =#[ds,2])(h:rY ↑1 ds):zK n F rs S=#[ds,S,2]:=by
 have a:F (zF rs S).1 (zF rs S).2=.ok r (S++T):=by rw[d];exact e
 rcases c with rfl|⟨l,rfl,h1,h2⟩
 .exact tY b a h
 .exact tZ b a h1 h2 h
theorem Lc(a:Bool)(p:Er)(l:Nat)(S:Sto):CT a p #[l,1] S=JX a p #[l,1] S:=by
 unfold CT;split
 .rename_i h;cases h
 .rfl
def iV{l:Nat}{d:MV}{ys:C1}(a:Bool)(c:S[l]? =#[ys,2])(hd:pd d=true)(h: ∀y∈ys,pd y=true/\vI y<40):CT a (.val d) #[l,1] S=#[.bl (if a=true then !decide (d∈ys)else decide (d∈ys)),S,1]:=by
 have i:itemsOf S #[l,1]=some ys:=by unfold itemsOf;exact lY c
 rw[Lc];unfold JX;dsimp only;rw[i];dsimp only;rw[PF hd h];dsimp only
 have j:(ys.map λy=>decide (y=d)).any id=decide (d∈ys):=by
  rw[List.any_map];by_cases b:d∈ys
  .rw[dT0 b,List.any_eq_true];exact⟨d,b,by simp⟩
  .rw[dF0 b];rw[List.any_eq_false];intro y e;simp only[Function.comp,id,decide_eq_true_eq];rintro rfl;exact b e
 rw[j]
theorem gt_int(i j:Int)(S:Sto):gtF #[i,5] #[j,5] S=#[.bl (decide (j<i)),S,1]:=rfl
noncomputable abbrev vK:List Nat:=[118,97,114]
noncomputable abbrev IS:List Nat:=[105,115]
def jS(d:MV):Prop:=(∃x,d=.tup [.str vK,.str x])\/ ∃v,((∃i,v=.int i)\/ ∃x,v=.str x)/\d=.tup [.str IS,v]
mutual
theorem fS{n:Nat}: ∀{d:MV},pd d=true->lo n d
 |.int i,_=>vY n i
 |.str x,_=>RM n x
 |.tup ds,h=>RN (LM (by rw[yW]at h;exact h))
 |.non,_=>Bq n
 |.bl b,_=>Yb n b
 |.scr ds,h=>by unfold pd at h;cases h
 |.loc l,h=>by unfold pd at h;cases h
 |.typ t,h=>by unfold pd at h;cases h
theorem LM{n:Nat}: ∀{ds:C1},MU ds=true->rY n ds
 |[],_=>gV λd hd=>by simp at hd
 |d::ds,h=>by rw[yC,aE]at h;unfold rY;exact⟨fS h.1,LM h.2⟩
end
def UY{d:MV}(h:jS d):pd d=true/\vI d<=1:=by
 rcases h with⟨x,rfl⟩|⟨v,⟨i,rfl⟩|⟨x,rfl⟩,rfl⟩
 .exact⟨by rw[yW,yC,yC,cZ,nG,nG];rfl,by rw[gH,yS,yS,mH,dA,dA];decide⟩
 .exact⟨by rw[yW,yC,yC,cZ,nG,AT];rfl,by rw[gH,yS,yS,mH,dA,rK];decide⟩
 .exact⟨by rw[yW,yC,yC,cZ,nG,nG];rfl,by rw[gH,yS,yS,mH,dA,dA];decide⟩
def vn:MV->Option (List Nat)
 |.tup [.str w,.str x]=>if w=vK then some x else none
 |_=>none
def AU(x:Db):vn (.tup [.str vK,.str x])=some x:=by simp[vn]
def PH(S:Sto):vU (.val (.str vK)) (.val (.str vK)) S=#[.bl true,S,1]:=by rw[eq_str,dT0 rfl]
def Dh(S:Sto):vU (.val (.str IS)) (.val (.str vK)) S=#[.bl false,S,1]:=by rw[eq_str,dF0 (by decide)]
def zL(S:Sto)(o:MO):(S++[o])[↑1]? =some o:=by simp
def bR(S:Sto)(o o':MO):(S++[o]).set ↑1 o'=S++[o']:=by simp
def DI{fs:Ch}: ∀y∈fs.map MV.str,pd y=true/\vI y<40:=λd hd=>by obtain⟨u,_,rfl⟩:=mM.mp hd;exact⟨nG u,by rw[dA];decide⟩
def DL{x:Db}{fs:Ch}:MV.str x∈fs.map MV.str↔x∈fs:=⟨λh=>by obtain⟨u,a,e⟩:=mM.mp h;cases e;exact a,λh=>mM.mpr ⟨x,h,rfl⟩⟩
theorem Di(a b:MV)(S:Sto):iC #[[a,b],6] #[0,5] S=#[a,S,1]:=rfl
theorem Dj(a b:MV)(S:Sto):iC #[[a,b],6] #[1,5] S=#[b,S,1]:=rfl
def SqM.itQ{ds:C1}(h:SqM S m ds): ∃gs,(∀T,stay gs (S++T))/\ ∀T,itQ (.val m) (S++T)=.ok ⟨ds,gs⟩ (S++T):=by
 rcases h with rfl|⟨l,rfl,hS⟩
 .exact⟨[],λT=>nN _,λT=>rfl⟩
 .have a: ∀T,(S++T)[l]? =#[ds,2]:=λT=>by rw[á (gS.mp hS).1];exact hS
  refine⟨[(l,ds)],λT=>yI (a T),λT=>?_⟩;have e:srcOf (S++T) #[l,1]=some ⟨true,ds,[(l,ds)]⟩:=by unfold srcOf;dsimp only;rw[a T]
  unfold L2.M.itQ;rw[e]
def PJ{kvs:C7}{k:MV}(h:(look kvs k).isSome=true):k∈kvs.map (·.1):=by unfold look at h;rw[Option.isSome_map]at h;obtain⟨p,a⟩:=ï.mp h;have h1:=List.find?_some a;exact mM.mpr ⟨p,List.mem_of_find?_eq_some a,Ę h1⟩
def tup2(a b:MV)(S:Sto):xR [.val a,.val b] S=.ok #[[a,b],6] S:=KB (by simp)
theorem FE(ds:C1)(S:Sto):Hs #[ds,6] S=.ok ⟨ds,[]⟩ S:=rfl
def lst1(a:MV)(S:Sto):xW [.val a] S=#[[a],S,2]:=sS (by simp)
noncomputable def pQ(ks:Ch)(x:Db):List (List Nat):=if x∈ks then ks else ks++[x]
def Dk(ks:Ch)(x y:Db):y∈pQ ks x↔y∈ks\/y=x:=by
 unfold pQ;split
 .rename_i h;exact⟨.inl,λz=>z.elim id λe=>e▸h⟩
 .rw[é,mS]
def Ld{ks:Ch}(h:ks.Nodup)(x:Db):(pQ ks x).Nodup:=by
 unfold pQ;split
 .exact h
 .rename_i d;exact ĥ.mpr ⟨h,by simp,λa c b e=>by rw[mS.mp e];rintro rfl;exact d c⟩
def FF(ks:Ch)(x:Db):(pQ ks x).length<=ks.length+1:=by
 unfold pQ;split
 .omega
 .rw[lA,lS];omega
def yX(ks xs:Ch):List (List Nat):=xs.foldl pQ ks
theorem qP: ∀(xs ks:Ch)(y:Db),y∈yX ks xs↔y∈ks\/y∈xs
 |[],ks,y=>by simp[yX]
 |x::xs,ks,y=>by show y∈yX (pQ ks x) xs↔_;rw[qP xs,Dk,mC,or_assoc]
theorem DM: ∀(xs:Ch){ks:Ch},ks.Nodup->(yX ks xs).Nodup
 |[],_,h=>h
 |x::xs,_,h=>DM xs (Ld h x)
theorem qQ: ∀(xs ks:Ch),(yX ks xs).length<=ks.length+xs.length
 |[],ks=>à _
 |x::xs,ks=>by have h1:=qQ xs (pQ ks x);have a:=FF ks x;show(yX (pQ ks x) xs).length<=_;rw[lC];omega
noncomputable def dT(ks:Ch):List (MV×MV):=ks.map λx=>(.str x,.bl true)
theorem UZ(ks:Ch):(dT ks).map (·.1)=ks.map MV.str:=by unfold dT;rw[Ĳ];rfl
def Lf(ks:Ch)(x:Db):(look (dT ks) (.str x)).isSome=decide (x∈ks):=by
 by_cases h:x∈ks
 .rw[dT0 h];unfold look;rw[Option.isSome_map,List.find?_isSome];exact⟨(.str x,.bl true),mM.mpr ⟨x,h,rfl⟩,by simp⟩
 .rw[dF0 h]
  cases z:(look (dT ks) (.str x)).isSome with
  |false=>rfl
  |true=>
   have:=PJ z;rw[UZ]at this;exact absurd (DL.mp this) h
theorem Uo(ks:Ch)(x:Db):putK (dT ks) (.str x) (.bl true)=dT (pQ ks x):=by
 unfold putK pQ;rw[Lf];by_cases h:x∈ks
 .rw[iP h,iP (dT0 h)];unfold dT;rw[Ĳ];refine Ė λy _=>?_;show(if MV.str y=MV.str x then(MV.str y,MV.bl true)else(MV.str y,MV.bl true))=_;split<;>rfl
 .rw[iN h,iN (by rw[dF0 h];exact xF0)];unfold dT;rw[ð];rfl
theorem Nf(ks:Ch):(dT ks).all (λp=>tD p.1)=true:=by unfold dT;rw[all_map,ą];intro x _;rfl
def Dl{l:Nat}{kvs:C7}(h:S[l]? =#[kvs,7])(a:kvs.all (λp=>tD p.1)=true):uG S #[l,1]=some (l,kvs):=by unfold uG;dsimp only;rw[h];dsimp only;rw[iP a]
def Lg{l:Nat}{ks:Ch}(h:S[l]? =#[dT ks,7])(a:ks.length<1000000)(x:Db)(ρ:Rho):IE #[l,1] (.val (.str x)) (.bl true) ρ S=.ok ρ (S.set l (.dic (dT (pQ ks x)))):=by unfold IE;dsimp only;rw[Dl h (Nf ks)];dsimp only;rw[iP ⟨rfl,by unfold dT;rw[lM];exact a⟩,Uo]
def Dm{l:Nat}{ks:Ch}(h:S[l]? =#[dT ks,7]):AG [#[l,1]] S=#[ks.map MV.str,S,2]:=by unfold AG;dsimp only;rw[Dl h (Nf ks)];dsimp only;rw[UZ]
theorem mI{α:Type}{f g:α->MV}{S:Sto}{gf:MV->Rho->Sto->R Rho}{cf:AZ}{ef:AX}{ρb:Rho}{gs:C6}(hs:stay gs S):
  ∀{ds:List α},(∀d∈ds, ∃ρ1,gf (f d) ρb S=.ok ρ1 S/\cf ρ1 S=.ok true S/\ef ρ1 S=#[g d,S,1])->yE gf cf ef ρb gs (ds.map f) S=.ok (ds.map g) S
 |[],_=>rfl
 |d::ds,st=>by obtain⟨ρ1,h1,a,b⟩:=st d mF0;have e:=mI hs (f:=f) (g:=g) (ds:=ds) λd hd=>st d (mO _ hd);rw[ä];unfold yE;rw[h1,yL,jG,a,yL,jG,iP rfl,b,yL,jG];unfold wO;rw[jG,iP hs,e];rfl
def YX(ds:List α)(j:Nat):fY ds none (some (j:Int))=ds.take j:=by
 unfold fY;rw[HT.sIx_nat,show HT.sIx ds.length 0 none=0 from rfl,drop_zero,Nat.sub_zero];by_cases h:j<=ds.length
 .rw[min_eq_left h]
 .rw[min_eq_right (by omega),Ā (à _),Ā (by omega)]
def AV(ds:List α)(j:Nat):fY ds (some (j:Int)) none=ds.drop j:=by
 unfold fY;rw[HT.sIx_nat,show HT.sIx ds.length ds.length none=ds.length from rfl];by_cases h:j<=ds.length
 .rw[min_eq_left h,Ā (by rw[þ];exact à _)]
 .rw[min_eq_right (by omega),drop_of_length_le (à _),drop_of_length_le (show ds.length<=j by omega),List.take_nil]
def Ze{xs:List α}{k:Nat}{x:α}(h:xs[k]? =some x):tI xs (k:Int)=some x:=L2.atI_nat h
theorem LN(ds:C1)(l h:B7)(S:Sto):vV #[ds,6] l h S=.ok #[fY ds l h,6] S:=rfl
noncomputable abbrev nH(k:Nat):MV:=.int (k:Int)
def Do{n:Nat}(h:n<=1000)(S:Sto):eE [#[(n:Int),5]] S=.ok ⟨(List.range n).map nH,[]⟩ S:=by rw[vZ (by omega),Ď]
theorem FG{α:Type}{f g:α->MV}{p:α->Bool}{S:Sto}{gf:MV->Rho->Sto->R Rho}{cf:AZ}{ef:AX}{ρb:Rho}{gs:C6}(hs:stay gs S):
  ∀{ds:List α},(∀d∈ds, ∃ρ1,gf (f d) ρb S=.ok ρ1 S/\cf ρ1 S=.ok (p d) S/\ef ρ1 S=#[g d,S,1])->yE gf cf ef ρb gs (ds.map f) S=.ok ((ds.filter p).map g) S
 |[],_=>rfl
 |d::ds,st=>by
  obtain⟨ρ1,h1,b,c⟩:=st d mF0;have e:=FG hs (f:=f) (g:=g) (p:=p) (ds:=ds) λd hd=>st d (mO _ hd);rw[ä];unfold yE
  cases a:p d with
  |true=>
   rw[h1,yL,jG,b,yL,jG,a,iP rfl,c,yL,jG];unfold wO;rw[jG,iP hs,e,List.filter_cons_of_pos a];rfl
  |false=>
   rw[h1,yL,jG,b,yL,jG,a,iN xF0,iP hs,e,List.filter_cons_of_neg (by rw[a];exact xF0)]
def lQ(S T:Sto)(o:MO):(S++o::T)[↑1]? =some o:=by simp
def VA(S T:Sto)(o o':MO):(S++o::T).set ↑1 o'=S++o'::T:=by simp
theorem Dp{n:Nat}{F:List MV->Sto->R Er}{kvs:C7}(b:rs.length=n)(a:F (zF rs S).1 (zF rs S).2=.ok #[↑1,1] (S++.dic kvs::T)):zK n F rs S=.ok #[↑1,1] (S++.dic kvs::T):=by
 unfold zK;rw[iP b,a];show jF S #[↑1,1] (S++.dic kvs::T)=_;unfold jF;dsimp only;split
 .rw[iN (ı _),lQ]
 .rfl
def VB{l:Nat}{ds:C1}(h:S[l]? =#[ds,2]):EC #[l,1] S=.ok (!ds.isEmpty) S:=by unfold EC;dsimp only;rw[h]
theorem Lh(ds:C1)(S:Sto):Ye [#[ds,6]] S=.ok ⟨RR ds,[]⟩ S:=rfl
def Li{l:Nat}{ds es:C1}(a:S[l]? =#[ds,2])(hz:ds.length+es.length<=1000000):Kf #[l,1] [.new es] S=#[.non,S.set l (.lst (ds++es)),1]:=by show GN #[l,1] S (λds=>if ds.length+es.length<=sizeLine then some (ds++es)else none)=_;unfold GN;dsimp only;rw[a];dsimp only;rw[iP (fits hz)]
noncomputable def abc:List Nat:=[97,98,99,100,101,102,103,104,105,106,107,108,109,110,111,112,113,114,115,116,117,118,119,120,121,122]
def rM(ws:Ch)(n:Nat):rY n #[ws,8]:=gV λd hd=>by obtain⟨x,_,rfl⟩:=mM.mp hd;exact RM _ _
abbrev VS(v:MV):Prop:=(∃i,v=.int i)\/ ∃x,v=.str x
def qS{v:MV}(h:VS v):pd v=true/\vI v<40:=by
 rcases h with⟨i,rfl⟩|⟨x,rfl⟩
 .exact⟨AT i,by rw[rK];decide⟩
 .exact⟨nG x,by rw[dA];decide⟩
def Zf{vs:C1}(h: ∀v∈vs,VS v)(n:Nat):rY n vs:=gV λd hd=>fS (qS (h d hd)).1
theorem Dq{l:Nat}{ds:C1}(a:S[l]? =#[ds,2]):RH #[l,1] (.new []) S=#[.bl (!ds.isEmpty),S,1]:=by
 have e:HR S #[l,1]=some (.ls ds):=by show(jL S #[l,1]).map Vw.ls=_;rw[lY a];rfl
 unfold RH CN;rw[e]
 cases ds with
 |nil=>rfl
 |cons d ds=>rfl
theorem rN(a:Za)(k:Int)(p:0<=k)(S:Sto): ∃c,zK 2 zS [.val (.scr (a.map MV.int)),#[k,5]] S=.ok #[c,5] S:=by
 have j:mW [.val (.scr (a.map MV.int))] S=.ok #[a.length,5] S:=by show R.ok (Er.val (.int (((a.map MV.int).length:Nat):Int))) S=_;rw[lM]
 have m:kZ [some (.scr (a.map MV.int)),#[k,0]] S=if decide (k<a.length)=true then(iC (.val (.scr (a.map MV.int))) #[k,5] S).bind λr S1=>.ok (.ret r) S1 else #[[some (.scr (a.map MV.int)),#[k,0]],S,0]:=by unfold kZ;simp? [j,lt_int]
 have fin: ∀c,zS [.scr (a.map MV.int),.int k] S=.ok #[c,5] S-> ∃c,zK 2 zS [.val (.scr (a.map MV.int)),#[k,5]] S=.ok #[c,5] S:=λc h=>⟨c,lX rfl h (vY _ _) (λl=>by simp)⟩
 have hs:zU ["_law_script","_law_k"] [.scr (a.map MV.int),.int k]=[some (.scr (a.map MV.int)),#[k,0]]:=rfl;by_cases b:k<a.length
 .obtain⟨d,hd⟩:=KA (xs:=a.map MV.int) (i:=k) p (by rw[lM];exact b);obtain⟨c,rfl⟩: ∃c,d=.int c:=UA (P:=λd=> ∃c,d=.int c) (λe o=>by obtain⟨c,_,rfl⟩:=mM.mp o;exact⟨c,rfl⟩) hd;have n:iC (.val (.scr (a.map MV.int))) #[k,5] S=.ok #[c,5] S:=by show(match tI (a.map MV.int) k with |some d=>R.ok (Er.val d) S|none=>.no)=_;rw[hd]
  refine fin c ?_;rw[dT0 b,iP rfl,n,jG]at m;unfold zS bA;rw[hs,mX m];rfl
 .refine fin 0 ?_;rw[dF0 b,iN xF0]at m;unfold zS bA;rw[hs,zC m];rfl
theorem pp30(S:Sto):Ib #[10,5] #[30,5] S=.ok #[10 ^ 30,5] S:=rfl
def Uq{a:Int}(h:0<=a/\a<4294967296)(S:Sto):vT #[a,5] #[a,5] S=.ok #[a * a,5] S:=
 CW ⟨Int.lt_of_lt_of_le (by decide) h.1,Int.lt_trans h.2 (by decide)⟩ a S
theorem tF(S:Sto)(a b:MO):(S++[a,b])[↑1+1]? =some b:=by rw[æ (by omega),show ↑1+1 - ↑1=1 by omega];rfl
theorem Dr: ∀(fs:Ch)(i:Nat),(fs.map MV.str).eraseIdx i=(fs.eraseIdx i).map MV.str
 |[],_=>rfl
 |_::_,0=>rfl
 |c::fs,i+1=>congrArg (MV.str c::·) (Dr fs i)
def Lj{l:Nat}{ds:C1}{i:Int}{d:MV}(a:S[l]? =#[ds,2])(b:0<=i)(h1:i<ds.length)(e:ds.length<1000)(hd:ds[i.toNat]? =some d):YA #[l,1] [#[i,5]] S=#[d,S.set l (.lst (ds.eraseIdx i.toNat)),1]:=by
 have c:JF ds.length i=some i.toNat:=by unfold JF;rw[iP b,iP h1]
 unfold YA;dsimp only;rw[a];dsimp only;rw[iP ⟨by omega,by omega⟩,c];dsimp only;rw[hd]
def Dt{u n k:Nat}{ds:C1}(i:S[u]? =#[ds,2])(j:S[n]? =#[ds,2])(a: ∀d∈ds,pd d=true/\vI d<k):eqv S (k+1) (.loc u) (.loc n)=some true:=by
 have e: ∀l,S[l]? =#[ds,2]->HR S #[l,1]=some (.ls ds):=λl h=>by show(jL S #[l,1]).map Vw.ls=_;rw[lY h];rfl
 obtain⟨bs,h1,b⟩:=uO (e:=eqv S k) (ds:=ds) (es:=ds) λd hd f c=>fR k (a d hd).1 (a f c).1 (a d hd).2;rw[dT0 rfl,aE]at b;unfold eqv;rw[e u i,e n j];show(if ds.length=ds.length then(BH (eqv S k) ds ds).map λbs=>bs.all id else some false)=_;rw[iP rfl,h1];show some (bs.all id)=_;rw[b.1]
def LO{L:Sto}{n i:Nat}(h:B.length=n):(B++L)[n+i]? =L[i]? :=by rw[æ (by omega),h,Nat.add_sub_cancel_left]
def zD{L:Sto}{m:Nat}(h:B[m]? =some o):(B++L)[m]? =some o:=by rw[á (gS.mp h).1];exact h
def zE{F G:AY}{ρ ρ':Rho}{S':Sto}{r:R Fl}(h:F ρ S=#[ρ',S',0])(k:G ρ' S'=r):zI F G ρ S=r:=(zC h).trans k
theorem nI{X:R Fl}{r:Er}(h:X=.ok (.ret r) S):yD X=.ok r S:=by rw[h];rfl
theorem aQ{gf:MV->Rho->Sto->R Rho}{body:AY}{n:Nat}(I:Nat->Rho->Sto->Prop): ∀(L:C1)(i:Nat){ρ:Rho}{S:Sto},i+L.length<=n->I i ρ S->(∀d∈L, ∀i,i<n-> ∀ρ S,I i ρ S-> ∃b a S',gf d ρ S=.ok b S/\body b S=#[a,S',0]/\I (i+1) a S')-> ∃a S',wF gf body [] L ρ S=#[a,S',0]/\I (i+L.length) a S'
 |[],i,ρ,S,_,h,_=>⟨ρ,S,rfl,h⟩
 |d::L,i,ρ,S,hn,h,st=>by rw[lC]at hn ⊢;obtain⟨b,ρ1,S1,h1,c,k⟩:=st d mF0 i (by omega) ρ S h;obtain⟨a,S',m,o⟩:=aQ I L (i+1) (by omega) k λe j=>st e (mO _ j);exact⟨a,S',by rw[zZ h1 c (nN _),m],by rw[show i+(L.length+1)=i+1+L.length by omega];exact o⟩
def md{x n:Int}(h:0<n:=by decide):0<=x % n/\x % n<n:=⟨eN _ (by omega),eL _ h⟩
section
variable{gf:MV->Rho->Sto->R Rho}{cf:AZ}{ef:AX}{ρb ρ1:Rho}{gs:C6}{d y:MV}{ds out:C1}{S S1 S2:Sto}
theorem uP(h1:gf d ρb S=.ok ρ1 S)(b:cf ρ1 S=.ok true S)(e:ef ρ1 S=#[y,S1,1])(a:stay gs S1)(c:yE gf cf ef ρb gs ds S1=.ok out S2):yE gf cf ef ρb gs (d::ds) S=.ok (y::out) S2:=by unfold yE;rw[h1,yL,jG,b,yL,jG,iP rfl,e,yL,jG];unfold wO;rw[jG,iP a,c];rfl
def VC(h1:gf d ρb S=.ok ρ1 S)(a:cf ρ1 S=.ok false S)(b:stay gs S)(c:yE gf cf ef ρb gs ds S=.ok out S2):yE gf cf ef ρb gs (d::ds) S=.ok out S2:=by unfold yE;rw[h1,yL,jG,a,yL,jG,iN xF0,iP b,c]
end
noncomputable abbrev Wl(S:Sto)(l:Nat)(x:Int):Sto:=S.set l (.lst [.int x])
def Du{l:Nat}(h:l<↑1)(x:Int):(Wl S l x)[l]? =#[[.int x],2]:=ė h
def nO{l m:Nat}(h:l≠m)(x:Int):(Wl S l x)[m]? =S[m]? :=Ĥ h
def Ng(S:Sto)(l:Nat)(x y:Int):(Wl S l x).set l (.lst [.int y])=Wl S l y:=List.set_set ..
def cJ(S:Sto)(l:Nat)(x:Int):(Wl S l x).length=S.length:=Ą ..
def pN(S:Sto)(x:Int):S++[.lst [.int x]]=Wl (S++[.lst []]) ↑1 x:=by simp[Wl]
def cK{l:Nat}(h:l<↑1)(x:Int)(T:Sto):Wl S l x++T=Wl (S++T) l x:=by unfold Wl;rw[ĳ _ _ h]
theorem LP{l:Nat}(h:l<↑1)(x:Int)(o o':MO):(Wl (S++[o]) l x).set ↑1 o'=Wl (S++[o']) l x:=by unfold Wl;rw[ĳ _ _ h,ĳ _ _ h];rw[ġ _ _ (by rw[Ą];exact à _),Ą,sub_self];rfl
def uQ{l:Nat}(h:l<↑1)(x:Int)(o:MO):(Wl (S++[o]) l x)[↑1]? =some o:=by rw[nO (ë h)];simp
def Ur{l:Nat}(x:Int)(T:Sto):NP S (Wl S l x++T):=by
 refine⟨by rw[lA,cJ];exact đ _ _,λm a=>?_⟩;rw[á (by rw[cJ];exact a)];by_cases e:l=m
 .subst e;exact .inr ⟨_,Du a x,gV λe b=>by rw[mS.mp b];exact vY _ _⟩
 .exact .inl (nO e x)
def VD{l:Nat}(y x:Int)(T:Sto):NP (Wl S l y) (Wl S l x++T):=by have:=Ur (S:=Wl S l y) (l:=l) x T;rw[show Wl (Wl S l y) l x=Wl S l x from Ng S l y x]at this;exact this
def VE(S:Sto)(l:Nat)(x:Int)(T:Sto){n:Nat}(h:n=↑1):(Wl S l x++T).take n=Wl S l x:=by rw[h,List.take_append_of_le_length (by rw[cJ];exact à _),Ā (by rw[cJ];exact à _)]
def uR{n:Nat}{F:List MV->Sto->R Er}{l:Nat}{x y:Int}{d:MV}(b:rs.length=n)(a:F (zF rs (Wl S l x)).1 (zF rs (Wl S l x)).2=#[d,Wl S l y++T,1])(h:lo ↑1 d)(hd: ∀l,d≠.loc l):zK n F rs (Wl S l x)=#[d,Wl S l y,1]:=by
 unfold zK;rw[iP b,a,yL,jG];unfold jF;rw[iP (VD x y T)];have e:=VE S l y T (n:=(Wl S l x).length) (cJ S l x);have h':lo (Wl S l x).length d:=by rw[cJ];exact h
 cases d with
 |loc m=>exact absurd rfl (hd m)
 |_=>dsimp only;rw[iP h',e]
def BQ{n:Nat}{F:List MV->Sto->R Er}{l m:Nat}{x y:Int}{ds:C1}(c:rs.length=n)(b:F (zF rs (Wl S l x)).1 (zF rs (Wl S l x)).2=.ok #[m,1] (Wl S l y++T))(d:↑1<=m)(a:(Wl S l y++T)[m]? =#[ds,2])(h:rY ↑1 ds):zK n F rs (Wl S l x)=#[ds,Wl S l y,2]:=by unfold zK;rw[iP c,b,yL,jG];unfold jF;rw[iP (VD x y T)];dsimp only;rw[cJ,iN (by omega),a];dsimp only;rw[iP h,VE S l y T rfl]
section
variable{S:Sto}{l:Nat}{x:Int}
theorem PK{n:Int}(d:l<↑1)(i:0<n)(hd: ∀(a:Int)(S:Sto),XH #[a,5] #[n,5] S=.ok #[a / n,5] S):zK 2 zB [#[l,1],#[n,5]] (Wl S l x)=.ok #[x % n,5] (Wl S l (x / n)):=by
 have hs:zU BO [.loc l,.int n]=[#[l],#[n,0],none]:=rfl;have c:tI [MV.int x] 0=#[x,0]:=rfl;have b:=Du d x;have h:cP [#[l],#[n,0],none] (Wl S l x)=#[[#[l],#[n,0],#[x % n,0]],Wl S l x,0]:=by unfold cP;simp? [EI b c,mod_lit i]
 have e:cQ [#[l],#[n,0],#[x % n,0]] (Wl S l x)=#[[#[l],#[n,0],#[x % n,0]],Wl S l (x / n),0]:=by unfold cQ;simp? [EI b c,hd,LK,Dg b (show JF [MV.int x].length 0=some 0 from rfl)];exact congrArg _ (Ng S l x (x / n))
 refine uR (T:=[]) rfl ?_ (vY _ _) (λl=>by simp);show zB [.loc l,.int n] (Wl S l x)=_;unfold zB qM;rw[hs,zC h,zC e,aN];rfl
def yV{n:Int}(b:l<↑1)(a:0<n:=by decide)(h1:n<1073741824:=by decide):zK 2 zB [#[l,1],#[n,5]] (Wl S l x)=.ok #[x % n,5] (Wl S l (x / n)):=PK b a (TZ a h1)
def LR(a:l<↑1): ∃y z,y.length<=8/\zK 1 kP [#[l,1]] (Wl S l x)=#[.str y,Wl S l z,1]:=by have o:=md (x:=x) (n:=8);obtain⟨_,_,e,y,z,k,rfl,rfl,j⟩:=aQ (gf:=zW 3) (body:=cR) (n:=9) (λi ρ S'=> ∃(y:Db)(z:Int)(k:C4),ρ=[#[l],#[abc,4],#[y,4],k]/\S'=Wl S l z/\y.length=i) ((List.range (1+x % 8).toNat).map nH) 0 (by rw[lM,Ē];omega) ⟨[],x / 8,none,rfl,rfl,rfl⟩ (λd _ i hi ρ S1 ⟨y,z,k,h1,b,h⟩=>by subst h1 b;obtain⟨c,m⟩:=KA (xs:=abc) (i:=z % 26) (md (by decide)).1 (md (x:=z) (n:=26)).2;refine⟨_,_,_,rfl,?_,y++[c],z / 26,some d,rfl,rfl,by simp[h]⟩;unfold cR dW;simp? [yV (n:=26) a,ix_str (show abc.length<=sizeLine by rw[Ĕ];decide) m];rw[add_str (fits (by rw[lS];omega))];rfl);refine⟨y,z,by simp at j;omega,uR (T:=[]) rfl ?_ (RM _ _) (λl=>by simp)⟩;rw[aN];show yD (qN [#[l],none,none,none] (Wl S l x))=_;refine nI (zE rfl (zE rfl (zE (ρ':=[#[l],#[abc,4],#[y,4],k]) (S':=Wl S l z) ?_ rfl)));unfold lD;simp? [yV (n:=8) a];rw[vZ (by omega),jG];exact e
end
def cL(c:Int)(S:Sto): ∃t,zK 1 yA [#[c,5]] S=#[[.int t],S,2]:=by
 obtain⟨t,h⟩: ∃t,cO [#[c,0],none,none,none,none,none] S=.ok (.ret (.new [.int t])) S:=by
  unfold cO;have q:jW [#[c,0],none,none,none,none,none] S=#[[#[c,0],#[c / 2,0],none,none,none,none],S,0]:=by unfold jW;simp? [TZ (b:=2) (by decide) (by decide)]
  by_cases s:c % 2=0
  .refine⟨c / 2,zE q (mX ?_)⟩;unfold jX;simp? [mod_lit (show(0:Int)<2 by decide),dT0 s]
  .obtain⟨_,_,e,n,t,k,o,rfl,rfl⟩:=aQ (gf:=zW 4) (body:=jV) (n:=16) (λ_ ρ S'=> ∃(n t:Int)(k o:C4),ρ=[#[c,0],#[c / 2,0],#[n,0],#[t,0],k,o]/\S=S') ((List.range 16).map nH) 0 (by decide) ⟨c / 2 % 2147483647,0,none,none,rfl,rfl⟩ (λd hd i _ ρ S1 ⟨n,t,k,o,h1,u⟩=>by
    subst h1 u;obtain⟨j,_,rfl⟩:=mM.mp hd;have r:=md (x:=n * 48271+7919 * (j:Int)+11) (n:=2147483647);obtain⟨m,p⟩: ∃m,m=(n * 48271+7919 * (j:Int)+11) % 2147483647:=⟨_,rfl⟩
    rw[<-p]at r;refine⟨_,_,_,rfl,?_,m,t * 2147483587+m * m % 2147483629 * 69621 % 2147483587,some (nH j),#[m * m % 2147483629,0],rfl,rfl⟩;unfold jV;apply zE
    .unfold bB;simp? [CW (show -(2 ^ 64)<(48271:Int)/\(48271:Int)<2 ^ 64 by decide),NZ (show -(2 ^ 64)<(7919:Int)/\(7919:Int)<2 ^ 64 by decide),mod_lit (show(0:Int)<2147483647 by decide), <-p];rfl
    apply zE
    .unfold bC;simp? [Uq (a:=m) ⟨r.1,by omega⟩,mod_lit (show(0:Int)<2147483629 by decide)];rfl
    unfold bD;simp? [CW (show -(2 ^ 64)<(2147483587:Int)/\(2147483587:Int)<2 ^ 64 by decide),CW (show -(2 ^ 64)<(69621:Int)/\(69621:Int)<2 ^ 64 by decide),mod_lit (show(0:Int)<2147483587 by decide)])
   refine⟨t,zE q ?_⟩;apply zE
   .unfold jX;simp? [mod_lit (show(0:Int)<2 by decide),dF0 s,fT,iF];rfl
   apply zE
   .unfold dR;simp? [mod_lit (show(0:Int)<2147483647 by decide)];rfl
   refine zE rfl (zE (ρ':=[#[c,0],#[c / 2,0],#[n,0],#[t,0],k,o]) (S':=S) ?_ ?_)
   .unfold dS;simp? [vZ (S:=S) (j:=16) (by decide)];exact e
   unfold dU;simp? [jG]
 exact⟨t,dL (T:=[]) rfl rfl (by rw[aN];exact nI h) (.inl rfl) (gV λe v=>by rw[mS.mp v];exact vY _ _)⟩
noncomputable abbrev PP(M:Int)(l m:Nat)(k w v:C4):Rho:=[#[l],#[M,0],#[m],k,w,v]
section
variable{M:Int}{S:Sto}{l m:Nat}{x:Int}{vs:C1}{k w v:C4}
def po3{n:Int}{v:MV}(b:l<↑1)(c:VS v): ∃a z,VS a/\jY (PP M l m k #[n,0] (some v)) (Wl S l x)=#[PP M l m k #[n,0] (some a),Wl S l z,0]:=by
 unfold jY;simp? [pp30,NZ (show -(2 ^ 64)<(2:Int)/\(2:Int)<2 ^ 64 by decide),PK (x:=x) b (show(0:Int)<2 * 10 ^ 30 - 1 by decide) (Kz (show XG 0 (2 * 10 ^ 30 - 1) by decide+kernel))];split
 .exact⟨_,_,.inl ⟨_,rfl⟩,rfl⟩
 .exact⟨v,x,c,rfl⟩
def po4{n:Int}{v:MV}(b:l<↑1)(d:VS v): ∃a z,VS a/\jZ (PP M l m k #[n,0] (some v)) (Wl S l x)=#[PP M l m k #[n,0] (some a),Wl S l z,0]:=by
 obtain⟨y,z,_,c⟩:=LR (S:=S) (l:=l) (x:=x) b;unfold jZ;simp? [gt_int,c];split
 .exact⟨_,_,.inr ⟨y,rfl⟩,rfl⟩
 .exact⟨v,x,d,rfl⟩
def YY(q:l<↑1)(o: ∀d∈vs,VS d)(H:vs.length<1000): ∃a u F z,(∀d∈a,VS d)/\a.length<=vs.length+1/\1<=a.length/\jP (PP M l ↑1 k w v) (Wl (S++[.lst vs]) l x)=#[PP M l ↑1 k u F,Wl (S++[.lst a]) l z,0]:=by
 have b:l<(S++[MO.lst vs]).length:=by rw[lA];omega
 obtain⟨G,B,p,s⟩:=po3 (M:=M) (m:=↑1) (k:=k) (n:=x % 4) (x:=x / 4 / 9) b (.inl ⟨x / 4 % 9 - 4,rfl⟩);obtain⟨i,e,c,E⟩:=po4 (M:=M) (m:=↑1) (k:=k) (n:=x % 4) (x:=B) b p;have j:(Wl (S++[.lst vs]) l e)[↑1]? =#[vs,2]:=uQ q e _
 obtain⟨a,h1,r,A,D⟩: ∃a,(∀d∈a,VS d)/\a.length<=vs.length+1/\1<=a.length/\hX (PP M l ↑1 k #[x % 4,0] (some i)) (Wl (S++[.lst vs]) l e)=#[PP M l ↑1 k #[x % 4,0] (some i),Wl (S++[.lst a]) l e,0]:=by
  unfold hX;simp? [iV true j (qS c).1 λy C=>qS (o y C),yN j,wC j (show vs.length<1000000 by omega),LP q];by_cases h:i∈vs
  .exact⟨vs,o,le_succ _,List.length_pos_of_mem h,by rw[dT0 h];rfl⟩
  .refine⟨vs++[i],λd hd=>?_,by simp,by simp,by rw[dF0 h];rfl⟩;rcases é.mp hd with hd|hd
   .exact o d hd
   .rw[mS.mp hd];exact c
 refine⟨a,#[x % 4,0],some i,e,h1,r,A,?_⟩;unfold jP;apply zE
 .unfold dX;simp? [yV (n:=4) b];rfl
 apply zE
 .unfold dY;simp? [yV (n:=9) b];rfl
 exact zE s (zE E D)
end
def Us{l:Nat}(h:l<↑1)(x:Int){M:Nat}(h1:1<=M)(A:M<=4): ∃vs z,(∀d∈vs,VS d)/\1<=vs.length/\vs.length<=4/\gO [.loc l,nH M] (Wl S l x)=.ok #[↑1,1] (Wl (S++[.lst vs]) l z):=by
 obtain⟨_,_,e,vs,z,k,w,v,rfl,rfl,b,j,g2⟩:=aQ (gf:=zW 3) (body:=jP) (n:=M) (λi ρ S'=> ∃(vs:C1)(z:Int)(k w v:C4),ρ=PP M l ↑1 k w v/\S'=Wl (S++[.lst vs]) l z/\(∀d∈vs,VS d)/\vs.length<=i/\(i=0\/1<=vs.length)) ((List.range M).map nH) 0 (by simp) ⟨[],x,none,none,none,rfl,rfl,by simp,à _,.inl rfl⟩ (λd _ i hi ρ S1 ⟨vs,z,k,w,v,m,o,b,j,_⟩=>by subst m o;obtain⟨c,p,s,q,a,y,u,r⟩:=YY (M:=M) (S:=S) (l:=l) (x:=z) (vs:=vs) (k:=some d) (w:=w) (v:=v) h b (by omega);exact⟨_,_,_,rfl,r,c,q,some d,p,s,rfl,rfl,a,by omega,.inr u⟩);rw[lM,Ē]at j g2;refine⟨vs,z,b,by omega,by omega,?_⟩;show yD (iM [#[l],some (nH M),none,none,none,none] (Wl S l x))=_;refine nI ?_;unfold iM;apply zE
 .unfold lE;simp? [cJ,cK h];rfl
 refine zE (ρ':=PP M l ↑1 k w v) (S':=Wl (S++[.lst vs]) l z) ?_ ?_
 .unfold lF;simp? [Do (show M<=1000 by omega)];exact e
 unfold lG;simp? [jG]
theorem Lk(t:Int)(S:Sto): ∃vs,(∀d∈vs,VS d)/\1<=vs.length/\vs.length<=4/\zK 2 gO [.new [.int t],#[4,5]] S=#[vs,S,2]:=by
 have a:↑1<(S++[MO.lst []]).length:=by simp
 obtain⟨vs,z,b,c,h,e⟩:=Us (S:=S++[.lst []]) (l:=↑1) a t (M:=4) (by decide) (by decide);refine⟨vs,b,c,h,dL (r:=#[↑1+1,1]) (T:=[.lst [.int z],.lst vs]) rfl (show zF [.new [.int t],#[4,5]] S=([.loc ↑1,.int 4],S++[.lst [.int t]])from rfl) ?_ (.inr ⟨_,rfl,le_succ _,tF S _ _⟩) (Zf b _)⟩;rw[pN];show gO [.loc ↑1,nH 4] _=_;rw[e,lA, <-cK a, <-pN,aA];rfl
noncomputable abbrev T4(l m:Nat)(k w:C4):Rho:=[#[l],#[m],k,w]
theorem Dv{l:Nat}{x:Int}{k w:C4}(c:l<↑1)(j:ts.length<1000):
  ∃p h z,(1<=p.1/\p.1<=4/\0<=p.2/\p.2<=p.1)/\wH (T4 l ↑1 k w) (Wl (S++[.lst (ts.map tbl)]) l x)=#[T4 l ↑1 k h,Wl (S++[.lst ((ts++[p]).map tbl)]) l z,0]:=by
 have b:l<(S++[MO.lst (ts.map tbl)]).length:=by rw[lA];omega
 obtain⟨a,i⟩: ∃a,a=1+x % 3:=⟨_,rfl⟩
 have h1:=md (x:=x) (n:=3);have e:=md (x:=x / 3) (show 0<a+1 by omega);have d: ∀z,(Wl (S++[.lst (ts.map tbl)]) l z)[↑1]? =#[ts.map tbl,2]:=λz=>uQ c z _;refine⟨(a,x / 3 % (a+1)),#[a,0],x / 3 / (a+1),⟨by show 1<=a;omega,by show a<=4;omega,e.1,by show x / 3 % (a+1)<=a;omega⟩,?_⟩;unfold wH;apply zE
 .unfold bE;simp? [yV (n:=3) b, <-i];rfl
 unfold bF;simp? [yN (d (x / 3)),yV (x:=x / 3) b (show 0<a+1 by omega) (by omega),wC (d (x / 3 / (a+1))) (show(ts.map tbl).length<1000000 by rw[lM];omega),LP c];rw[ð];rfl
def YZ(t:Int)(S:Sto): ∃ts,La ts/\zK 1 cT [.new [.int t]] S=#[ts.map tbl,S,2]:=by
 have a:↑1<(S++[MO.lst []]).length:=by simp
 have B:=md (x:=t) (n:=3)
 obtain⟨_,_,e,ts,z,k,w,rfl,rfl,b,h1⟩:=aQ (gf:=zW 2) (body:=wH) (n:=3) (λi ρ S'=> ∃(ts:Tk)(z:Int)(k w:C4),ρ=T4 ↑1 (↑1+1) k w/\S'=Wl (S++[.lst []]++[.lst (ts.map tbl)]) ↑1 z/\(∀p∈ts,1<=p.1/\p.1<=4/\0<=p.2/\p.2<=p.1)/\ts.length=i) ((List.range (1+t % 3).toNat).map nH) 0 (by simp;omega) ⟨[],t / 3,none,none,rfl,rfl,by simp,rfl⟩ (λd _ i hi ρ S1 ⟨ts,z,k,w,o,v,b,h1⟩=>by
  subst o v;obtain⟨p,y,A,s,m⟩:=Dv (S:=S++[.lst []]) (l:=↑1) (x:=z) (ts:=ts) (k:=some d) (w:=w) a (by omega);rw[lA]at m;refine⟨_,_,_,rfl,m,ts++[p],A,some d,y,rfl,rfl,λq u=>?_,by simp[h1]⟩;rcases é.mp u with h|h
  .exact b q h
  .rw[mS.mp h];exact s)
 rw[lM,Ē]at h1;refine⟨ts,⟨by omega,by omega,b⟩,dL (r:=#[↑1+1,1]) (T:=[.lst [.int z],.lst (ts.map tbl)]) rfl (show zF [.new [.int t]] S=([.loc ↑1],S++[.lst [.int t]])from rfl) ?_ (.inr ⟨_,rfl,le_succ _,tF S _ _⟩) (gV λd hd=>by obtain⟨p,_,rfl⟩:=mM.mp hd;exact RN (gV λe c=>by simp at c;rcases c with rfl|rfl<;>exact vY _ _))⟩;show yD (cS [#[↑1],none,none,none] _)=_;rw[pN,show S++[MO.lst [.int z],.lst (ts.map tbl)]=Wl (S++[.lst []]++[.lst (ts.map tbl)]) ↑1 z by rw[<-cK a, <-pN,aA];rfl];refine nI ?_;unfold cS;refine zE (ρ':=T4 ↑1 (↑1+1) none none) (S':=Wl (S++[.lst []]++[.lst []]) ↑1 t) ?_ (zE (ρ':=T4 ↑1 (↑1+1) k w) (S':=Wl (S++[.lst []]++[.lst (ts.map tbl)]) ↑1 z) ?_ ?_)
 .unfold dZ;simp? [cJ,cK a];rw[lA];rfl
 .unfold nA;simp? [yV (n:=3) (show ↑1<(S++[MO.lst []]++[MO.lst []]).length by simp),vZ (S:=Wl (S++[.lst []]++[.lst []]) ↑1 (t / 3)) (j:=1+t % 3) (by omega)];exact e
 unfold nB;simp? [jG]
noncomputable abbrev N5(l m:Nat)(b:Db)(k w:C4):Rho:=[#[l],#[b,4],#[m],k,w]
def adds{x y:Db}(h:x.length+y.length<=1000)(S:Sto):wQ (.val (.str x)) (.val (.str y)) S=#[.str (x++y),S,1]:=add_str (fits (by omega))
theorem Ll{l:Nat}{x:Int}{b:Db}{w:C4}{us:Ch}(e:l<↑1)(p:us.length<1000)(o:b.length<=6)(h:j<2):
  ∃y k z,kR (N5 l ↑1 b (some (nH j)) w) (Wl (S++[.lst #[us,8]]) l x)=#[N5 l ↑1 b (some (nH j)) k,Wl (S++[.lst ((us++[y]).map MV.str)]) l z,0]:=by
 have d:l<(S++[MO.lst #[us,8]]).length:=by rw[lA];omega
 obtain⟨y,z,_,n⟩:=LR (S:=S++[.lst #[us,8]]) (l:=l) (x:=x) d;have c:(Wl (S++[.lst #[us,8]]) l z)[↑1]? =#[us.map MV.str,2]:=uQ e z _
 obtain⟨r,m⟩: ∃r,tI [MV.str ([98]++b),.str ([98]++b++[97])] (j:Int)=#[r,4]:=by
  match j,h with
  |0,_=>exact⟨_,rfl⟩
  |1,_=>exact⟨_,rfl⟩
 obtain⟨a,i⟩: ∃a,jB (N5 l S.length b (some (nH j)) #[y,4]) (Wl (S++[.lst #[us,8]]) l z)=#[N5 l ↑1 b (some (nH j)) #[a,4],Wl (S++[.lst #[us,8]]) l z,0]:=by
  unfold jB;simp? [iV false c (nG y) DI,adds (x:=[98]) (y:=b) (by simp only[lS];omega),adds (x:=[98]++b) (y:=[97]) (by simp only[lA,lS];omega),RQ (S:=Wl (S++[.lst #[us,8]]) l z) m,fT,iF];split
  .exact⟨r,rfl⟩
  .exact⟨y,rfl⟩
 refine⟨a,#[a,4],z,?_⟩;unfold kR;apply zE
 .unfold cG;simp? [n];rfl
 refine zE i ?_;unfold cH;simp? [yN c,wC c (show(us.map MV.str).length<1000000 by rw[lM];omega),LP e];rw[ð];rfl
def Dw(t:Int)(S:Sto): ∃ys:List (List Nat),ys.length=3/\zK 1 aK [.new [.int t]] S=#[ys.map MV.str,S,2]:=by
 have a:↑1<(S++[MO.lst []]).length:=by simp
 obtain⟨w,z,hw,B⟩:=LR (S:=S++[.lst []]) (l:=↑1) (x:=t) a;have o:bH [#[↑1],none,none,none,none] (Wl (S++[.lst []]) ↑1 t)=#[[#[↑1],#[w.take 6,4],none,none,none],Wl (S++[.lst []]) ↑1 z,0]:=by unfold bH;simp? [B,cut_str (S:=Wl (S++[.lst []]) ↑1 z) (fits (show w.length<=1000000 by omega)),show fY w none (some 6)=w.take 6 from Je _ _ (by decide)]
 have q:(w.take 6).length<=6:=by rw[lT];exact Nat.min_le_left _ _
 generalize w.take 6=b at q o;have c:bI [#[↑1],#[b,4],none,none,none] (Wl (S++[.lst []]) ↑1 z)=if decide (z % 2=0)=true then .ok (.ret (.new [.str b,.str (b++[97]),.str ([98]++b)])) (Wl (S++[.lst []]) ↑1 (z / 2))else #[[#[↑1],#[b,4],none,none,none],Wl (S++[.lst []]) ↑1 (z / 2),0]:=by unfold bI;simp? [yV (n:=2) a,adds (x:=b) (y:=[97]) (by simp only[lS];omega),adds (x:=[98]) (y:=b) (by simp only[lS];omega)]
 by_cases h:z % 2=0
 .rw[dT0 h,iP rfl]at c;refine⟨[b,b++[97],[98]++b],rfl,dL (T:=[.lst [.int (z / 2)]]) rfl (show zF [.new [.int t]] S=([.loc ↑1],S++[.lst [.int t]])from rfl) ?_ (.inl rfl) (rM _ _)⟩;rw[pN,pN];exact nI (zE o (mX c))
 .rw[dF0 h,iN xF0]at c;obtain⟨_,_,e,ys,m,k,v,rfl,rfl,h1⟩:=aQ (gf:=zW 3) (body:=kR) (n:=2) (λi ρ S'=> ∃(ys:Ch)(z:Int)(k w:C4),ρ=N5 ↑1 (↑1+1) b k w/\S'=Wl (S++[.lst []]++[.lst #[ys,8]]) ↑1 z/\ys.length=i+1) ((List.range 2).map nH) 0 (by decide) ⟨[b],z / 2,none,none,rfl,rfl,rfl⟩ (λd hd i hi ρ S1 ⟨ys,z,k,v,u,A,h1⟩=>by subst u A;obtain⟨j,s,rfl⟩:=mM.mp hd;obtain⟨y,C,D,p⟩:=Ll (S:=S++[.lst []]) (l:=↑1) (x:=z) (b:=b) (us:=ys) (j:=j) (w:=v) a (by omega) q (mem_range.mp s);rw[lA]at p;exact⟨_,_,_,rfl,p,ys++[y],D,some (nH j),C,rfl,rfl,by simp[h1]⟩);refine⟨ys,h1,dL (r:=#[↑1+1,1]) (T:=[.lst [.int m],.lst #[ys,8]]) rfl (show zF [.new [.int t]] S=([.loc ↑1],S++[.lst [.int t]])from rfl) ?_ (.inr ⟨_,rfl,le_succ _,tF S _ _⟩) (rM _ _)⟩;rw[pN,show S++[MO.lst [.int m],.lst #[ys,8]]=Wl (S++[.lst []]++[.lst #[ys,8]]) ↑1 m by rw[<-cK a, <-pN,aA];rfl];refine nI (zE o (zE c (zE (ρ':=N5 ↑1 (↑1+1) b none none) (S':=Wl (S++[.lst []]++[.lst ([b].map MV.str)]) ↑1 (z / 2)) ?_ (zE (ρ':=N5 ↑1 (↑1+1) b k v) (S':=Wl (S++[.lst []]++[.lst #[ys,8]]) ↑1 m) ?_ ?_))))
  .unfold fC;simp? [cJ,cK a];rw[lA];rfl
  .unfold fE;simp? [vZ (S:=Wl (S++[.lst []]++[.lst ([b].map MV.str)]) ↑1 (z / 2)) (j:=2) (by decide)];exact e
  unfold fF;simp? [jG]
abbrev Rw:=Int×List MV
variable{rows:List Rw}
noncomputable def zO(r:Rw):MV:=.tup [.int r.1,.tup r.2]
set_option bootstrap.genMatcherCode true in
local macro_rules
 |`(#[$x,9])=>`(($x).map zO)
noncomputable def ZA(ts:Tk)(t:Int):Nat:=((ts[t.toNat]?).map (·.1.toNat)).getD 0
def TmP(ys:Ch)(vs:C1)(d:MV):Prop:=(∃y∈ys,d=.tup [.str vK,.str y])\/ ∃v∈vs,d=.tup [.str IS,v]
def Zg(ts:Tk)(ys:Ch)(vs:C1)(a:Rw):Prop:=a.2.length=ZA ts a.1/\ ∀d∈a.2,TmP ys vs d
def Nh(ts:Tk)(vs:C1)(r:Rw):Prop:=r.2.length=ZA ts r.1/\ ∀c∈r.2,c∈vs
theorem mK(o:C1)(S:Sto):cA [.new o] S=.ok #[o,6] S:=rfl
def TmP.ok{vs:C1}(a: ∀v∈vs,VS v){d:MV}(h:TmP ys vs d):jS d:=by
 rcases h with⟨y,_,rfl⟩|⟨v,hv,rfl⟩
 .exact .inl ⟨y,rfl⟩
 .exact .inr ⟨v,a v hv,rfl⟩
def Dx{lt:Nat}(b:La ts)(n:Int): ∃p,(1<=p.1/\p.1<=4)/\(ZA ts (n % (ts.length:Int)):Int)=p.1/\ ∀S:Sto,S[lt]? =#[ts.map tbl,2]->iC #[lt,1] #[n % (ts.length:Int),5] S=#[tbl p,S,1]:=by
 have e:0<ts.length:=b.1;have i:=eN n (show(ts.length:Int)≠0 by omega);have h1:=eL n (show(0:Int)<ts.length by omega);obtain⟨k,d⟩: ∃k:Nat,n % (ts.length:Int)=k:=⟨(n % (ts.length:Int)).toNat,by omega⟩
 have a:k<ts.length:=by omega
 have c:=b.2.2 _ (getElem_mem a);refine⟨ts[k],⟨c.1,c.2.1⟩,?_,λS h=>?_⟩
 .unfold ZA;rw[d,Ď,gE a];show((ts[k].1.toNat:Nat):Int)=ts[k].1;omega
 .rw[d];exact EI h (Ze (by rw[ö,gE a];rfl))
theorem LS{S:Sto}{l:Nat}{gf:MV->Rho->Sto->R Rho}{cf:AZ}{ef:AX}{ρb:Rho}{P:MV->Prop}(st: ∀(d:MV)(x:Int), ∃ρ1 y z,gf d ρb (Wl S l x)=.ok ρ1 (Wl S l x)/\cf ρ1 (Wl S l x)=.ok true (Wl S l x)/\ef ρ1 (Wl S l x)=#[y,Wl S l z,1]/\P y):
  ∀(L:C1)(x:Int), ∃out z,out.length=L.length/\(∀d∈out,P d)/\yE gf cf ef ρb [] L (Wl S l x)=.ok out (Wl S l z)
 |[],x=>⟨[],x,rfl,by simp,rfl⟩
 |d::L,x=>by obtain⟨ρ1,y,k,h1,b,h,j⟩:=st d x;obtain⟨out,z,m,a,i⟩:=LS st L k;refine⟨y::out,z,by rw[lC,lC,m],λe c=>(mC.mp c).elim (λz=>z▸j) (a e),?_⟩;unfold yE;rw[h1,yL,jG,b,yL,jG,iP rfl,h,yL,jG];unfold wO;rw[jG,iP (nN _),i];rfl
section
variable{S:Sto}{l p q lt:Nat}{x:Int}{vs:C1}{ys:Ch}{ts:Tk}
def LT(e:l<↑1)(j:l≠p){ds:C1}(k:S[p]? =#[ds,2])(h1:1<=ds.length)(m:ds.length<=1000)(x:Int): ∃d∈ds, ∃z,(((mW [#[p,1]] (Wl S l x)).bind λn S=>zK 2 zB [#[l,1],n] S).bind λi S=>iC #[p,1] i S)=#[d,Wl S l z,1]:=by
 have b: ∀z,(Wl S l z)[p]? =#[ds,2]:=λz=>(nO j z).trans k;have a:(0:Int)<(ds.length:Int):=by omega
 obtain⟨v,c⟩:=KA (xs:=ds) (i:=x % (ds.length:Int)) (eN _ (by omega)) (eL _ a);refine⟨v,UA (P:=(· ∈ds)) (λ_ h=>h) c,x / (ds.length:Int),?_⟩;rw[kU (b x),jG,yV (x:=x) (n:=(ds.length:Int)) e a (by omega),jG,EI (b _) c]
theorem Lm(c:l<↑1)(m:l≠p)(B:l≠q)(s:S[p]? =#[vs,2])(u:S[q]? =#[ys.map MV.str,2])(j: ∀d∈vs,VS d)(h1:1<=vs.length)(G:vs.length<=4)(i:1<=ys.length)(D:ys.length<=10)(x:Int):
  ∃r z,TmP ys vs r/\zK 3 iR [#[l,1],#[q,1],#[p,1]] (Wl S l x)=#[r,Wl S l z,1]:=by
 obtain⟨v,F,A,b⟩:=LT c m s h1 (by omega) (x / 4);obtain⟨d,hd,w,a⟩:=LT c B u (by rw[lM];exact i) (by rw[lM];omega) (x / 4);obtain⟨y,E,rfl⟩:=mM.mp hd;by_cases h:x % 4=0
 .have e:wN [#[l],#[q],#[p]] (Wl S l x)=.ok (.ret #[[.str IS,v],6]) (Wl S l A):=by have k: ∀z,(Wl S l z)[p]? =#[vs,2]:=λz=>(nO m z).trans s;rw[kU (k _),jG]at b;unfold wN;simp? [yV (n:=4) (x:=x) c,h,decide_true,kU (k (x / 4))];rw[b];simp? [tup2]
  have ok:TmP ys vs (.tup [.str IS,v]):=.inr ⟨v,F,rfl⟩;refine⟨_,A,ok,uR (T:=[]) rfl ?_ (fS (UY (ok.ok j)).1) (λl=>by simp)⟩;show yD (gP [#[l],#[q],#[p]] (Wl S l x))=_;unfold gP;rw[mX e,aN];rfl
 .have e:wN [#[l],#[q],#[p]] (Wl S l x)=#[[#[l],#[q],#[p]],Wl S l (x / 4),0]:=by unfold wN;simp? [yV (n:=4) (x:=x) c,h,decide_false,fT,iF]
  have C:cY [#[l],#[q],#[p]] (Wl S l (x / 4))=.ok (.ret #[[.str vK,.str y],6]) (Wl S l w):=by have o: ∀z,(Wl S l z)[q]? =#[ys.map MV.str,2]:=λz=>(nO B z).trans u;rw[kU (o _),jG]at a;unfold cY;simp? [kU (o (x / 4))];rw[a];simp? [tup2]
  have ok:TmP ys vs (.tup [.str vK,.str y]):=.inl ⟨y,E,rfl⟩;refine⟨_,w,ok,uR (T:=[]) rfl ?_ (fS (UY (ok.ok j)).1) (λl=>by simp)⟩;show yD (gP [#[l],#[q],#[p]] (Wl S l x))=_;unfold gP;rw[zC e,C,aN];rfl
theorem Ut(w:l<↑1)(s:l≠p)(nt:l≠lt)(u:S[p]? =#[vs,2])(I:S[lt]? =#[ts.map tbl,2])(F: ∀d∈vs,VS d)(h1:1<=vs.length)(K:vs.length<=4)(h:La ts)(x:Int):
  ∃r z,Nh ts vs r/\zK 3 oM [#[l,1],#[lt,1],#[p,1]] (Wl S l x)=#[zO r,Wl S l z,1]:=by
 have q: ∀z,(Wl S l z)[lt]? =#[ts.map tbl,2]:=λz=>(nO nt z).trans I;have J:0<ts.length:=h.1;have C:=h.2.1;have k: ∀z,mW [#[lt,1]] (Wl S l z)=.ok #[(ts.length:Int),5] (Wl S l z):=λz=>by rw[kU (q z),lM]
 obtain⟨D,E,hw,b⟩:=Dx (lt:=lt) h x;obtain⟨t,a⟩: ∃t,t=x % (ts.length:Int):=⟨_,rfl⟩
 rw[<-a]at hw b;have B:aF [#[l],#[lt],#[p],none] (Wl S l x)=#[[#[l],#[lt],#[p],#[t,0]],Wl S l (x / (ts.length:Int)),0]:=by unfold aF;simp? [k,yV (x:=x) (n:=(ts.length:Int)) w (by omega) (by omega)];rw[a]
 obtain⟨out,z,y,m,j⟩:=LS (S:=S) (l:=l) (gf:=zW 0) (cf:=eY) (ef:=bG) (ρb:=[none,#[l],#[p]]) (P:=(· ∈vs)) (λd x=>by obtain⟨v,H,z,e⟩:=LT w s u h1 (by omega) x;refine⟨[some d,#[l],#[p]],v,z,rfl,rfl,?_,H⟩;have o: ∀z,(Wl S l z)[p]? =#[vs,2]:=λz=>(nO s z).trans u;rw[kU (o _),jG]at e;unfold bG;simp? [kU (o x)];exact e) ((List.range (ZA ts t)).map nH) (x / (ts.length:Int));rw[lM,Ē]at y;have G: ∀S,iC (.val (tbl D)) #[0,5] S=.ok #[(ZA ts t:Int),5] S:=λS=>by rw[hw];rfl
 have A:aG [#[l],#[lt],#[p],#[t,0]] (Wl S l (x / (ts.length:Int)))=.ok (.ret (.val (zO (t,out)))) (Wl S l z):=by unfold aG;simp? [b _ (q _),G,Do (show ZA ts t<=1000 by omega),lM,Ē,show ZA ts t<1000000 by omega];rw[show vG 1 [0,2] [#[l],#[lt],#[p],#[t,0]]=[none,#[l],#[p]]from rfl,j];simp? [mK,tup2];rfl
 have i:pd (zO (t,out))=true:=by unfold zO;rw[yW,yC,AT,yC,yW,bQ λc j=>(qS (F c (m c j))).1,cZ];rfl
 refine⟨(t,out),z,⟨y,m⟩,uR (T:=[]) rfl ?_ (fS i) (λl=>by simp[zO])⟩;show yD (oK [#[l],#[lt],#[p],none] (Wl S l x))=_;unfold oK;rw[zC B,A,aN];rfl
end
def Zh{vs:C1}(b: ∀v∈vs,VS v){a:Rw}(h:Zg ts ys vs a):pd (zO a)=true/\vI (zO a)<=3:=by have h1:MU a.2=true:=bQ λd hd=>(UY ((h.2 d hd).ok b)).1;have c:rR a.2<=1:=rL λd hd=>(UY ((h.2 d hd).ok b)).2;unfold zO;refine⟨by rw[yW,yC,yC,cZ,AT,yW,h1];rfl,?_⟩;rw[gH,yS,yS,mH,rK,gH];omega
abbrev A8(M l p q lt m:Nat)(k t:C4):Rho:=[#[l],#[lt],#[q],#[p],some (nH M),#[m],k,t]
section
variable{S:Sto}{M l p q lt:Nat}{vs:C1}{ys:Ch}{ts:Tk}
theorem ZC(C:l<↑1)(I:l≠p)(X:l≠q)(nt:l≠lt)(J:S[p]? =#[vs,2])(L:S[q]? =#[ys.map MV.str,2])(T:S[lt]? =#[ts.map tbl,2])(H: ∀d∈vs,VS d)(h1:1<=vs.length)(E:vs.length<=4)(u:1<=ys.length)(w:ys.length<=10)(s:La ts){as:List Rw}(Z:as.length<100)(x:Int)(k N:C4):
  ∃a t' z,Zg ts ys vs a/\kQ (A8 M l p q lt ↑1 k N) (Wl (S++[.lst #[as,9]]) l x)=#[A8 M l p q lt ↑1 k t',Wl (S++[.lst ((as++[a]).map zO)]) l z,0]:=by
 have i:l<(S++[MO.lst #[as,9]]).length:=by rw[lA];omega
 have r: ∀{j:Nat}{o:MO},S[j]? =some o->(S++[MO.lst #[as,9]])[j]? =some o:=λh=>by rw[á (gS.mp h).1];exact h
 have A: ∀z,(Wl (S++[.lst #[as,9]]) l z)[lt]? =#[ts.map tbl,2]:=λz=>(nO nt z).trans (r T);have y: ∀z,(Wl (S++[.lst #[as,9]]) l z)[↑1]? =#[as.map zO,2]:=λz=>uQ C z _;have W:0<ts.length:=s.1;have F:=s.2.1;have v: ∀z,mW [#[lt,1]] (Wl (S++[.lst #[as,9]]) l z)=.ok #[(ts.length:Int),5] (Wl (S++[.lst #[as,9]]) l z):=λz=>by rw[kU (A z),lM]
 obtain⟨U,G,hw,c⟩:=Dx (lt:=lt) s x;obtain⟨t,b⟩: ∃t,t=x % (ts.length:Int):=⟨_,rfl⟩
 rw[<-b]at hw c;obtain⟨out,z,B,D,Q⟩:=LS (S:=S++[.lst #[as,9]]) (l:=l) (gf:=zW 0) (cf:=cC) (ef:=jA) (ρb:=[none,#[l],#[q],#[p]]) (P:=TmP ys vs) (λd x=>by obtain⟨K,z,h,e⟩:=Lm i I X (r J) (r L) H h1 E u w x;refine⟨[some d,#[l],#[q],#[p]],K,z,rfl,rfl,?_,h⟩;unfold jA;simp? [e]) ((List.range (ZA ts t)).map nH) (x / (ts.length:Int));rw[lM,Ē]at B;have O: ∀S,iC (.val (tbl U)) #[0,5] S=.ok #[(ZA ts t:Int),5] S:=λS=>by rw[hw];rfl
 have m: ∀Y,xR [#[t,5],#[out,6]] Y=#[zO (t,out),Y,1]:=λY=>tup2 _ _ Y;refine⟨(t,out),#[t,0],z,⟨B,D⟩,?_⟩;unfold kQ;apply zE
 .unfold cE;simp? [v,yV (x:=x) (n:=(ts.length:Int)) i (by omega) (by omega), <-b];rfl
 unfold cF;simp? [yN (y _),c _ (A _),O,Do (show ZA ts t<=1000 by omega),lM,Ē,show ZA ts t<1000000 by omega];rw[show vG 1 [0,2,3] (A8 M l p q lt ↑1 k #[t,0])=[none,#[l],#[q],#[p]]from rfl,Q];simp? [mK,m,wC (y z) (show(as.map zO).length<1000000 by rw[lM];omega),LP C];rw[ð];rfl
def Dy(c:l<↑1)(D:l≠p)(I:l≠q)(nt:l≠lt)(E:S[p]? =#[vs,2])(F:S[q]? =#[ys.map MV.str,2])(A:S[lt]? =#[ts.map tbl,2])(v: ∀d∈vs,VS d)(h1:1<=vs.length)(w:vs.length<=4)(r:1<=ys.length)(u:ys.length<=10)(C:La ts)(J:M<=4)(x:Int):
  ∃(as:List Rw)(z:Int),as.length=M/\(∀a∈as,Zg ts ys vs a)/\zK 5 aI [#[l,1],#[lt,1],#[q,1],#[p,1],.val (nH M)] (Wl S l x)=#[as.map zO,Wl S l z,2]:=by
 obtain⟨_,_,e,as,z,k',t',rfl,rfl,k,j⟩:=aQ (gf:=zW 6) (body:=kQ) (n:=M) (λi ρ S'=> ∃(as:List Rw)(z:Int)(k' t':C4),ρ=A8 M l p q lt ↑1 k' t'/\S'=Wl (S++[.lst #[as,9]]) l z/\(∀a∈as,Zg ts ys vs a)/\as.length=i) ((List.range M).map nH) 0 (by simp) ⟨[],x,none,none,rfl,rfl,by simp,rfl⟩ (λd _ i hi ρ S1 ⟨as,z,k',t',y,B,k,j⟩=>by subst y B;obtain⟨a,H,G,s,o⟩:=ZC (M:=M) c D I nt E F A v h1 w r u C (as:=as) (by omega) z (some d) t';exact⟨_,_,_,rfl,o,as++[a],G,some d,H,rfl,rfl,λb o=>(é.mp o).elim (k b) λh=>by rw[mS.mp h];exact s,by simp[j]⟩);rw[lM,Ē,Ă]at j;refine⟨as,z,j,k,BQ (T:=[.lst #[as,9]]) (m:=↑1) rfl ?_ (à _) (by rw[cK c];exact uQ c z _) (gV λd hd=>by obtain⟨a,s,rfl⟩:=mM.mp hd;exact fS (Zh v (k a s)).1)⟩;show yD (aH [#[l],#[lt],#[q],#[p],some (nH M),none,none,none] (Wl S l x))=_;rw[cK c];refine nI ?_;unfold aH;apply zE
 .unfold eZ;simp? [cJ,cK c];rfl
 refine zE (ρ':=A8 M l p q lt ↑1 k' t') (S':=Wl (S++[.lst #[as,9]]) l z) ?_ ?_
 .unfold fA;simp? [Do (show M<=1000 by omega)];exact e
 unfold fB;simp? [jG]
end
noncomputable abbrev N6(a:MV)(m:Nat)(t u w n:C4):Rho:=[some a,#[m],t,u,w,n]
def dB(as:List Rw):List (List Nat):=as.flatMap λa=>a.2.filterMap vn
def BR(v:MV):vn (.tup [.str IS,v])=none:=by cases v<;>simp[vn]
theorem AW{S:Sto}{a:MV}{t u:C4}: ∀(c:C1),(∀d∈c,jS d)-> ∀(fs:Ch)(w n:C4),fs.length+c.length<1000->
  ∃(p q:C4),wF (fZ 2 (zA (zW 4) (zA (zW 5) zY))) yG [] c (N6 a ↑1 t u w n) (S++[.lst #[fs,8]])=#[N6 a ↑1 t u p q,S++[.lst ((yX fs (c.filterMap vn)).map MV.str)],0]
 |[],_,fs,w,n,_=>⟨w,n,rfl⟩
 |d::c,hT,fs,w,n,hl=>by
  rw[lC]at hl;have i:=zL S (.lst #[fs,8]);rcases hT d mF0 with⟨x,rfl⟩|⟨v,hv,rfl⟩
  .have o:yG (N6 a ↑1 t u #[vK,4] #[x,4]) (S++[.lst #[fs,8]])=#[N6 a ↑1 t u #[vK,4] #[x,4],S++[.lst ((pQ fs x).map MV.str)],0]:=by
    unfold yG xK;unfold pQ;by_cases h:x∈fs
    .rw[iP h];simp? [PH,iV true i (nG x) DI,dT0 (DL.mpr h),Ņ,fT,iF]
    .rw[iN h];simp? [PH,iV true i (nG x) DI,dF0 (λz=>h (DL.mp z)),Bool.not_false,yN i,wC i (show(fs.map MV.str).length<1000000 by rw[lM];omega),bR,ð,ä,List.map_nil]
   have r:=FF fs x;obtain⟨k,m,b⟩:=AW (S:=S) (a:=a) (t:=t) (u:=u) c (λe j=>hT e (mO _ j)) (pQ fs x) #[vK,4] #[x,4] (by omega);refine⟨k,m,?_⟩;rw[zZ (show fZ 2 (zA (zW 4) (zA (zW 5) zY)) (.tup [.str vK,.str x]) (N6 a ↑1 t u w n) (S++[.lst #[fs,8]])=.ok (N6 a ↑1 t u #[vK,4] #[x,4]) (S++[.lst #[fs,8]])from rfl) o (nN _),b,Ĭ,AU];rfl
  .have o:yG (N6 a ↑1 t u #[IS,4] (some v)) (S++[.lst #[fs,8]])=#[N6 a ↑1 t u #[IS,4] (some v),S++[.lst #[fs,8]],0]:=by unfold yG xK;simp? [Dh,fT,iF]
   obtain⟨k,m,b⟩:=AW (S:=S) (a:=a) (t:=t) (u:=u) c (λe j=>hT e (mO _ j)) fs #[IS,4] (some v) (by omega);refine⟨k,m,?_⟩;rw[zZ (show fZ 2 (zA (zW 4) (zA (zW 5) zY)) (.tup [.str IS,v]) (N6 a ↑1 t u w n) (S++[.lst #[fs,8]])=.ok (N6 a ↑1 t u #[IS,4] (some v)) (S++[.lst #[fs,8]])from rfl) o (nN _),b,Ĭ,BR]
def PL(ks xs ys:Ch):yX ks (xs++ys)=yX (yX ks xs) ys:=by
 induction xs generalizing ks with
 |nil=>rfl
 |cons x xs ih=>exact ih _
theorem IO{S:Sto}{a:MV}{gs:C6}(c: ∀T,stay gs (S++T)): ∀(as:List Rw),(∀b∈as,(∀d∈b.2,jS d)/\b.2.length<=4)-> ∀(fs:Ch)(t u w n:C4),fs.length+4 * as.length<1000->
  ∃(t' o m p:C4),wF (fZ 2 (zA (zW 2) (zA (zW 3) zY))) wU gs #[as,9] (N6 a ↑1 t u w n) (S++[.lst #[fs,8]])=#[N6 a ↑1 t' o m p,S++[.lst ((yX fs (dB as)).map MV.str)],0]
 |[],_,fs,t,u,w,n,_=>⟨t,u,w,n,rfl⟩
 |b::as,hA,fs,t,u,w,n,hl=>by
  rw[lC]at hl;obtain⟨A,C⟩:=hA b mF0;obtain⟨i,h,z⟩:=AW (S:=S) (a:=a) (t:=#[b.1,0]) (u:=#[b.2,3]) b.2 A fs w n (by omega);have q:=qQ (b.2.filterMap vn) fs;have j:=ī vn b.2;obtain⟨B,v,r,s,y⟩:=IO (a:=a) c as (λe k=>hA e (mO _ k)) (yX fs (b.2.filterMap vn)) #[b.1,0] #[b.2,3] i h (by omega);refine⟨B,v,r,s,?_⟩;rw[ä,zZ (show fZ 2 (zA (zW 2) (zA (zW 3) zY)) (zO b) (N6 a ↑1 t u w n) (S++[.lst #[fs,8]])=.ok (N6 a ↑1 #[b.1,0] #[b.2,3] w n) (S++[.lst #[fs,8]])from rfl) (ρ':=N6 a ↑1 #[b.1,0] #[b.2,3] i h) (S':=S++[.lst ((yX fs (b.2.filterMap vn)).map MV.str)]) ?_ (c _),y]
  .show _=R.ok _ (S++[.lst ((yX fs (b.2.filterMap vn++dB as)).map MV.str)]);rw[PL]
  .unfold wU jH;simp? [FE];exact z
theorem Uu{as:List Rw}(h:SqM S m #[as,9])(q: ∀b∈as,(∀d∈b.2,jS d)/\b.2.length<=4)(r:as.length<=100):zK 1 gF [.val m] S=#[(yX [] (dB as)).map MV.str,S,2]:=by
 obtain⟨gs,j,hi⟩:=h.itQ;have p:wV [some m,none,none,none,none,none] S=#[N6 m ↑1 none none none none,S++[.lst []],0]:=by unfold wV;simp? [jG]
 obtain⟨t',e,c,i,k⟩:=IO (a:=m) j as q [] none none none none (by simp only[ú];omega);have n:wW (N6 m ↑1 none none none none) (S++[.lst []])=#[N6 m ↑1 t' e c i,S++[.lst ((yX [] (dB as)).map MV.str)],0]:=by unfold wW;simp? [hi [.lst []]];exact k
 have o:wX (N6 m ↑1 t' e c i) (S++[.lst ((yX [] (dB as)).map MV.str)])=.ok (.ret #[↑1,1]) (S++[.lst ((yX [] (dB as)).map MV.str)]):=by unfold wX;simp? [jG]
 refine tZ (T:=[.lst ((yX [] (dB as)).map MV.str)]) (l:=↑1) rfl ?_ (à _) (zL S _) (rM _ _);show yD (gC [some m,none,none,none,none,none] S)=_;unfold gC;rw[zC p,zC n,o];rfl
section
variable{S:Sto}{l:Nat}{a b:MO}{x:Int}
def w2_a(h:l<↑1):(Wl (S++[a,b]) l x)[↑1]? =some a:=by rw[nO (ë h)];simp
def Uv(h:l<↑1):(Wl (S++[a,b]) l x)[↑1+1]? =some b:=by rw[nO (ë (Nat.lt_succ_of_lt h)),tF]
theorem Zi(h:l<↑1)(c:MO):(Wl (S++[a,b]) l x).set ↑1 c=Wl (S++[c,b]) l x:=by unfold Wl;rw[ĳ _ _ h,ĳ _ _ h,ġ _ _ (by rw[Ą];exact à _),Ą,sub_self];rfl
theorem Zj(h:l<↑1)(c:MO):(Wl (S++[a,b]) l x).set (↑1+1) c=Wl (S++[a,c]) l x:=by unfold Wl;rw[ĳ _ _ h,ĳ _ _ h,ġ _ _ (by rw[Ą];exact le_succ _),Ą,Nat.add_sub_cancel_left];rfl
end
noncomputable abbrev H6(l a m:Nat)(k:C4):Rho:=[#[l],#[a],#[3,0],#[m],#[m+1],k]
theorem ZD{l a:Nat}{x:Int}{k:C4}{fs hs:Ch}(d:l<↑1)(r:fs.length<=16)(u:hs.length<1000):
  ∃(b c:Ch)(z:Int),(c++b).Perm (hs++fs)/\c.length<=hs.length+1/\b.length<=16/\jQ (H6 l a ↑1 k) (Wl (S++[.lst #[fs,8],.lst #[hs,8]]) l x)=#[H6 l a ↑1 k,Wl (S++[.lst #[b,8],.lst #[c,8]]) l z,0]:=by
 have n:l<(S++[MO.lst #[fs,8],MO.lst #[hs,8]]).length:=by rw[lA];omega
 have j: ∀z,(Wl (S++[.lst #[fs,8],.lst #[hs,8]]) l z)[↑1]? =#[fs.map MV.str,2]:=λz=>w2_a d;have s: ∀z,(Wl (S++[.lst #[fs,8],.lst #[hs,8]]) l z)[↑1+1]? =#[hs.map MV.str,2]:=λz=>Uv d;unfold jQ nE;by_cases h:fs=[]
 .subst h;refine⟨[],hs,x,.refl _,le_succ _,by simp,?_⟩;simp? [Dq (j x),show(!(([]:Ch).map MV.str).isEmpty)=false from rfl,fT,iF]
 .have v:0<fs.length:=List.length_pos_iff.mpr h;obtain⟨m,q⟩: ∃m,m=(fs.map MV.str).length:=⟨_,rfl⟩
  have w:m=fs.length:=by rw[q,lM]
  have o:=md (x:=x) (show(0:Int)<(m:Int) by omega);generalize hi:x % (m:Int)=i at o;have i2:i.toNat<fs.length:=by omega
  refine⟨fs.eraseIdx i.toNat,hs++[fs[i.toNat]],x / (m:Int),?_,by simp,õ (List.length_eraseIdx_le ..) r,?_⟩
  .rw[aA];refine .append_left _ ?_;have e:fs.take i.toNat++fs[i.toNat]::fs.drop (i.toNat+1)=fs:=by rw[<-Ħ i2,Ŀ]
   have p:(fs.take i.toNat++fs[i.toNat]::fs.drop (i.toNat+1)).Perm (fs[i.toNat]::(fs.take i.toNat++fs.drop (i.toNat+1))):=List.perm_middle;rw[e]at p;rw[List.eraseIdx_eq_take_drop_succ];exact p.symm
  .simp? [Dq (j x),show(!(fs.map MV.str).isEmpty)=true by simpa using h,yN (s x),yN (j x),kU (j x), <-q,yV (x:=x) n (show(0:Int)<(m:Int) by omega) (by omega),hi,Lj (j (x / (m:Int))) o.1 (by rw[<-q];exact o.2) (by omega) (show#[fs,8][i.toNat]? =some (.str fs[i.toNat]) by rw[ö,gE i2];rfl),Dr,Zi d];rw[wC (Uv d) (by rw[lM];omega),jG,Zj d,ð];rfl
def Ln{l a:Nat}{x:Int}{as:List Rw}(B:l<↑1)(w:l≠a)(D:S[a]? =#[as.map zO,2])(o: ∀b∈as,(∀d∈b.2,jS d)/\b.2.length<=4)(H:as.length<=4):
  ∃(hs:Ch)(z:Int),hs.length<=3/\(∀y∈hs,y∈yX [] (dB as))/\hs.Nodup/\ ∃fs:List (List Nat),dI [.loc l,.loc a,.int 3] (Wl S l x)=.ok #[↑1+1,1] (Wl (S++[.lst #[fs,8],.lst #[hs,8]]) l z):=by
 have q:=Uu (S:=Wl S l x) (.inr ⟨a,rfl,(nO w x).trans D⟩) o (by omega)
 have r:(yX [] (dB as)).length<=16:=by
  have h1:=qQ (dB as) []
  have u: ∀as:List Rw,(∀b∈as,b.2.length<=4)->(dB as).length<=4 * as.length:=λas=>by
   induction as with
   |nil=>simp[dB]
   |cons b as ih=>
    intro o;have:=ih λc q=>o c (mO _ q);have H:=o b mF0;have L:=ī vn b.2;show(b.2.filterMap vn++dB as).length<=_;rw[lA,lC];omega
  have:=u as λb v=>(o b v).2;rw[ú]at h1;omega
 have m:(yX [] (dB as)).Nodup:=DM _ nodup_nil;generalize yX [] (dB as)=fs at q r m;have s:l<(S++[MO.lst #[fs,8]]).length:=by rw[lA];omega
 have K:=md (x:=x) (n:=4);obtain⟨_,_,e,h,hs,z,k',rfl,rfl,p,A,_⟩:=aQ (gf:=zW 5) (body:=jQ) (n:=3) (λi ρ S'=> ∃(h hs:Ch)(z:Int)(k':C4),ρ=H6 l a ↑1 k'/\S'=Wl (S++[.lst #[h,8],.lst #[hs,8]]) l z/\(hs++h).Perm fs/\hs.length<=i/\h.length<=16) ((List.range (x % 4).toNat).map nH) 0 (by simp;omega) ⟨fs,[],x / 4,none,rfl,rfl,.refl _,à _,r⟩ (λd _ i hi ρ S1 ⟨h,hs,z,k',E,F,p,A,G⟩=>by subst E F;obtain⟨r,u,J,p2,l2,C,v⟩:=ZD (S:=S) (l:=l) (a:=a) (x:=z) (k:=some d) (fs:=h) (hs:=hs) B G (by omega);exact⟨_,_,_,rfl,v,r,u,J,some d,rfl,rfl,p2.trans p,by omega,C⟩);rw[lM,Ē]at A;refine⟨hs,z,by omega,λy I=>p.mem_iff.mp (ă _ I),(ĥ.mp (p.nodup_iff.mpr m)).1,h,?_⟩;show yD (iS [#[l],#[a],#[3,0],none,none,none] (Wl S l x))=_;refine nI ?_;unfold iS;apply zE
 .unfold lH;simp? [q,cJ,cK B];rfl
 refine zE (ρ':=H6 l a ↑1 none) (S':=Wl (S++[.lst #[fs,8],.lst []]) l x) ?_ (zE (ρ':=H6 l a ↑1 k') (S':=Wl (S++[.lst #[h,8],.lst #[hs,8]]) l z) ?_ ?_)
 .unfold lI;simp? [cJ,cK s];rw[lA,aA];rfl
 .unfold lK;simp? [show(3:Int)+1=4 from rfl,yV (n:=4) (x:=x) (show l<(S++[MO.lst #[fs,8],MO.lst []]).length by rw[lA];omega),vZ (S:=Wl (S++[.lst #[fs,8],.lst []]) l (x / 4)) (j:=x % 4) (by omega)];exact e
 unfold lL;simp? [jG]
def Lo{l a:Nat}{x:Int}{as:List Rw}(c:l<↑1)(e:l≠a)(h:S[a]? =#[as.map zO,2])(o: ∀b∈as,(∀d∈b.2,jS d)/\b.2.length<=4)(m:as.length<=4):
  ∃(hs:Ch)(z:Int),hs.length<=3/\(∀y∈hs,y∈yX [] (dB as))/\hs.Nodup/\zK 3 dI [#[l,1],#[a,1],#[3,5]] (Wl S l x)=#[hs.map MV.str,Wl S l z,2]:=by
 obtain⟨hs,z,i,j,n,fs,k⟩:=Ln (x:=x) c e h o m;refine⟨hs,z,i,j,n,BQ (T:=[.lst #[fs,8],.lst #[hs,8]]) rfl ?_ (le_succ _) (by rw[cK c];exact Uv c) (rM _ _)⟩;rw[cK c];exact k
theorem SJ(ds:C1)(S:Sto):vR (.new ds) S=.ok ⟨ds,[]⟩ S:=rfl
def VF{w:Nat}{x:Int}(h:Z[w]? =#[[.int x],2]):Wl Z w x=Z:=by
 unfold Wl;refine ext_getElem? λj=>?_;by_cases e:w=j
 .subst e;rw[get_set h,h]
 .rw[tE e]
theorem FH{lc:Nat}{all:C1}: ∀(cs:Za)(Z:Sto),Z[lc]? =#[all,2]-> ∃T:Sto,T.length=cs.length/\(∀o∈T, ∃x,o=.lst [.int x])/\yE (zW 0) gA wI [none] [(lc,all)] (cs.map MV.int) Z=.ok ((List.range' Z.length cs.length).map MV.loc) (Z++T)
 |[],Z,_=>⟨[],rfl,by simp,by rw[aN];rfl⟩
 |c::cs,Z,h=>by
  obtain⟨t,j⟩:=cL c Z;have a:(Z++[MO.lst [.int t]])[lc]? =#[all,2]:=by rw[á (gS.mp h).1];exact h
  obtain⟨T,h1,b,i⟩:=FH cs (Z++[.lst [.int t]]) a;refine⟨.lst [.int t]::T,by rw[lC,lC,h1],λo k=>(mC.mp k).elim (λe=>⟨t,e⟩) (b o),?_⟩;have d:wI [#[c,0]] Z=#[[.int t],Z,2]:=by unfold wI;simp? [j]
  rw[ä];unfold yE;rw[show zW 0 (.int c) [none] Z=.ok [#[c,0]] Z from rfl,yL,jG,show gA [#[c,0]] Z=.ok true Z from rfl,yL,jG,iP rfl,d,yL,jG,show wO (.new [.int t]) Z=.ok (.loc Z.length) (Z++[.lst [.int t]])from rfl,jG,iP (yI a),i,aA];rw[lA,lS,lC,List.range'_succ];rfl
structure RI(S:Sto)(lr:Nat)(ws:Db)(rs:List Rw)(Z:Sto):Prop where
 old: ∃T,Z=S++T
 rw:Z[lr]? =#[rs.map zO,2]
 wl: ∀w∈ws,↑1<=w/\w≠lr/\ ∃x,Z[w]? =#[[.int x],2]
def VG{w:Nat}(h:↑1<=w)(o:MO): ∃a,(S++T).set w o=S++a:=⟨_,ġ _ _ h⟩
def RI.at{ws:Db}{rs:List Rw}(h:RI S lr ws rs Z){l:Nat}(e:S[l]? =some o):Z[l]? =some o:=by obtain⟨T,rfl⟩:=h.old;rw[á (gS.mp e).1];exact e
def RI.draw{ws:Db}{rs:List Rw}(h:RI S lr ws rs Z){w:Nat}(hw:w∈ws)(z:Int):RI S lr ws rs (Wl Z w z):=by
 obtain⟨T,rfl⟩:=h.old;obtain⟨h1,a,x,i⟩:=h.wl w hw;refine⟨VG h1 _,?_,λv c=>?_⟩
 .rw[nO a];exact h.rw
 .obtain⟨d,g2,y,b⟩:=h.wl v c;refine⟨d,g2,?_⟩;by_cases e:w=v
  .subst e;exact⟨z,get_set i⟩
  .exact⟨y,by rw[nO e];exact b⟩
def RI.put{ws:Db}{rs:List Rw}(h:RI S lr ws rs Z)(b:↑1<=lr)(a:List Rw):RI S lr ws a (Z.set lr (.lst #[a,9])):=by obtain⟨T,rfl⟩:=h.old;refine⟨VG b _,get_set h.rw,λv d=>?_⟩;obtain⟨e,g2,y,c⟩:=h.wl v d;exact⟨e,g2,y,by rw[tE (Ne.symm g2)];exact c⟩
def SK{vs:C1}(b: ∀v∈vs,VS v){r:Rw}(h:Nh ts vs r):pd (zO r)=true/\vI (zO r)<30:=by
 have h1:MU r.2=true:=bQ λc a=>(qS (b c (h.2 c a))).1;have d:rR r.2<=0:=rL λc a=>by rcases b c (h.2 c a)with⟨i,rfl⟩|⟨i,rfl⟩;exact le_of_eq (rK _);exact le_of_eq (dA _)
 unfold zO;rw[yW,yC,AT,yC,yW,h1,cZ,gH,yS,rK,yS,gH,mH];refine⟨rfl,?_⟩;omega
noncomputable abbrev ZM(lc:Nat)(ex:Int)(lt p m:Nat)(k:Int)(lr:Nat)(w r:C4):Rho:=[#[lc],#[ex,0],#[lt],#[p],#[30,0],#[m],#[k,0],#[lr],w,r]
section
variable{S:Sto}{lc lt p m lr:Nat}{ex k:Int}{vs:C1}{ts:Tk}{ws:Db}
def ZE(s:↑1<=lr)(D:S[p]? =#[vs,2])(B:S[lt]? =#[ts.map tbl,2])(j: ∀d∈vs,VS d)(h1:1<=vs.length)(G:vs.length<=4)(J:La ts){rs:List Rw}(H:RI S lr ws rs Z)(h: ∀r∈rs,Nh ts vs r)(e:rs.length<=30){w:Nat}(hw:w∈ws)(C:C4):
  ∃b K A,RI S lr ws b A/\(∀r∈b,Nh ts vs r)/\b.length<=30/\xG (ZM lc ex lt p m k lr #[w] C) Z=#[ZM lc ex lt p m k lr #[w] K,A,0]:=by
 obtain⟨M,g2,x,E⟩:=H.wl w hw;have F:=(gS.mp D).1;have I:=(gS.mp B).1;obtain⟨r,z,c,o⟩:=Ut (S:=Z) (l:=w) (gS.mp E).1 (show w≠p by omega) (show w≠lt by omega) (H.at D) (H.at B) j h1 G J x;rw[VF E]at o;have H1:=H.draw hw z;obtain⟨Z1,v⟩: ∃Z1,Z1=Wl Z w z:=⟨_,rfl⟩
 rw[<-v]at o H1;have i:gB (ZM lc ex lt p m k lr #[w] C) Z=#[ZM lc ex lt p m k lr #[w] (some (zO r)),Z1,0]:=by unfold gB;simp? [o]
 have a:=iV (d:=zO r) true H1.rw (SK j c).1 λy L=>by obtain⟨q,n,rfl⟩:=mM.mp L;have:=SK j (h q n);exact⟨this.1,by omega⟩
 by_cases u:zO r∈rs.map zO
 .refine⟨rs,some (zO r),Z1,H1,h,e,?_⟩;unfold xG;rw[zC i];unfold wK;simp? [a,dT0 u,Ņ,fT,iF]
 .by_cases N:rs.length<30
  .refine⟨rs++[r],some (zO r),_,H1.put s (rs++[r]),λq n=>(é.mp n).elim (h q) λz=>by rw[mS.mp z];exact c,by simp;omega,?_⟩;unfold xG;rw[zC i];unfold wK;simp? [a,dF0 u,Bool.not_false,kU H1.rw,lM,lt_int,show decide ((rs.length:Int)<30)=true from dT0 (by omega),yN H1.rw,wC H1.rw (show(rs.map zO).length<1000000 by rw[lM];omega),ð,ä,List.map_nil]
  .refine⟨rs,some (zO r),Z1,H1,h,e,?_⟩;unfold xG;rw[zC i];unfold wK;simp? [a,dF0 u,Bool.not_false,kU H1.rw,lM,lt_int,show decide ((rs.length:Int)<30)=false from dF0 (by omega),fT,iF]
theorem PM(i:↑1<=lr)(z:S[p]? =#[vs,2])(B:S[lt]? =#[ts.map tbl,2])(w: ∀d∈vs,VS d)(h1:1<=vs.length)(s:vs.length<=4)(A:La ts): ∀(us:Db),(∀u∈us,u∈ws)-> ∀(rs:List Rw)(Z:Sto)(a b:C4),RI S lr ws rs Z->(∀r∈rs,Nh ts vs r)->rs.length<=30->
  ∃c y L D,RI S lr ws c y/\(∀r∈c,Nh ts vs r)/\c.length<=30/\wF (zW 8) xG [] (us.map MV.loc) (ZM lc ex lt p m k lr a b) Z=#[ZM lc ex lt p m k lr L D,y,0]
 |[],_,rs,Z,a,b,H,hr,h40=>⟨rs,Z,a,b,H,hr,h40,rfl⟩
 |u::us,hu,rs,Z,a,b,H,hr,h40=>by obtain⟨j,C,Z1,H1,o,h,F⟩:=ZE (lc:=lc) (m:=m) (ex:=ex) (k:=k) i z B w h1 s A H hr h40 (hu u mF0) b;obtain⟨n,J,M,I,G,q,e,E⟩:=PM i z B w h1 s A us (λv K=>hu v (mO _ K)) j Z1 #[u] C H1 o h;refine⟨n,J,M,I,G,q,e,?_⟩;rw[ä,zZ (show zW 8 (.loc u) (ZM lc ex lt p m k lr a b) Z=.ok (ZM lc ex lt p m k lr #[u] b) Z from rfl) F (nN _)];exact E
end
theorem Lp{lt p:Nat}{vs:C1}(X:S[p]? =#[vs,2])(N:S[lt]? =#[ts.map tbl,2])(G: ∀d∈vs,VS d)(h1:1<=vs.length)(K:vs.length<=4)(P:La ts)(ex:Int){cs:Za}(hc:cs.length<=63):
  ∃rs:List Rw,(∀r∈rs,Nh ts vs r)/\rs.length<=30/\zK 5 iQ [.new (cs.map MV.int),#[ex,5],#[lt,1],#[p,1],#[30,5]] S=#[rs.map zO,S,2]:=by
 obtain⟨t,s⟩:=cL ex (S++[.lst (cs.map MV.int)]);obtain⟨a,b⟩: ∃a,a=S++[MO.lst (cs.map MV.int)]:=⟨_,rfl⟩
 have F:a.length=↑1+1:=by rw[b];simp
 rw[<-b]at s;have L:cU [#[↑1],#[ex,0],#[lt],#[p],#[30,0],none,none,none,none,none] a=#[[#[↑1],#[ex,0],#[lt],#[p],#[30,0],#[a.length],none,none,none,none],Wl (a++[.lst []]) a.length t,0]:=by unfold cU;simp? [s];rw[pN]
 have A:a.length<(a++[MO.lst []]).length:=by simp
 have I:cV [#[↑1],#[ex,0],#[lt],#[p],#[30,0],#[a.length],none,none,none,none] (Wl (a++[.lst []]) a.length t)=#[[#[↑1],#[ex,0],#[lt],#[p],#[30,0],#[a.length],#[t % 20,0],none,none,none],a++[.lst [.int (t / 20)]],0]:=by unfold cV;simp? [yV (n:=20) (x:=t) A];rw[pN]
 obtain⟨i,c⟩: ∃i,i=a++[MO.lst [.int (t / 20)],MO.lst []]:=⟨_,rfl⟩
 have l2:i.length=↑1+3:=by rw[c];simp[F]
 have W:cW [#[↑1],#[ex,0],#[lt],#[p],#[30,0],#[a.length],#[t % 20,0],none,none,none] (a++[.lst [.int (t / 20)]])=#[ZM ↑1 ex lt p a.length (t % 20) (↑1+2) none none,i,0]:=by unfold cW;simp? [jG];rw[lA,F,aA,c];rfl
 have q:i[↑1]? =#[cs.map MV.int,2]:=by rw[c,b];simp
 obtain⟨T,t1,t2,O⟩:=FH cs i q;have Z:0<=t % 20:=eN _ (by decide);have k1:t % 20<20:=eL _ (by decide);obtain⟨ws,o⟩: ∃ws:List Nat,ws=List.range' i.length cs.length++List.replicate (t % 20).toNat a.length:=⟨_,rfl⟩
 have y: ∀Y,vT (.new [.loc a.length]) #[t % 20,5] Y=#[(List.replicate (t % 20).toNat a.length).map MV.loc,Y,2]:=λY=>by
  show(if 0<=t % 20/\t % 20<100000/\[MV.loc a.length].length * (t % 20).toNat<=sizeLine then _ else _)=_;rw[iP ⟨Z,by omega,fits (by simp;omega)⟩]
  have C: ∀n:Nat,(List.replicate n [MV.loc a.length]).flatten=(List.replicate n a.length).map MV.loc:=λn=>by
   induction n with
   |zero=>rfl
   |succ n ih=>rw[ĭ,flatten_cons,ih,ĭ];rfl
  rw[C]
 have v: ∀Y,wQ (.new ((List.range' i.length cs.length).map MV.loc)) (.new ((List.replicate (t % 20).toNat a.length).map MV.loc)) Y=#[ws.map MV.loc,Y,2]:=λY=>by rw[o,ð];exact RO rfl rfl (fits (by rw[lM,lM,List.length_range',Ċ];omega))
 have H0:RI S (↑1+2) ws [] (i++T):=by
  refine⟨⟨[.lst (cs.map MV.int),.lst [.int (t / 20)],.lst []]++T,by rw[c,b];simp⟩,?_,λw hw=>?_⟩
  .rw[á (by omega),c,b];simp
  .rw[o]at hw;rcases é.mp hw with hw|hw
   .obtain⟨j,hj,rfl⟩:=List.mem_range'.mp hw;refine⟨by omega,by omega,?_⟩;rw[æ (by omega),show i.length+1 * j - i.length=j by omega,gE (by omega)];obtain⟨x,hx⟩:=t2 _ (getElem_mem (show j<T.length by omega));exact⟨x,by rw[hx]⟩
   .rw[(List.mem_replicate.mp hw).2];refine⟨by omega,by omega,t / 20,?_⟩;rw[á (by omega),c,æ (by omega),sub_self];rfl
 obtain⟨rs,M,U,J,H,E,B,e⟩:=PM (lc:=↑1) (m:=a.length) (ex:=ex) (k:=t % 20) (lr:=↑1+2) (by omega) X N G h1 K P ws (λu h=>h) [] (i++T) none none H0 (by simp) (by simp);have Q:cX (ZM ↑1 ex lt p a.length (t % 20) (↑1+2) none none) i=#[ZM ↑1 ex lt p a.length (t % 20) (↑1+2) U J,M,0]:=by unfold cX;simp? [xA q,lM,show cs.length<1000000 by omega];rw[show vG 1 [] (ZM ↑1 ex lt p a.length (t % 20) (↑1+2) none none)=[none]from rfl,O];simp? [lst1,y,v,SJ];exact e
 obtain⟨T',z⟩:=H.old;refine⟨rs,E,B,dL (T:=T') (S2:=a) (as:=[.loc ↑1,.int ex,.loc lt,.loc p,.int 30]) rfl (by rw[b];rfl) ?_ (.inr ⟨↑1+2,rfl,by omega,by rw[<-z];exact H.rw⟩) (gV λd hd=>by obtain⟨r,D,rfl⟩:=mM.mp hd;exact fS (SK G (E r D)).1)⟩;show yD (iO [#[↑1],#[ex,0],#[lt],#[p],#[30,0],none,none,none,none,none] a)=_;unfold iO;rw[zC L,zC I,zC W,zC Q, <-z];rfl
abbrev Ev:=List (MV×MV)
variable{E:Ev}{Gs:List Ev}
def tG(E:Ev):Prop:= ∀p∈E,(∃x,p.1=.str x)/\VS p.2
noncomputable def isv:MV->MV
 |.tup [_,v]=>v
 |_=>.non
noncomputable def cM:List MV->List MV->Ev->Option Ev
 |t::ts,c::cs,E=>match vn t with
  |some x=>match look E (.str x)with
   |none=>cM ts cs (E++[(.str x,c)])
   |some d=>if d=c then cM ts cs E else none
  |none=>if isv t=c then cM ts cs E else none
 |_,_,E=>some E
def uT(x:Db)(c:MV)(ts cs:C1)(E:Ev):cM (.tup [.str vK,.str x]::ts) (c::cs) E=match look E (.str x)with |none=>cM ts cs (E++[(.str x,c)])|some d=>if d=c then cM ts cs E else none:=by
 conv=>lhs;unfold cM
 rw[AU]
theorem LU(v c:MV)(ts cs:C1)(E:Ev):cM (.tup [.str IS,v]::ts) (c::cs) E=if v=c then cM ts cs E else none:=by
 conv=>lhs;unfold cM
 rw[BR];rfl
theorem PN(V F:Ev)(k:MV):look (V++F) k=(look V k).or (look F k):=by unfold look;rw[List.find?_append];cases V.find? (λp=>decide (p.1=k))<;>rfl
def LV(h:tG E){k d:MV}(e:look E k=some d):VS d:=by unfold look at e;obtain⟨p,a,rfl⟩:=Option.map_eq_some_iff.mp e;exact(h p (List.mem_of_find?_eq_some a)).2
def Dz{k d:MV}(e:look E k=some d): ∃p∈E,p.1=k:=by unfold look at e;obtain⟨p,a,rfl⟩:=Option.map_eq_some_iff.mp e;exact⟨p,List.mem_of_find?_eq_some a,by simpa using List.find?_some a⟩
def Lq{k:MV}(e:look E k=none): ∀p∈E,p.1≠k:=λp a h=>by unfold look at e;rw[Option.map_eq_none_iff,List.find?_eq_none]at e;exact e p a (dT0 h)
theorem FK{V:Ev}{k d:MV}(h:look V k=none):putK V k d=V++[(k,d)]:=by unfold putK;rw[h];rfl
theorem DO: ∀(ts cs:C1)(F G:Ev),cM ts cs F=some G->tG F->(∀c∈cs,VS c)->tG G
 |[],_,F,G,h,hF,_=>by cases h;exact hF
 |t::ts,[],F,G,h,hF,_=>by cases h;exact hF
 |t::ts,c::cs,F,G,h,hF,hc=>by
  have a: ∀c∈cs,VS c:=λd hd=>hc d (mO _ hd);unfold cM at h;split at h
  .rename_i x e;split at h
   .refine DO ts cs _ G h (λp b=>?_) a;rcases é.mp b with b|b
    .exact hF p b
    .rw[mS.mp b];exact⟨⟨x,rfl⟩,hc c mF0⟩
   .split at h
    .exact DO ts cs F G h hF a
    .cases h
  .split at h
   .exact DO ts cs F G h hF a
   .cases h
theorem aV(C:Ev)(k x j:MV):look (C++[(k,x)]) j=(look C j).or (if k=j then some x else none):=by
 rw[PN];congr 1;unfold look;rw[find?_cons];by_cases h:k=j
 .rw[iP h,dT0 h];rfl
 .rw[iN h,dF0 h];rfl
theorem VH: ∀(ts cs:C1)(E G:Ev),cM ts cs E=some G->ts.length<=cs.length->(∀k,look E k≠none->look G k≠none)/\ ∀t∈ts, ∀x,vn t=some x->look G (.str x)≠none
 |[],_,E,G,h,_=>by cases h;exact⟨λk h=>h,λt q=>by simp at q⟩
 |t::ts,[],E,G,h,hl=>by simp at hl
 |t::ts,c::cs,E,G,h,hl=>by
  rw[lC,lC]at hl
  have n: ∀{F:Ev},cM ts cs F=some G->(∀k,look E k≠none->look F k≠none)->(∀x,vn t=some x->look F (.str x)≠none)->(∀k,look E k≠none->look G k≠none)/\ ∀t'∈t::ts, ∀x,vn t'=some x->look G (.str x)≠none:=λp h1 o=>by
   obtain⟨a,b⟩:=VH ts cs _ G p (by omega);refine⟨λk i=>a k (h1 k i),λt' m x j=>?_⟩;rcases mC.mp m with rfl|m
   .exact a _ (o x j)
   .exact b t' m x j
  unfold cM at h;split at h
  .rename_i x j;split at h
   .rename_i r;refine n h (λk i=>?_) λy e=>?_
    .rw[PN]
     cases z:look E k with
     |none=>exact absurd z i
     |some d=>simp
    .rw[j]at e;cases e;rw[aV,r,iP rfl];simp
   .rename_i d hd;split at h
    .exact n h (λk i=>i) λy e=>by rw[j]at e;cases e;rw[hd];simp
    .cases h
  .rename_i j;split at h
   .exact n h (λk i=>i) λy e=>by rw[j]at e;cases e
   .cases h
theorem Zk(h:tG E):E.all (λp=>tD p.1)=true:=by rw[ą];intro p a;obtain⟨x,e⟩:=(h p a).1;rw[e];rfl
section
variable{S:Sto}{l:Nat}{E:Ev}
def BS(h:S[l]? =#[E,7])(a:tG E):uG S #[l,1]=some (l,E):=Dl h (Zk a)
theorem LW(h:S[l]? =#[E,7])(a:tG E):RX #[l,1] S=true:=by unfold RX;rw[BS h a];rfl
theorem Uw(h:S[l]? =#[E,7])(a:tG E)(x:Db):YI false (.val (.str x)) #[l,1] S=#[.bl (look E (.str x)).isSome,S,1]:=by unfold YI;dsimp only;rw[BS h a];rfl
theorem Ea(h:S[l]? =#[E,7])(b:tG E){x:Db}{d:MV}(a:look E (.str x)=some d):OT #[l,1] (.val (.str x)) S=#[d,S,1]:=by unfold OT;rw[BS h b];dsimp only;rw[a];rfl
def Lr(h:S[l]? =#[E,7])(b:tG E)(hz:E.length<1000000){x:Db}{c d:MV}(a:look E (.str x)=some d):Ci #[l,1] [.val (.str x),.val c] S=#[d,S,1]:=by show OQ _ _ _ S=_;unfold OQ;rw[BS h b];dsimp only;rw[iP ⟨rfl,hz⟩,a]
def Lu(h:S[l]? =#[E,7])(b:tG E)(hz:E.length<1000000){x:Db}{c:MV}(a:look E (.str x)=none):Ci #[l,1] [.val (.str x),.val c] S=#[c,S.set l (.dic (E++[(.str x,c)])),1]:=by show OQ _ _ _ S=_;unfold OQ;rw[BS h b];dsimp only;rw[iP ⟨rfl,hz⟩,a];dsimp only;rw[FK a]
end
def VI{d e:MV}(hd:pd d=true)(a:pd e=true)(h:vI d<40):RH (.val d) (.val e) S=#[.bl (!decide (d=e)),S,1]:=RP (fR (zG+1) hd a (by unfold zG;omega))
noncomputable abbrev FT(lt cs:C1)(n:Nat)(a b c:C4):Rho:=[#[lt,3],#[cs,3],#[n],a,b,c]
def Lv{lt cs0:C1}{t c:MV}(r:jS t)(q:VS c)(h:tG E)(hz:E.length<1000)(o:C4):
  (∃F e,(∀ts b,cM (t::ts) (c::b) E=cM ts b F)/\tG F/\F.length<=E.length+1/\xT (FT lt cs0 ↑1 (some t) (some c) o) (S++[.dic E])=#[FT lt cs0 ↑1 (some t) (some c) (some e),S++[.dic F],0])\/
  ((∀ts b,cM (t::ts) (c::b) E=none)/\xT (FT lt cs0 ↑1 (some t) (some c) o) (S++[.dic E])=.ok (.ret (.val .non)) (S++[.dic E])):=by
 have k:(S++[.dic E])[↑1]? =#[E,7]:=zL _ _
 have n: ∀(d:MV)(m:Ev),VS d->cN (FT lt cs0 ↑1 (some t) (some c) (some d)) (S++[.dic m])=if d=c then #[FT lt cs0 ↑1 (some t) (some c) (some d),S++[.dic m],0]else .ok (.ret (.val .non)) (S++[.dic m]):=λd m hd=>by
  unfold cN;simp? [VI (qS hd).1 (qS q).1 (qS hd).2];by_cases a:d=c
  .rw[dT0 a,iP a];rfl
  .rw[dF0 a,iN a];rfl
 unfold xT;rcases r with⟨x,rfl⟩|⟨v,hv,rfl⟩
 .cases z:look E (.str x)with
  |none=>
   have i:yR (FT lt cs0 ↑1 #[[.str vK,.str x],3] (some c) o) (S++[.dic E])=#[FT lt cs0 ↑1 #[[.str vK,.str x],3] (some c) (some c),S++[.dic (E++[(.str x,c)])],0]:=by unfold yR;simp? [Di,Dj,PH,LW k h,Lu k h (show E.length<1000000 by omega) z,bR]
   refine .inl ⟨E++[(.str x,c)],c,λts b=>by rw[uT,z],λp j=>?_,by simp,?_⟩
   .rcases é.mp j with j|j
    .exact h p j
    .rw[mS.mp j];exact⟨⟨x,rfl⟩,q⟩
   .rw[zC i,n c _ q,iP rfl]
  |some d=>
   have i:yR (FT lt cs0 ↑1 #[[.str vK,.str x],3] (some c) o) (S++[.dic E])=#[FT lt cs0 ↑1 #[[.str vK,.str x],3] (some c) (some d),S++[.dic E],0]:=by unfold yR;simp? [Di,Dj,PH,LW k h,Lr k h (show E.length<1000000 by omega) z]
   rw[zC i,n d _ (LV h z)];by_cases a:d=c
   .exact .inl ⟨E,d,λts b=>by rw[uT,z];exact iP a,h,by omega,by rw[iP a]⟩
   .exact .inr ⟨λts b=>by rw[uT,z];exact iN a,by rw[iN a]⟩
 .have i:yR (FT lt cs0 ↑1 #[[.str IS,v],3] (some c) o) (S++[.dic E])=#[FT lt cs0 ↑1 #[[.str IS,v],3] (some c) (some v),S++[.dic E],0]:=by unfold yR;simp? [Di,Dj,Dh,fT,iF]
  rw[zC i,n v _ hv];by_cases a:v=c
  .exact .inl ⟨E,v,λts b=>by rw[LU,iP a],h,by omega,by rw[iP a]⟩
  .exact .inr ⟨λts b=>by rw[LU,iN a],by rw[iN a]⟩
theorem Eb{S:Sto}{lt cs0:C1}: ∀(ts cs:C1)(E:Ev)(a b c:C4),(∀t∈ts,jS t)->(∀c∈cs,VS c)->tG E->E.length+ts.length<1000->
  (∃F o m n,cM ts cs E=some F/\wF (fZ 2 (zA (zW 3) (zA (zW 4) zY))) xT [] (pairs ts cs) (FT lt cs0 ↑1 a b c) (S++[.dic E])=#[FT lt cs0 ↑1 o m n,S++[.dic F],0])\/
  (cM ts cs E=none/\ ∃i,wF (fZ 2 (zA (zW 3) (zA (zW 4) zY))) xT [] (pairs ts cs) (FT lt cs0 ↑1 a b c) (S++[.dic E])=.ok (.ret (.val .non)) (S++[.dic i]))
 |[],cs,E,a,b,c,_,_,_,_=>.inl ⟨E,a,b,c,rfl,rfl⟩
 |t::ts,[],E,a,b,c,_,_,_,_=>.inl ⟨E,a,b,c,rfl,rfl⟩
 |t::ts,d::cs,E,a,b,c,ht,hc,hE,hz=>by
  rw[lC]at hz;have k:fZ 2 (zA (zW 3) (zA (zW 4) zY)) (.tup [t,d]) (FT lt cs0 ↑1 a b c) (S++[.dic E])=.ok (FT lt cs0 ↑1 (some t) (some d) c) (S++[.dic E]):=rfl;have j: ∀i:Ev,stay [] (S++[.dic i]):=λi=>nN _;rcases Lv (S:=S) (lt:=lt) (cs0:=cs0) (ht t mF0) (hc d mF0) hE (by omega) c with⟨F,e,h1,h2,h3,h4⟩|⟨h1,h4⟩
  .show(∃F o m n,_/\wF _ _ _ (.tup [t,d]::pairs ts cs) _ _=_)\/(_/\ ∃i,wF _ _ _ (.tup [t,d]::pairs ts cs) _ _=_)
   rw[zZ k h4 (j F),h1];exact Eb ts cs F (some t) (some d) (some e) (λt h=>ht t (mO _ h)) (λt h=>hc t (mO _ h)) h2 (by omega)
  .refine .inr ⟨h1 ts cs,E,?_⟩;show wF _ _ _ (.tup [t,d]::pairs ts cs) _ _=_;rw[Jc k h4]
def VJ:tG []:=λp h=>by simp at h
def Zl{ts cs:C1}(k: ∀t∈ts,jS t)(j: ∀c∈cs,VS c)(hz:ts.length<900):
  zK 2 aU [#[ts,6],#[cs,6]] S=match cM ts cs []with |some F=>.ok #[S.length,1] (S++[.dic F])|none=>#[.non,S,1]:=by
 have i:iG [#[ts,3],#[cs,3],none,none,none,none] S=#[FT ts cs ↑1 none none none,S++[.dic []],0]:=by unfold iG;simp? [EK]
 have d:Nc [#[ts,6],#[cs,6]] (S++[.dic []])=.ok ⟨pairs ts cs,[]⟩ (S++[.dic []]):=rfl;have h:iH (FT ts cs ↑1 none none none) (S++[.dic []])=wF (fZ 2 (zA (zW 3) (zA (zW 4) zY))) xT [] (pairs ts cs) (FT ts cs ↑1 none none none) (S++[.dic []]):=by unfold iH;simp? [d]
 rcases Eb (S:=S) (lt:=ts) (cs0:=cs) ts cs [] none none none k j VJ (by simp only[ú];omega)with⟨F,a,b,c,h1,h2⟩|⟨h1,E',h2⟩
 .rw[h1];dsimp only;have e:aU [.tup ts,.tup cs] S=.ok #[↑1,1] (S++[.dic F]):=by show yD (aT [#[ts,3],#[cs,3],none,none,none,none] S)=_;unfold aT;rw[zC i,zC (h.trans h2)];rfl
  exact Dp (T:=[]) rfl e
 .rw[h1];dsimp only;have e:aU [.tup ts,.tup cs] S=#[.non,S++[.dic E'],1]:=by show yD (aT [#[ts,3],#[cs,3],none,none,none,none] S)=_;unfold aT;rw[zC i,mX (h.trans h2)];rfl
  exact EG (T:=[.dic E']) rfl e (Bq _) (λl=>by simp)
def Ux{l:Nat}(h:S[l]? =#[E,7])(a:tG E):RY [#[l,1]] S=.ok #[↑1,1] (S++[.dic E]):=by unfold RY;dsimp only;rw[BS h a]
noncomputable abbrev D4(m:MV)(n:Nat)(a t:C4):Rho:=[some m,#[n],a,t]
theorem FL{S:Sto}{m:MV}{a:C4}: ∀(b:C1),(∀d∈b,jS d)-> ∀(ks:Ch)(t:C4),ks.length+b.length<100000->
  ∃t',wF (zW 3) gY [] b (D4 m ↑1 a t) (S++[.dic (dT ks)])=#[D4 m ↑1 a t',S++[.dic (dT (yX ks (b.filterMap vn)))],0]
 |[],_,ks,t,_=>⟨t,rfl⟩
 |d::b,hT,ks,t,hl=>by
  rw[lC]at hl;rcases hT d mF0 with⟨x,rfl⟩|⟨v,hv,rfl⟩
  .have i:=FF ks x;obtain⟨t',h⟩:=FL (S:=S) (m:=m) (a:=a) b (λe c=>hT e (mO _ c)) (pQ ks x) #[[.str vK,.str x],3] (by omega);refine⟨t',?_⟩;rw[zZ (show zW 3 (.tup [.str vK,.str x]) (D4 m ↑1 a t) (S++[.dic (dT ks)])=.ok (D4 m ↑1 a #[[.str vK,.str x],3]) (S++[.dic (dT ks)])from rfl) (ρ':=D4 m ↑1 a #[[.str vK,.str x],3]) (S':=S++[.dic (dT (pQ ks x))]) ?_ (nN _)]
   .rw[Ĭ,AU];exact h
   .unfold gY gX;simp? [Di,Dj,PH,LK,Lg (zL S (.dic (dT ks))) (show ks.length<1000000 by omega),bR]
  .obtain⟨t',h⟩:=FL (S:=S) (m:=m) (a:=a) b (λe c=>hT e (mO _ c)) ks #[[.str IS,v],3] (by omega);refine⟨t',?_⟩;rw[zZ (show zW 3 (.tup [.str IS,v]) (D4 m ↑1 a t) (S++[.dic (dT ks)])=.ok (D4 m ↑1 a #[[.str IS,v],3]) (S++[.dic (dT ks)])from rfl) (ρ':=D4 m ↑1 a #[[.str IS,v],3]) (S':=S++[.dic (dT ks)]) ?_ (nN _)]
   .rw[Ĭ,BR];exact h
   .unfold gY gX;simp? [Di,Dj,Dh,fT,iF]
theorem Ec{S:Sto}{m:MV}{gs:C6}(c: ∀T,stay gs (S++T)): ∀(as:List Rw),(∀b∈as,(∀d∈b.2,jS d)/\b.2.length<=4)-> ∀(ks:Ch)(a t:C4),ks.length+100 * as.length<50000->
  ∃e t',wF (zW 2) gZ gs #[as,9] (D4 m ↑1 a t) (S++[.dic (dT ks)])=#[D4 m ↑1 e t',S++[.dic (dT (yX ks (dB as)))],0]
 |[],_,ks,a,t,_=>⟨a,t,rfl⟩
 |p::ps,h,ks,a,t,hl=>by
  rw[lC]at hl;have i:=h p mF0;have k:=i.2;obtain⟨j,h1⟩:=FL (S:=S) (m:=m) (a:=some (zO p)) p.2 i.1 ks t (by omega);have r:gZ (D4 m ↑1 (some (zO p)) t) (S++[.dic (dT ks)])=#[D4 m ↑1 (some (zO p)) j,S++[.dic (dT (yX ks (p.2.filterMap vn)))],0]:=by unfold gZ eU;simp? [show∀Z,iC (.val (zO p)) #[1,5] Z=.ok #[p.2,6] Z from λ_=>rfl,FE];exact h1
  have s:=qQ (p.2.filterMap vn) ks;have u:(p.2.filterMap vn).length<=p.2.length:=ī _ _;obtain⟨e,t',n⟩:=Ec (m:=m) c ps (λq o=>h q (mO _ o)) (yX ks (p.2.filterMap vn)) (some (zO p)) j (by omega);refine⟨e,t',?_⟩;rw[ä,zZ (show zW 2 (zO p) (D4 m ↑1 a t) (S++[.dic (dT ks)])=.ok (D4 m ↑1 (some (zO p)) t) (S++[.dic (dT ks)])from rfl) r (c _),n];show _=R.ok _ (S++[.dic (dT (yX ks (p.2.filterMap vn++dB ps)))]);rw[PL]
theorem Zm{as:List Rw}(n:SqM S m #[as,9])(h: ∀b∈as,(∀d∈b.2,jS d)/\b.2.length<=4)(o:as.length<=100):xX [m] S=#[(yX [] (dB as)).map MV.str,S++[.dic (dT (yX [] (dB as)))],2]:=by
 obtain⟨gs,c,hi⟩:=n.itQ;obtain⟨a,t',e⟩:=Ec (m:=m) c as h [] none none (by simp only[ú];omega);have k:aB [some m,none,none,none] S=#[D4 m ↑1 none none,S++[.dic (dT [])],0]:=by unfold aB;simp? [EK];rfl
 have i:aC (D4 m ↑1 none none) (S++[.dic (dT [])])=#[D4 m ↑1 a t',S++[.dic (dT (yX [] (dB as)))],0]:=by unfold aC;simp? [hi [.dic (dT [])]];exact e
 have j:aD (D4 m ↑1 a t') (S++[.dic (dT (yX [] (dB as)))])=.ok (.ret (.new ((yX [] (dB as)).map MV.str))) (S++[.dic (dT (yX [] (dB as)))]):=by unfold aD;simp? [Dm (zL S (.dic (dT (yX [] (dB as)))))]
 show yD (oB [some m,none,none,none] S)=_;unfold oB;rw[zC k,zC i,j];rfl
def Zn{as:List Rw}(c:SqM S m #[as,9])(h: ∀b∈as,(∀d∈b.2,jS d)/\b.2.length<=4)(a:as.length<=100):zK 1 xX [.val m] S=#[(yX [] (dB as)).map MV.str,S,2]:=
 tY (T:=[.dic (dT (yX [] (dB as)))]) rfl (Zm c h a) (rM _ _)
theorem Uy{as:List Rw}(h: ∀b∈as,(∀d∈b.2,jS d)/\b.2.length<=4)(a:as.length<=100):zK 1 xX [.new #[as,9]] S=#[(yX [] (dB as)).map MV.str,S,2]:=by refine dL rfl (show zF [.new #[as,9]] S=([.loc ↑1],S++[.lst #[as,9]])from rfl) (T:=[.lst #[as,9],.dic (dT (yX [] (dB as)))]) ?_ (.inl rfl) (rM _ _);rw[Zm (.inr ⟨↑1,rfl,zL _ _⟩) h a,aA];rfl
def pS(E:Ev)(x:Db):MV:=(look E (.str x)).getD .non
theorem fU{x:Db}{d:MV}(h:look E (.str x)=some d):pS E x=d:=by unfold pS;rw[h];rfl
theorem VL{l:Nat}(h:S[l]? =#[E,7])(i:tG E)(n:SqM S m #[xs,8])(o: ∀x∈xs,look E (.str x)≠none)(p:xs.length<1000):zK 2 yH [#[l,1],.val m] S=.ok #[xs.map (pS E),6] S:=by
 obtain⟨gs,b,hi⟩:=n.itQ;have b:=b [];have hi:=hi [];rw[aN]at b hi
 have j: ∀x∈xs, ∃d,look E (.str x)=some d/\VS d:=λx a=>by
  cases z:look E (.str x)with
  |none=>exact absurd z (o x a)
  |some d=>exact⟨d,rfl,LV i z⟩
 have k:yE (zW 0) dQ jU [none,#[l]] gs #[xs,8] S=.ok (xs.map (pS E)) S:=
  mI (f:=MV.str) (g:=pS E) b λx a=>by obtain⟨d,hd,_⟩:=j x a;refine⟨[#[x,4],#[l]],rfl,rfl,?_⟩;unfold jU;simp? [Ea h i hd];rw[fU hd]
 have c:pd (.tup (xs.map (pS E)))=true:=by rw[yW];refine bQ λd hd=>?_;obtain⟨x,a,rfl⟩:=mM.mp hd;obtain⟨d,hd,e⟩:=j x a;rw[fU hd];exact(qS e).1
 refine lX rfl ?_ (fS c) (λl=>by simp);show yD (iL [#[l],some m] S)=_;unfold iL iY;simp? [hi,lM,show xs.length<1000000 by omega];rw[show vG 1 [0] [#[l],some m]=[none,#[l]]from rfl,k];simp? [mK];rfl
def IP{n:Nat}{F:List MV->Sto->R Er}{ds:C1}(b:rs.length=n)(c:F (zF rs S).1 (zF rs S).2=#[ds,S++T,2]): ∃a,zK n F rs S=#[ds,S++a,2]/\(a=T\/a=[]/\rY ↑1 ds):=by
 unfold zK;rw[iP b,c];show∃a,jF S (.new ds) (S++T)=_/\_;unfold jF;rw[iP qE];dsimp only;split
 .rename_i h;exact⟨[],by rw[aN,List.take_left'];rfl,.inr ⟨rfl,h⟩⟩
 .exact⟨T,rfl,.inl rfl⟩
def FtO(Z:Sto)(n:Nat)(mk:Int):List MV->List (Option Ev)->Prop
 |[],[]=>True
 |w::ws,some G::gs=>(∃e,w=.tup [.loc e,.int mk]/\n<=e/\Z[e]? =#[G,7])/\FtO Z n mk ws gs
 |w::ws,none::gs=>w=.tup [.non,.int mk]/\FtO Z n mk ws gs
 |_,_=>False
theorem FtO.grow{n:Nat}{mk:Int}: ∀{ws:C1}{gs:List (Option Ev)},FtO Z n mk ws gs->FtO (Z++T) n mk ws gs
 |[],[],_=>trivial
 |w::ws,some G::gs,h=>⟨let ⟨e,a,b,c⟩:=h.1;⟨e,a,b,by rw[á (gS.mp c).1];exact c⟩,FtO.grow h.2⟩
 |w::ws,none::gs,h=>⟨h.1,FtO.grow h.2⟩
 |[],_::_,h=>h.elim
 |_::_,[],h=>h.elim
def Fts(Z:Sto)(n:Nat)(mk:Int):List MV->List Ev->Prop
 |[],[]=>True
 |w::ws,G::gs=>(∃e,w=.tup [.loc e,.int mk]/\n<=e/\Z[e]? =#[G,7])/\Fts Z n mk ws gs
 |_,_=>False
theorem Fts.grow{n:Nat}{mk:Int}: ∀{ws:C1}{gs:List Ev},Fts Z n mk ws gs->Fts (Z++T) n mk ws gs
 |[],[],_=>trivial
 |w::ws,G::gs,h=>⟨let ⟨e,a,b,c⟩:=h.1;⟨e,a,b,by rw[á (gS.mp c).1];exact c⟩,Fts.grow h.2⟩
 |[],_::_,h=>h.elim
 |_::_,[],h=>h.elim
def Fts.len{n:Nat}{mk:Int}: ∀{ws:C1}{gs:List Ev},Fts Z n mk ws gs->ws.length=gs.length
 |[],[],_=>rfl
 |_::_,_::_,h=>by rw[lC,lC,h.2.len]
 |[],_::_,h=>h.elim
 |_::_,[],h=>h.elim
def Fts.cut{b:Sto}{n m:Nat}{mk:Int}{ws:C1}{gs:List Ev}(h:Fts Z n mk ws gs)(l:rY m ws)(a:m<=n):Fts b n mk ws gs:=by
 cases ws with
 |nil=>cases gs with
  |nil=>trivial
  |cons G gs=>exact h.elim
 |cons w ws=>cases gs with
  |nil=>exact h.elim
  |cons G gs=>
   obtain⟨⟨e,rfl,h1,_⟩,_⟩:=h;unfold rY at l;have:=l.1;unfold lo rY at this;have:=this.1;unfold lo at this;omega
section
variable{lr lm n:Nat}{R0 M0:C1}{a:Rw}
theorem LX(s:(∀d∈a.2,jS d)/\a.2.length<=4): ∀(rs:List Rw)(Z:Sto),Z[lr]? =#[R0,2]->Z[lm]? =#[M0,2]->n<=Z.length->(∀r∈rs, ∀c∈r.2,VS c)->
  ∃out T,yE (fZ 2 (zA (zW 0) (zA (zW 1) zY))) jN xE [none,none,some (zO a)] [(lr,R0),(lm,M0)] (pairs #[rs,9] (rs.map λ_=>.int 1)) Z=.ok out (Z++T)/\FtO (Z++T) n 1 out ((rs.filter λr=>decide (r.1=a.1)).map λr=>cM a.2 r.2 [])/\out.length<=rs.length
 |[],Z,_,_,_,_=>⟨[],[],by rw[aN];rfl,trivial,à _⟩
 |r::rs,Z,h1,h2,h3,hv=>by
  have st: ∀{w:Sto},w[lr]? =#[R0,2]->w[lm]? =#[M0,2]->stay [(lr,R0),(lm,M0)] w:=λa b q i=>by
   simp only[mC,nM,or_false]at i;rcases i with rfl|rfl
   .exact a
   .exact b
  have u:fZ 2 (zA (zW 0) (zA (zW 1) zY)) (.tup [zO r,.int 1]) [none,none,some (zO a)] Z=.ok [some (zO r),#[1,0],some (zO a)] Z:=rfl;have B: ∀(q:Rw) Y,iC (.val (zO q)) #[0,5] Y=.ok #[q.1,5] Y:=λ_ _=>rfl;have i1: ∀(q:Rw) Y,iC (.val (zO q)) #[1,5] Y=.ok #[q.2,6] Y:=λ_ _=>rfl;have m:jN [some (zO r),#[1,0],some (zO a)] Z=.ok (decide (r.1=a.1)) Z:=by unfold jN;simp? [B,eq_int]
  have y:pairs ((r::rs).map zO) ((r::rs).map λ_=>MV.int 1)=.tup [zO r,.int 1]::pairs #[rs,9] (rs.map λ_=>.int 1):=rfl;by_cases e:r.1=a.1
  .have k:=Zl (S:=Z) s.1 (hv r mF0) (show a.2.length<900 by omega);rw[dT0 e]at m
   cases z:cM a.2 r.2 []with
   |none=>
    rw[z]at k;have v:xE [some (zO r),#[1,0],some (zO a)] Z=.ok #[[.non,.int 1],6] Z:=by unfold xE;simp? [i1,k,tup2]
    obtain⟨out,T,j,g2,A⟩:=LX s rs Z h1 h2 h3 λq i=>hv q (mO _ i);refine⟨.tup [.non,.int 1]::out,T,?_,?_,by rw[lC,lC];omega⟩
    .rw[y];exact uP u m v (st h1 h2) j
    .rw[List.filter_cons,iP (dT0 e),ä,z];exact⟨rfl,g2⟩
   |some G=>
    rw[z]at k;dsimp only at k;have p: ∀{l:Nat}{o:MO},Z[l]? =some o->(Z++[MO.dic G])[l]? =some o:=λh=>by rw[á (gS.mp h).1];exact h
    have v:xE [some (zO r),#[1,0],some (zO a)] Z=.ok #[[.loc Z.length,.int 1],6] (Z++[.dic G]):=by unfold xE;simp? [i1,k,tup2]
    obtain⟨out,T,j,g2,A⟩:=LX s rs (Z++[.dic G]) (p h1) (p h2) (by rw[lA];omega) λq i=>hv q (mO _ i);refine⟨.tup [.loc Z.length,.int 1]::out,.dic G::T,?_,?_,by rw[lC,lC];omega⟩
    .rw[y];rw[aA]at j;exact uP u m v (st (p h1) (p h2)) j
    .rw[List.filter_cons,iP (dT0 e),ä,z];rw[aA]at g2;exact⟨⟨Z.length,rfl,h3,by simp⟩,g2⟩
  .rw[dF0 e]at m;obtain⟨out,T,j,g2,A⟩:=LX s rs Z h1 h2 h3 λq i=>hv q (mO _ i);refine⟨out,T,?_,?_,by rw[lC];omega⟩
   .rw[y];exact VC u m (st h1 h2) j
   .rw[List.filter_cons,iN (by simpa using e)];exact g2
theorem SN{lf:Nat}{all:C1}{Z:Sto}(a:Z[lf]? =#[all,2]): ∀(ws:C1)(gs:List (Option Ev)),FtO Z n 1 ws gs-> ∃out,yE (fZ 2 (zA (zW 0) (zA (zW 1) zY))) xF jO [none,none] [(lf,all)] ws Z=.ok out Z/\Fts Z n 1 out (gs.filterMap id)
 |[],[],_=>⟨[],rfl,trivial⟩
 |w::ws,some G::gs,h=>by
  obtain⟨⟨e,rfl,h1,i⟩,b⟩:=h;obtain⟨out,d,g2⟩:=SN a ws gs b;refine⟨.tup [.loc e,.int 1]::out,?_,⟨e,rfl,h1,i⟩,g2⟩;have c:xF [#[e],#[1,0]] Z=.ok true Z:=by unfold xF;simp? [show∀Y,HS #[e,1] (.val .non) Y=#[.bl true,Y,1] from λ_=>rfl]
  have j:jO [#[e],#[1,0]] Z=.ok #[[.loc e,.int 1],6] Z:=by unfold jO;simp? [tup2]
  exact uP rfl c j (yI a) d
 |w::ws,none::gs,h=>by
  obtain⟨rfl,b⟩:=h;obtain⟨out,d,g2⟩:=SN a ws gs b;refine⟨out,?_,g2⟩;have c:xF [some .non,#[1,0]] Z=.ok false Z:=by unfold xF;simp? [show∀Y,HS (.val .non) (.val .non) Y=#[.bl false,Y,1] from λ_=>rfl]
  exact VC rfl c (yI a) d
 |[],_::_,h=>h.elim
 |_::_,[],h=>h.elim
end
def jT(rows:List Rw)(a:Rw):List Ev:=(rows.filter λr=>decide (r.1=a.1)).filterMap λr=>cM a.2 r.2 []
def Zo{lm:Nat}{a:Rw}(j:S[lr]? =#[rows.map zO,2])(m:S[lm]? =some (.lst (rows.map λ_=>.int 1)))(y: ∀r∈rows, ∀c∈r.2,VS c)(u:rows.length<=1000)(s:(∀d∈a.2,jS d)/\a.2.length<=4):
  ∃T ws,zK 3 lZ [#[lr,1],#[lm,1],.val (zO a)] S=#[ws,S++T,2]/\Fts (S++T) ↑1 1 ws (jT rows a):=by
 obtain⟨out,T,A,g2,B⟩:=LX (n:=↑1) s rows S j m (à _) y;have i:Nc [#[lr,1],#[lm,1]] S=.ok ⟨pairs #[rows,9] (rows.map λ_=>.int 1),[(lr,rows.map zO),(lm,rows.map λ_=>.int 1)]⟩ S:=by unfold Nc srcOf;dsimp only;rw[j,m];rfl
 have b: ∀(rs:List Rw),(pairs #[rs,9] (rs.map λ_=>MV.int 1)).length=rs.length:=λrs=>by
  induction rs with
  |nil=>rfl
  |cons r rs ih=>show(pairs #[rs,9] (rs.map λ_=>MV.int 1)).length+1=_;rw[ih];rfl
 have q:iI [#[lr],#[lm],some (zO a),none] S=#[[#[lr],#[lm],some (zO a),#[(S++T).length]],S++T++[.lst out],0]:=by unfold iI;simp? [i,b,show rows.length<1000000 by omega];rw[show vG 2 [2] [#[lr],#[lm],some (zO a),none]=[none,none,some (zO a)]from rfl,A];simp? []
 have k:=zL (S++T) (.lst out);obtain⟨ws,w,h⟩:=SN k out _ (FtO.grow (T:=[.lst out]) g2);have o:iK [#[lr],#[lm],some (zO a),#[(S++T).length]] (S++T++[.lst out])=.ok (.ret (.new ws)) (S++T++[.lst out]):=by unfold iK;simp? [xA k,show out.length<1000000 by omega];rw[show vG 2 [] [#[lr],#[lm],some (zO a),#[(S++T).length]]=[none,none]from rfl,w];simp? []
 have e:((rows.filter λr=>decide (r.1=a.1)).map λr=>cM a.2 r.2 []).filterMap id=jT rows a:=by unfold jT;rw[filterMap_map];rfl
 rw[e]at h;obtain⟨z,v,p⟩:=IP (n:=3) (F:=lZ) (rs:=[#[lr,1],#[lm,1],.val (zO a)]) (S:=S) (T:=T++[.lst out]) (ds:=ws) rfl (by show yD (rC [#[lr],#[lm],some (zO a),none] S)=_;unfold rC;rw[zC q,o,aA];rfl);refine⟨z,ws,v,?_⟩;rcases p with rfl|⟨rfl,hlo⟩
 .rw[<-aA];exact h
 .exact h.cut hlo (à _)
mutual
theorem VM: ∀{d:MV},pd d=true-> ∃a,xD d=some a/\aX a<=vI d
 |.int i,_=>⟨_,eI i,by rw[aX];exact zero_le _⟩
 |.str x,_=>⟨_,eK x,by rw[aX];exact zero_le _⟩
 |.tup ds,h=>by obtain⟨b,h1,c⟩:=PQ (by rw[<-yW];exact h:MU ds=true);exact⟨.tup b,by rw[eM,h1];rfl,by rw[aY,gH];omega⟩
 |.non,h=>by rw[pd]at h<;>first |cases h|(intros;simp)
 |.bl _,h=>by rw[pd]at h<;>first |cases h|(intros;simp)
 |.scr _,h=>by rw[pd]at h<;>first |cases h|(intros;simp)
 |.loc _,h=>by rw[pd]at h<;>first |cases h|(intros;simp)
 |.typ _,h=>by rw[pd]at h<;>first |cases h|(intros;simp)
 |.obj _ _ _,h=>by rw[pd]at h<;>first |cases h|(intros;simp)
theorem PQ: ∀{ds:C1},MU ds=true-> ∃a,jE ds=some a/\rV a<=rR ds
 |[],_=>⟨[],qZ,by rw[rV];exact zero_le _⟩
 |d::ds,h=>by rw[yC,aE]at h;obtain⟨k,h1,e⟩:=VM h.1;obtain⟨a,b,c⟩:=PQ h.2;exact⟨k::a,by rw[eO,h1,b];rfl,by rw[sR,yS];omega⟩
end
theorem FM{k:C1}(h: ∀d∈k,VS d):keyOk (.tup k)=true:=by
 have h1:pd (.tup k)=true:=by rw[yW];exact bQ λd hd=>(qS (h d hd)).1
 have m:rR k<=0:=rL λc e=>by rcases h c e with⟨i,rfl⟩|⟨i,rfl⟩;exact le_of_eq (rK _);exact le_of_eq (dA _)
 obtain⟨a,j,b⟩:=VM h1;rw[gH]at b;unfold keyOk;rw[j];show(sT (.tup k)&&decide (aX a<=4))=true;rw[dT0 (show aX a<=4 by omega)];rfl
noncomputable def kd(P:C8):Ev:=P.map λk=>(.tup k,.int 1)
open Classical in
def LY(P:C8)(k:C1):List (List MV):=if k∈P then P else P++[k]
def Lw(P:C8)(k j:C1):j∈LY P k↔j∈P\/j=k:=by
 unfold LY;split
 .rename_i h;exact⟨.inl,λz=>z.elim id λe=>e▸h⟩
 .rw[é,mS]
def Uz{P:C8}(h:P.Nodup)(k:C1):(LY P k).Nodup:=by
 unfold LY;split
 .exact h
 .rename_i d;exact ĥ.mpr ⟨h,by simp,λa c b e=>by rw[mS.mp e];rintro rfl;exact d c⟩
def LZ(P:C8)(k:C1):(LY P k).length<=P.length+1:=by
 unfold LY;split
 .omega
 .rw[lA,lS];omega
def VN(P:C8)(k:C1):look (kd P) (.tup k)=if k∈P then #[1,0]else none:=by
 induction P with
 |nil=>rfl
 |cons j P ih=>
  show look ((.tup j,.int 1)::kd P) _=_;rw[yY,ih];by_cases e:j=k
  .subst e;rw[iP rfl,iP mF0]
  .rw[iN (λz=>e (MV.tup.inj z))];by_cases h:k∈P
   .rw[iP h,iP (mO _ h)]
   .rw[iN h,iN λz=>(mC.mp z).elim (λz=>e z.symm) h]
theorem Va(P:C8)(k:C1):putK (kd P) (.tup k) (.int 1)=kd (LY P k):=by
 unfold putK LY;rw[VN];by_cases h:k∈P
 .rw[iP h,iP (show(some (MV.int 1)).isSome=true from rfl),iP h];unfold kd;rw[Ĳ];refine Ė λj _=>?_;show(if MV.tup j=.tup k then(MV.tup j,MV.int 1)else(.tup j,.int 1))=_;split<;>rfl
 .rw[iN h,iN (show¬(none:C4).isSome=true from xF0),iN h];unfold kd;rw[ð];rfl
theorem Ed{l:Nat}{P:C8}(h:S[l]? =#[kd P,7]):bT S #[l,1]=some (l,kd P):=by unfold bT;dsimp only;rw[h];dsimp only;rw[iP];rw[ą];intro p a;obtain⟨r,b,rfl⟩:=mM.mp a;rfl
def yU(xs:Ch)(G:Ev):List MV:=xs.map (pS G)
def VO(xs:Ch)(Gs:List Ev)(P:C8):List (List MV):=Gs.foldl (λP G=>LY P (yU xs G)) P
def Has(xs:Ch)(G:Ev):Prop:=tG G/\ ∀x∈xs,look G (.str x)≠none
def Has.vs{G:Ev}(h:Has xs G): ∀d∈yU xs G,VS d:=λd hd=>by
 obtain⟨x,a,rfl⟩:=mM.mp hd
 cases z:look G (.str x)with
 |none=>exact absurd z (h.2 x a)
 |some c=>rw[fU z];exact LV h.1 z
noncomputable abbrev CU(lf:Nat)(m:MV)(n:Nat)(a b c:C4):Rho:=[#[lf],some m,#[n],a,b,c]
section
variable{B:Sto}{lf n0:Nat}{m:MV}{all:C1}{xs:Ch}
theorem VR(q:B[lf]? =#[all,2])(A:SqM B m #[xs,8])(C:xs.length<1000): ∀(ws:C1)(Gs:List Ev)(P:C8)(a b c:C4),Fts B n0 1 ws Gs->(∀G∈Gs,Has xs G)->P.length+Gs.length<100000->
  ∃y k r,wF (fZ 2 (zA (zW 3) (zA (zW 4) zY))) DE [(lf,all)] ws (CU lf m B.length a b c) (B++[.dic (kd P)])=#[CU lf m B.length y k r,B++[.dic (kd (VO xs Gs P))],0]
 |[],[],P,a,b,c,_,_,_=>⟨a,b,c,rfl⟩
 |w::ws,G::Gs,P,a,b,c,n,hG,hl=>by
  rw[lC]at hl;obtain⟨⟨e,rfl,_,I⟩,n⟩:=n;have j:=hG G mF0;obtain⟨Z,i⟩: ∃Z,Z=B++[MO.dic (kd P)]:=⟨_,rfl⟩
  have E: ∀{l:Nat}{o:MO},B[l]? =some o->Z[l]? =some o:=λh=>by rw[i,á (gS.mp h).1];exact h
  have hd:Z[B.length]? =#[kd P,7]:=by rw[i];exact zL _ _
  have z:=VL (S:=Z) (m:=m) (E I) j.1 (by rw[i];exact A.app) j.2 C;have d:=Ed hd
  have p:uH #[B.length,1] [#[yU xs G,6],#[0,5]] Z=.ok #[if yU xs G∈P then 1 else 0,5] Z:=by
   unfold uH;dsimp only;rw[d];dsimp only;rw[iP (FM j.vs),VN];by_cases h:yU xs G∈P
   .rw[iP h,iP h]
   .rw[iN h,iN h]
  have u: ∀Y,Ud #[if yU xs G∈P then 1 else 0,5] #[1,5] Y=.ok #[1,5] Y:=λY=>by split<;>rfl
  have v: ∀ρ,HZ #[B.length,1] #[yU xs G,6] (.int 1) ρ Z=.ok ρ (B++[.dic (kd (LY P (yU xs G)))]):=λρ=>by unfold HZ;dsimp only;rw[d];dsimp only;rw[iP ⟨FM j.vs,by unfold kd;rw[lM];omega⟩,Va,i,bR]
  have s:qH #[B.length,1] Z=true:=by unfold qH;rw[d];rfl
  have F:rD (CU lf m B.length #[e] #[1,0] c) Z=#[CU lf m B.length #[e] #[1,0] #[yU xs G,3],Z,0]:=by unfold rD;simp? [z];rfl
  have D:rE (CU lf m B.length #[e] #[1,0] #[yU xs G,3]) Z=#[CU lf m B.length #[e] #[1,0] #[yU xs G,3],B++[.dic (kd (LY P (yU xs G)))],0]:=by unfold rE;simp? [s,p,u,LK,v]
  have H:=LZ P (yU xs G);obtain⟨y,k,r,J⟩:=VR q A C ws Gs (LY P (yU xs G)) #[e] #[1,0] #[yU xs G,3] n (λK L=>hG K (mO _ L)) (by omega);refine⟨y,k,r,?_⟩;rw[<-i,zZ (show fZ 2 (zA (zW 3) (zA (zW 4) zY)) (.tup [.loc e,.int 1]) (CU lf m B.length a b c) Z=.ok (CU lf m B.length #[e] #[1,0] c) Z from rfl) (by unfold DE;rw[zC F,D]) (yI (by rw[á (gS.mp q).1];exact q))];exact J
 |[],_::_,_,_,_,_,h,_,_=>h.elim
 |_::_,[],_,_,_,_,h,_,_=>h.elim
end
noncomputable def yQ(xs:Ch)(k:C1):Ev:=(xs.map MV.str).zip k
theorem PR: ∀(ps a:Ev),((a++ps).map (·.1)).Nodup->ps.foldl (λa p=>putK a p.1 p.2) a=a++ps
 |[],a,_=>by rw[aN];rfl
 |p::ps,a,h=>by
  have c:look a p.1=none:=by
   cases z:look a p.1 with
   |none=>rfl
   |some d=>
    obtain⟨q,b,e⟩:=Dz z;rw[ð,ĥ]at h;exact absurd e (h.2.2 q.1 (İ b) p.1 (by rw[ä];exact mF0))
  rw[ě,FK c,PR ps (a++[(p.1,p.2)]) (by rw[aA];exact h),aA];rfl
def Vb(h:xs.Nodup): ∀k:List MV,((yQ xs k).map (·.1)).Nodup:=λk=>by
 unfold yQ;have c:(xs.map MV.str).Nodup:=by unfold List.Nodup at h ⊢;rw[pairwise_map];exact h.imp λne e=>ne (MV.str.inj e)
 have: ∀(as bs:C1),as.Nodup->((as.zip bs).map (·.1)).Nodup:=λas=>by
  induction as with
  |nil=>intro bs _;simp
  |cons a as ih=>
   intro bs c
   cases bs with
   |nil=>simp
   |cons b bs=>
    rw[nodup_cons]at c;rw[ğ,ä,nodup_cons];refine⟨λz=>c.1 ?_,ih bs c.2⟩;obtain⟨p,d,e⟩:=mM.mp z;have:=(of_mem_zip (show(p.1,p.2)∈as.zip bs from d)).1;rw[e]at this;exact this
 exact this _ k c
def Ni{k:C1}(c:SqM Z m #[xs,8])(h:xs.Nodup):Ui [.val m,#[k,6]] Z=.ok #[Z.length,1] (Z++[.dic (yQ xs k)]):=by
 have b:(xs.map MV.str).all tD=true:=by rw[ą];intro d hd;obtain⟨x,_,rfl⟩:=mM.mp hd;rfl
 have a:OO ((xs.map MV.str).zip k)=yQ xs k:=by have:=PR (yQ xs k) [] (by rw[Ĝ];exact Vb h k);rw[Ĝ]at this;exact this
 unfold Ui;rcases c with rfl|⟨l,rfl,hl⟩
 .show(if(xs.map MV.str).all tD=true then R.ok (Er.val (.loc Z.length)) (Z++[MO.dic (OO ((xs.map MV.str).zip k))])else .no)=_;rw[iP b,a]
 .have e:srcOf Z #[l,1]=some ⟨true,xs.map MV.str,[(l,xs.map MV.str)]⟩:=by unfold srcOf;dsimp only;rw[hl]
  dsimp only;rw[e];show(if(xs.map MV.str).all tD=true then R.ok (Er.val (.loc Z.length)) (Z++[MO.dic (OO ((xs.map MV.str).zip k))])else .no)=_;rw[iP b,a]
theorem PV{m:MV}{xs:Ch}{n:Nat}(c:xs.Nodup): ∀(P:C8)(Z:Sto),SqM Z m #[xs,8]->n<=Z.length-> ∃out T,yE (fZ 2 (zA (zW 0) (zA (zW 1) zY))) AO mE [none,none,some m] [] ((kd P).map λb=>.tup [b.1,b.2]) Z=.ok out (Z++T)/\Fts (Z++T) n 1 out (P.map (yQ xs))
 |[],Z,_,_=>⟨[],[],by rw[aN];rfl,trivial⟩
 |k::P,Z,hm,hl=>by
  have d:mE [#[k,3],#[1,0],some m] Z=.ok #[[.loc Z.length,.int 1],6] (Z++[.dic (yQ xs k)]):=by unfold mE;simp? [Ni hm c,tup2]
  obtain⟨out,T,a,g2⟩:=PV (n:=n) c P (Z++[.dic (yQ xs k)]) hm.app (by rw[lA];omega);refine⟨.tup [.loc Z.length,.int 1]::out,.dic (yQ xs k)::T,?_,⟨Z.length,rfl,hl,by simp⟩,by rw[aA]at g2;exact g2⟩;rw[aA]at a;exact uP (y:=.tup [.loc Z.length,.int 1]) rfl rfl d (nN _) a
def oZ(xs:Ch)(Gs:List Ev):List Ev:=(VO xs Gs []).map (yQ xs)
theorem Zp{lf n0:Nat}{ws:C1}(i:B[lf]? =#[ws,2])(p:SqM B m #[xs,8])(w:xs.length<1000)(y:xs.Nodup)(v:Fts B n0 1 ws Gs)(q: ∀G∈Gs,Has xs G)(C:Gs.length<10000):
  ∃out T,EY [.loc lf,m] B=#[out,B++T,2]/\Fts (B++T) B.length 1 out (oZ xs Gs):=by
 have s:DF [#[lf],some m,none,none,none,none] B=#[CU lf m B.length none none none,B++[.dic (kd [])],0]:=by unfold DF;simp? [EK];rfl
 obtain⟨a,b,c,h⟩:=VR i p w ws Gs [] none none none v q (by simp only[ú];omega);have j:(B++[MO.dic (kd [])])[lf]? =#[ws,2]:=by rw[á (gS.mp i).1];exact i
 have k:DG (CU lf m B.length none none none) (B++[.dic (kd [])])=#[CU lf m B.length a b c,B++[.dic (kd (VO xs Gs []))],0]:=by unfold DG;simp? [xA j];exact h
 obtain⟨P,e⟩: ∃P,P=VO xs Gs []:=⟨_,rfl⟩
 rw[<-e]at k
 have u:P.length<=Gs.length:=by
  rw[e]
  have: ∀(Gs:List Ev)(P:C8),(VO xs Gs P).length<=P.length+Gs.length:=λGs=>by
   induction Gs with
   |nil=>intro P;exact à _
   |cons G Gs ih=>
    intro P;have h1:=ih (LY P (yU xs G));have A:=LZ P (yU xs G);show(VO xs Gs (LY P (yU xs G))).length<=_;rw[lC];omega
  have:=this Gs [];rw[ú]at this;omega
 have d:YO #[B.length,1] (B++[.dic (kd P)])=.ok ⟨(kd P).map λo=>.tup [o.1,o.2],[]⟩ (B++[.fdc (kd P)]):=by unfold YO;rw[Ed (zL B (.dic (kd P)))];dsimp only;rw[bR]
 obtain⟨out,T,z,g2⟩:=PV (m:=m) (n:=B.length) y P (B++[.fdc (kd P)]) p.app (by simp);refine⟨out,.fdc (kd P)::T,?_,by rw[oZ, <-e];rw[aA]at g2;exact g2⟩;have r:DH (CU lf m B.length a b c) (B++[.dic (kd P)])=.ok (.ret (.new out)) (B++.fdc (kd P)::T):=by unfold DH;simp? [d,lM,show(kd P).length<1000000 by unfold kd;rw[lM];omega];rw[show vG 2 [1] (CU lf m B.length a b c)=[none,none,some m]from rfl,z];simp? [];rw[aA];rfl
 show yD (UV [#[lf],some m,none,none,none,none] B)=_;unfold UV;rw[zC s,zC k,r];rfl
def Vc{l m:Nat}{F:Ev}(h:S[l]? =#[E,7])(b:tG E)(h':S[m]? =#[F,7])(c:tG F)(a:l≠m)(hz:E.length+F.length<1000000):EX #[l,1] [#[m,1]] S=#[.non,S.set l (.dic (xS E F)),1]:=by unfold EX;dsimp only;rw[BS h b,BS h' c];dsimp only;rw[iP ⟨a,hz⟩]
abbrev OD:=MV×Ev
open Classical in
def SO(xs:Ch)(Ds:List OD)(k:C1):List OD:=Ds.filter λD=>decide (yU xs D.2=k)
def mL(xs:Ch)(Ds:List OD)(D:OD)(k:C1):SO xs (Ds++[D]) k=if yU xs D.2=k then SO xs Ds k++[D]else SO xs Ds k:=by
 unfold SO;rw[List.filter_append,List.filter_cons];by_cases e:yU xs D.2=k
 .rw[iP (dT0 e),iP e];rfl
 .rw[iN (by simpa using e),iN e,List.filter_nil,aN]
structure JI(B:Sto)(xs:Ch)(Ds:List OD)(bd:Ev)(Z:Sto):Prop where
 ex: ∃T,Z=B++.dic bd::T
 at': ∀k d,look bd (.tup k)=some d-> ∃l,d=.loc l/\B.length<l/\Z[l]? =#[(SO xs Ds k).map (·.1),2]
 no: ∀k,look bd (.tup k)=none->SO xs Ds k=[]
 inj: ∀k k' l,look bd (.tup k)=#[l]->look bd (.tup k')=#[l]->k=k'
 tk:bd.all (λp=>sT p.1)=true
 ln:bd.length<=Ds.length
section
variable{B Z:Sto}{xs:Ch}{Ds:List OD}{bd:Ev}
def JI.dic(J:JI B xs Ds bd Z):bT Z #[B.length,1]=some (B.length,bd):=by obtain⟨T,rfl⟩:=J.ex;unfold bT;dsimp only;rw[lQ];dsimp only;rw[iP J.tk]
def JI.old(J:JI B xs Ds bd Z){l:Nat}(h:B[l]? =some o):Z[l]? =some o:=by obtain⟨T,rfl⟩:=J.ex;rw[á (gS.mp h).1];exact h
theorem JI.put(J:JI B xs Ds bd Z)(D:OD)(S: ∀d∈yU xs D.2,VS d)(Y:Ds.length<10000):
  ∃P Q l Z1 ds,Vy #[B.length,1] [#[yU xs D.2,6],.new []] Z=.ok #[l,1] Z1/\Z1[l]? =#[ds,2]/\ds.length<=Ds.length/\Z1.set l (.lst (ds++[D.1]))=Q/\JI B xs (Ds++[D]) P Q:=by
 obtain⟨k,b⟩: ∃k,k=yU xs D.2:=⟨_,rfl⟩
 have C:keyOk (.tup k)=true:=by rw[b];exact FM S
 have X:=J;obtain⟨T,u⟩:=J.ex;have K:wO (.new []) Z=.ok (.loc Z.length) (Z++[.lst []]):=rfl;have L:bT (Z++[.lst []]) #[B.length,1]=some (B.length,bd):=by unfold bT;dsimp only;rw[u,aA,Į,lQ];dsimp only;rw[iP J.tk]
 have W:=J.ln;have c:Vy #[B.length,1] [#[k,6],.new []] Z=match look bd (.tup k)with |some d=>#[d,Z++[.lst []],1]|none=>.ok #[Z.length,1] ((Z++[MO.lst []]).set B.length (.dic (putK bd (.tup k) (.loc Z.length)))):=by unfold Vy;dsimp only;rw[K,jG];unfold Yo;rw[L];dsimp only;refine(iP ⟨C,by omega⟩).trans ?_;cases look bd (.tup k)<;>rfl
 have m: ∀{j:Nat}{o:MO},Z[j]? =some o->j<Z.length:=λh=>(gS.mp h).1;have w: ∀j,(SO xs Ds j).length<=Ds.length:=λj=>ċ _ _;rw[<-b]
 cases z:look bd (.tup k)with
 |some d=>
  rw[z]at c;obtain⟨l,rfl,h1,y⟩:=J.at' k d z;have G:=m y;refine⟨bd,_,l,Z++[.lst []],(SO xs Ds k).map (·.1),c,by rw[á G];exact y,by rw[lM];exact w k,rfl,?_,λj d a=>?_,λj a=>?_,J.inj,J.tk,by rw[lA];omega⟩
  .refine⟨(T++[MO.lst []]).set (l - B.length - 1) (.lst ((SO xs Ds k).map (·.1)++[D.1])),?_⟩;rw[u,aA,ġ _ _ (by omega),Į,show l - B.length=(l - B.length - 1)+1 by omega,set_cons_succ];rfl
  .obtain⟨v,rfl,E,g2⟩:=J.at' j d a;refine⟨v,rfl,E,?_⟩;by_cases e:j=k
   .subst e;rw[z]at a;cases a;rw[get_set (show(Z++[MO.lst []])[l]? =some _ by rw[á G];exact y),mL,iP b.symm,ð];rfl
   .have N:l≠v:=λq=>e (J.inj j k v a (q▸z));rw[tE N,á (m g2),g2,mL,iN (λq=>e (q.symm.trans b.symm))]
  .rw[mL,iN (λq=>by rw[<-b]at q;rw[<-q,z]at a;cases a)];exact J.no j a
 |none=>
  rw[z]at c;dsimp only at c;have A:putK bd (.tup k) (.loc Z.length)=bd++[(.tup k,.loc Z.length)]:=FK z;have M:B.length<Z.length:=by rw[u];simp
  have I: ∀q,(Z++[MO.lst []]).set B.length q=B++q::(T++[MO.lst []]):=λq=>by rw[u,aA,Į,ġ _ _ (à _),sub_self];rfl
  rw[A,I]at c;have s:Z.length=B.length+(T.length+1):=by rw[u,lA,lC]
  have H:(B++MO.dic (bd++[(.tup k,.loc Z.length)])::(T++[.lst []]))[Z.length]? =#[[],2]:=by rw[s,æ (by omega),show B.length+(T.length+1) - B.length=T.length+1 by omega,ē,zL]
  have r:(B++MO.dic (bd++[(.tup k,.loc Z.length)])::(T++[.lst []])).set Z.length (.lst ([]++[D.1]))=B++.dic (bd++[(.tup k,.loc Z.length)])::(T++[.lst [D.1]]):=by rw[s,ġ _ _ (by omega),show B.length+(T.length+1) - B.length=T.length+1 by omega,set_cons_succ,bR];rfl
  have n: ∀j,look (bd++[(MV.tup k,MV.loc Z.length)]) (.tup j)=(look bd (.tup j)).or (if k=j then #[Z.length]else none):=λj=>by
   rw[aV];congr 1;by_cases e:k=j
   .rw[iP e,iP (by rw[e])]
   .rw[iN e,iN λq=>e (MV.tup.inj q)]
  have p: ∀{j:Nat}{o:MO},Z[j]? =some o->B.length<j->(B++MO.dic (bd++[(.tup k,.loc Z.length)])::(T++[.lst [D.1]]))[j]? =some o:=λ{j o} h a=>by have:=m h;rw[u,æ (by omega),show j - B.length=(j - B.length - 1)+1 by omega,ē]at h;rw[æ (by omega),show j - B.length=(j - B.length - 1)+1 by omega,ē,á (gS.mp h).1];exact h
  refine⟨bd++[(.tup k,.loc Z.length)],_,Z.length,_,[],c,H,zero_le _,r,⟨_,rfl⟩,λj d a=>?_,λj a=>?_,λj U l h1 y=>?_,by rw[List.all_append,J.tk];rfl,by rw[lA,lA];simp;omega⟩
  .rw[n]at a
   cases F:look bd (.tup j)with
   |some d'=>
    rw[F]at a;cases a;obtain⟨v,rfl,E,g2⟩:=J.at' j _ F;have O: ¬k=j:=λq=>by rw[q,F]at z;cases z
    refine⟨v,rfl,E,?_⟩;rw[p g2 E,mL,iN (by rw[<-b];exact O)]
   |none=>
    rw[F,Option.none_or]at a;by_cases e:k=j
    .rw[iP e]at a;cases a;refine⟨Z.length,rfl,M,?_⟩;rw[mL,iP (by rw[<-b];exact e),J.no j F,s,æ (by omega),show B.length+(T.length+1) - B.length=T.length+1 by omega,ē,zL];rfl
    .rw[iN e]at a;cases a
  .rw[n]at a;rw[mL, <-b,iN (λe=>by grind)];exact J.no j (by grind)
  .rw[n]at h1 y;have lt: ∀{i:C1},look bd (.tup i)=#[l]->l<Z.length:=λh=>by obtain⟨v,e,E,g2⟩:=J.at' _ _ h;cases e;exact m g2
   have:=J.inj j U l;have:=@lt j;have:=@lt U;clear lt m J X S C H r p c I n w
   grind
end
theorem Fts.move{d:Sto}{n:Nat}{mk:Int}(k: ∀(e:Nat)(G:Ev),Z[e]? =some (MO.dic G)->d[e]? =some (MO.dic G)): ∀{ws:C1}{gs:List Ev},Fts Z n mk ws gs->Fts d n mk ws gs
 |[],[],_=>trivial
 |w::ws,G::gs,h=>⟨let ⟨e,a,b,c⟩:=h.1;⟨e,a,b,k e G c⟩,Fts.move k h.2⟩
 |[],_::_,h=>h.elim
 |_::_,[],h=>h.elim
theorem Fts.snoc{n:Nat}{mk:Int}{e:Nat}{G:Ev}(h1:n<=e)(a:Z[e]? =#[G,7]): ∀{ws:C1}{gs:List Ev},Fts Z n mk ws gs->Fts Z n mk (ws++[.tup [.loc e,.int mk]]) (gs++[G])
 |[],[],_=>⟨⟨e,rfl,h1,a⟩,trivial⟩
 |w::ws,G::gs,h=>⟨h.1,Fts.snoc h1 a h.2⟩
 |[],_::_,h=>h.elim
 |_::_,[],h=>h.elim
noncomputable abbrev vL(lf lo':Nat)(m:MV)(n:Nat)(a b:C4)(t v k c:C4):Rho:=[#[lf],#[lo'],some m,#[n],a,b,t,v,k,c]
section
variable{B:Sto}{lf lo' n0:Nat}{m:MV}{all:C1}{xs:Ch}
theorem Ee(ho:B[lo']? =#[all,2])(v:SqM B m #[xs,8])(y:xs.length<1000): ∀(ws:C1)(d:List Ev)(Ds:List OD)(bd:Ev)(Z:Sto)(a b:C4),Fts B n0 1 ws d->(∀M∈d,Has xs M)->JI B xs Ds bd Z->Ds.length+d.length<10000->
  ∃c i L z,JI B xs (Ds++ws.zip d) c i/\wF (fZ 2 (zA (zW 4) (zA (zW 5) zY))) eV [(lo',all)] ws (vL lf lo' m B.length a b none none none none) Z=#[vL lf lo' m B.length L z none none none none,i,0]
 |[],[],Ds,bd,Z,a,b,_,_,J,_=>⟨bd,Z,a,b,by rw[zip_nil_left,aN];exact J,rfl⟩
 |w::ws,M::d,Ds,bd,Z,a,b,n,hM,J,hl=>by
  rw[lC]at hl;obtain⟨⟨e,rfl,_,E⟩,n⟩:=n;have k:=hM M mF0
  have o:SqM Z m #[xs,8]:=by
   rcases v with h|⟨l,h,h'⟩
   .exact .inl h
   .exact .inr ⟨l,h,J.old h'⟩
  have r:=VL (S:=Z) (m:=m) (J.old E) k.1 o k.2 y;obtain⟨c,i,l,Z1,ds,p1,p2,N,F,s⟩:=J.put (.tup [.loc e,.int 1],M) k.vs (by omega);have q:qH #[B.length,1] Z=true:=by unfold qH;rw[J.dic];rfl
  have j:zK 2 yH [#[e,1],.val m] Z=.ok #[yU xs M,6] Z:=r;have C:eV (vL lf lo' m B.length #[e] #[1,0] none none none none) Z=#[vL lf lo' m B.length #[e] #[1,0] none none none none,i,0]:=by unfold eV oC;simp? [q,j,p1,yN p2,tup2,wC p2 (show ds.length<1000000 by omega)];rw[F]
  obtain⟨p,H,D,G,u,A⟩:=Ee ho v y ws d (Ds++[(.tup [.loc e,.int 1],M)]) c i #[e] #[1,0] n (λK I=>hM K (mO _ I)) s (by rw[lA,lS];omega);refine⟨p,H,D,G,by rw[aA]at u;exact u,?_⟩;rw[zZ (show fZ 2 (zA (zW 4) (zA (zW 5) zY)) (.tup [.loc e,.int 1]) (vL lf lo' m B.length a b none none none none) Z=.ok (vL lf lo' m B.length #[e] #[1,0] none none none none) Z from rfl) C (yI (s.old ho))];exact A
 |[],_::_,_,_,_,_,_,h,_,_,_=>h.elim
 |_::_,[],_,_,_,_,_,h,_,_,_=>h.elim
end
section
variable{Z1:Sto}{lf lo' nb eG:Nat}{m:MV}{mg:Int}{G:Ev}
theorem Nj(hG:Z1[eG]? =#[G,7])(n:tG G)(K:G.length<=1000)(d: ∀Y,BK #[mg,5] #[1,5] Y=.ok #[1,5] Y){gs:C6}(w: ∀q∈gs,Z1[q.1]? =#[q.2,2]): ∀(s:List OD)(ws:C1)(u:List Ev)(T:Sto)(a b c:C4),(∀D∈s, ∃e,D.1=.tup [.loc e,.int 1]/\Z1[e]? =#[D.2,7]/\tG D.2/\D.2.length<=1000)->Fts (Z1++.lst ws::T) Z1.length 1 ws u->ws.length+s.length<100000->
  ∃k B a' C Q,Fts (Z1++.lst k::B) Z1.length 1 k (u++s.map λD=>xS G D.2)/\k.length=ws.length+s.length/\wF (fZ 2 (zA (zW 4) (zA (zW 5) zY))) eW gs (s.map (·.1)) (vL lf lo' m nb a b #[Z1.length] #[eG] #[mg,0] c) (Z1++.lst ws::T)=#[vL lf lo' m nb a' C #[Z1.length] #[eG] #[mg,0] Q,(Z1++.lst k::B),0]
 |[],ws,u,T,a,b,c,_,hF,_=>⟨ws,T,a,b,c,by rw[List.map_nil,aN];exact hF,rfl,rfl⟩
 |D::s,ws,u,T,a,b,c,hD,hF,hl=>by
  rw[lC]at hl;obtain⟨e,he,hM,W,aa⟩:=hD D mF0;obtain⟨Z,A⟩: ∃Z,Z=Z1++MO.lst ws::T:=⟨_,rfl⟩
  have I: ∀{U:Sto}{l:Nat}{o:MO},Z1[l]? =some o->(Z1++U)[l]? =some o:=λh=>by rw[á (gS.mp h).1];exact h
  obtain⟨N,hN⟩: ∃N,N=Z.length:=⟨_,rfl⟩
  have v:N=Z1.length+(T.length+1):=by rw[hN,A,lA,lC]
  have J:N≠e:=by have:=(gS.mp hM).1;omega
  have H:Z++[MO.dic G]=Z1++.lst ws::(T++[.dic G]):=by rw[A,aA];rfl
  have r: ∀(vs:C1)(E:Ev),(Z1++MO.lst vs::(T++[.dic E]))[N]? =#[E,7]:=λvs E=>by rw[v,æ (by omega),show Z1.length+(T.length+1) - Z1.length=T.length+1 by omega,ē,zL]
  have P: ∀(vs:C1)(E E':Ev),(Z1++MO.lst vs::(T++[.dic E])).set N (.dic E')=Z1++MO.lst vs::(T++[.dic E']):=λvs E E'=>by rw[v,ġ _ _ (by omega),show Z1.length+(T.length+1) - Z1.length=T.length+1 by omega,set_cons_succ,bR]
  have y:RY [#[eG,1]] Z=.ok #[N,1] (Z1++.lst ws::(T++[.dic G])):=by rw[Ux (by rw[A];exact I hG) n,H,hN]
  have M:EX #[N,1] [#[e,1]] (Z1++.lst ws::(T++[.dic G]))=#[.non,(Z1++.lst ws::(T++[.dic (xS G D.2)])),1]:=by rw[Vc (r ws G) n (I hM) W J (by omega),P]
  have O:RX #[N,1] (Z1++.lst ws::(T++[.dic G]))=true:=LW (r ws G) n;have z: ∀(vs:C1)(U:Sto),(Z1++MO.lst vs::U)[Z1.length]? =#[vs,2]:=λvs U=>lQ _ _ _;have L:eF #[Z1.length,1] [#[[.loc N,.int 1],6]] (Z1++.lst ws::(T++[.dic (xS G D.2)]))=#[.non,(Z1++.lst (ws++[.tup [.loc N,.int 1]])::(T++[.dic (xS G D.2)])),1]:=by rw[wC (z _ _) (show ws.length<1000000 by omega),VA]
  have hb:eW (vL lf lo' m nb #[e] #[1,0] #[Z1.length] #[eG] #[mg,0] c) Z=#[vL lf lo' m nb #[e] #[1,0] #[Z1.length] #[eG] #[mg,0] #[N],(Z1++.lst (ws++[.tup [.loc N,.int 1]])::(T++[.dic (xS G D.2)])),0]:=by unfold eW oD;unfold iJ;rw[show bJ (dJ BK (vJ 8) (vJ 5)) EC (vL lf lo' m nb #[e] #[1,0] #[Z1.length] #[eG] #[mg,0] c) Z=.ok true Z by simp? [d];rfl,jG,iP rfl];rw[zC (F:=CJ _ 9) (ρ':=vL lf lo' m nb #[e] #[1,0] #[Z1.length] #[eG] #[mg,0] #[N]) (S':=Z1++.lst ws::(T++[.dic G])) (by simp? [y])];rw[zC (F:=BJ _) (ρ':=vL lf lo' m nb #[e] #[1,0] #[Z1.length] #[eG] #[mg,0] #[N]) (S':=Z1++.lst ws::(T++[.dic (xS G D.2)])) (by simp? [O,M])];simp? [yN (z ws (T++[.dic (xS G D.2)])),d,tup2,L]
  have X:Fts (Z1++.lst (ws++[.tup [.loc N,.int 1]])::(T++[.dic (xS G D.2)])) Z1.length 1 (ws++[.tup [.loc N,.int 1]]) (u++[xS G D.2]):=by
   refine Fts.snoc (by omega) (r _ _) (hF.move λj E p=>?_);by_cases e1:j<Z1.length
   .rw[á e1]at p ⊢; exact p
   .rw[æ (by omega)]at p ⊢
    cases q:j - Z1.length with
    |zero=>rw[q]at p;cases p
    |succ i=>
     rw[q,ē]at p;rw[ē,á (gS.mp p).1];exact p
  obtain⟨k,B,a',C,Q,g1,g2,g3⟩:=Nj hG n K d w s (ws++[.tup [.loc N,.int 1]]) (u++[xS G D.2]) (T++[.dic (xS G D.2)]) #[e] #[1,0] #[N] (λq S=>hD q (mO _ S)) X (by rw[lA,lS];omega);refine⟨k,B,a',C,Q,by rw[aA]at g1;exact g1,by rw[g2,lA,lS,lC];omega,?_⟩;rw[ä,he, <-A,zZ (show fZ 2 (zA (zW 4) (zA (zW 5) zY)) (.tup [.loc e,.int 1]) (vL lf lo' m nb a b #[Z1.length] #[eG] #[mg,0] c) Z=.ok (vL lf lo' m nb #[e] #[1,0] #[Z1.length] #[eG] #[mg,0] c) Z from rfl) hb (λq S=>I (w q S))];exact g3
end
def joinM(xs:Ch)(Gs:List Ev)(Ds:List OD):List Ev:=Gs.flatMap λG=>(SO xs Ds (yU xs G)).map λD=>xS G D.2
section
variable{B Z1:Sto}{lf lo' n0:Nat}{m:MV}{mg:Int}{all:C1}{xs:Ch}{Ds:List OD}{bd:Ev}
theorem Ef(J:JI B xs Ds bd Z1)(s: ∀D∈Ds, ∃e,D.1=.tup [.loc e,.int 1]/\B[e]? =#[D.2,7]/\tG D.2/\D.2.length<=1000)(M:Ds.length<=1000)(I:B[lf]? =#[all,2])(W:SqM B m #[xs,8])(X:xs.length<1000)(i: ∀Y,BK #[mg,5] #[1,5] Y=.ok #[1,5] Y):
  ∀(ws:C1)(Gs:List Ev),Fts B n0 mg ws Gs->(∀G∈Gs,Has xs G/\G.length<=1000)-> ∀(ts:C1)(n:List Ev)(T:Sto)(a b v k c:C4),Fts (Z1++.lst ts::T) Z1.length 1 ts n->ts.length+Ds.length * Gs.length<50000->
  ∃j T' a' b' v' k' c',Fts (Z1++.lst j::T') Z1.length 1 j (n++joinM xs Gs Ds)/\wF (fZ 2 (zA (zW 7) (zA (zW 8) zY))) eX [(lf,all)] ws (vL lf lo' m B.length a b #[Z1.length] v k c) (Z1++.lst ts::T)=#[vL lf lo' m B.length a' b' #[Z1.length] v' k' c',(Z1++.lst j::T'),0]
 |[],[],_,_,ts,n,T,a,b,v,k,c,hF,_=>⟨ts,T,a,b,v,k,c,by show Fts _ _ _ _ (n++[]);rw[aN];exact hF,rfl⟩
 |w::ws,G::Gs,N,hG,ts,n,T,a,b,v,k,c,hF,hl=>by
  rw[lC,Nat.mul_succ]at hl;obtain⟨⟨e,rfl,_,he⟩,N⟩:=N;obtain⟨C,O⟩:=hG G mF0;obtain⟨Z,L⟩: ∃Z,Z=Z1++MO.lst ts::T:=⟨_,rfl⟩
  have A: ∀{l:Nat}{o:MO},Z1[l]? =some o->Z[l]? =some o:=λh=>by rw[L,á (gS.mp h).1];exact h
  have F:SqM Z m #[xs,8]:=by
   rcases W with h|⟨l,h,h'⟩
   .exact .inl h
   .exact .inr ⟨l,h,A (J.old h')⟩
  have E:zK 2 yH [#[e,1],.val m] Z=.ok #[yU xs G,6] Z:=VL (S:=Z) (m:=m) (A (J.old he)) C.1 F C.2 X;have p:Z[B.length]? =#[bd,7]:=by refine A ?_;obtain⟨T0,h0⟩:=J.ex;rw[h0];exact lQ _ _ _
  have u:bT Z #[B.length,1]=some (B.length,bd):=by unfold bT;dsimp only;rw[p];dsimp only;rw[iP J.tk]
  have Q:qH #[B.length,1] Z=true:=by unfold qH;rw[u];rfl
  have H: ∃r gs,uH #[B.length,1] [#[yU xs G,6],.new []] Z=.ok r Z/\vR r Z=.ok ⟨(SO xs Ds (yU xs G)).map (·.1),gs⟩ Z/\ ∀q∈gs,Z1[q.1]? =#[q.2,2]:=by
   unfold uH;dsimp only;rw[u];dsimp only;rw[iP (FM C.vs)]
   cases z:look bd (.tup (yU xs G))with
   |none=>
    refine⟨.new [],[],rfl,?_,by simp⟩;rw[J.no _ z];rfl
   |some d=>
    obtain⟨l,rfl,h1,U⟩:=J.at' _ _ z;exact⟨_,_,rfl,xA (A U),λq hq=>by rw[mS.mp hq];exact U⟩
  obtain⟨r,gs,d1,d2,d3⟩:=H;have aa:(SO xs Ds (yU xs G)).length<=Ds.length:=ċ _ _;obtain⟨y,T1,a1,b1,c1,g1,g2,g3⟩:=Nj (lf:=lf) (lo':=lo') (nb:=B.length) (m:=m) (mg:=mg) (J.old he) C.1 O i d3 (SO xs Ds (yU xs G)) ts n T a b c (λD hD=>by obtain⟨e',x1,x2,x3⟩:=s D (Ě.mp hD).1;exact⟨e',x1,J.old x2,x3⟩) hF (by omega);have hb:eX (vL lf lo' m B.length a b #[Z1.length] #[e] #[mg,0] c) Z=#[vL lf lo' m B.length a1 b1 #[Z1.length] #[e] #[mg,0] c1,(Z1++.lst y::T1),0]:=by unfold eX oE;simp? [Q,E,d1,d2];rw[L];exact g3
  obtain⟨P,T2,a2,b2,v2,k2,c2,f1,f2⟩:=Ef J s M I W X i ws Gs N (λK hK=>hG K (mO _ hK)) y _ T1 a1 b1 #[e] #[mg,0] c1 g1 (by omega);refine⟨P,T2,a2,b2,v2,k2,c2,by rw[aA]at f1;exact f1,?_⟩;rw[<-L,zZ (show fZ 2 (zA (zW 7) (zA (zW 8) zY)) (.tup [.loc e,.int mg]) (vL lf lo' m B.length a b #[Z1.length] v k c) Z=.ok (vL lf lo' m B.length a b #[Z1.length] #[e] #[mg,0] c) Z from rfl) hb (yI (by rw[á (gS.mp (J.old I)).1];exact J.old I))];exact f2
 |[],_::_,h,_,_,_,_,_,_,_,_,_,_,_=>h.elim
 |_::_,[],h,_,_,_,_,_,_,_,_,_,_,_=>h.elim
end
theorem MA{B:Sto}{n:Nat}{mk:Int}: ∀{ws:C1}{b:List Ev},Fts B n mk ws b-> ∀D∈ws.zip b,D.2∈b/\ ∃e,D.1=.tup [.loc e,.int mk]/\B[e]? =#[D.2,7]
 |[],[],_=>λD h=>by simp at h
 |w::ws,M::b,h=>λD d=>by
  rw[ğ]at d;rcases mC.mp d with rfl|d
  .obtain⟨e,a,_,c⟩:=h.1;exact⟨mF0,e,a,c⟩
  .obtain⟨x,y⟩:=MA h.2 D d;exact⟨mO _ x,y⟩
 |[],_::_,h=>h.elim
 |_::_,[],h=>h.elim
theorem jn_f{lf lo' n0 U:Nat}{mg:Int}{fs i:C1}{c:List Ev}(p:B[lf]? =#[fs,2])(ho:B[lo']? =#[i,2])(E:SqM B m #[xs,8])(w:xs.length<1000)(N:Fts B n0 mg fs Gs)(C:Fts B U 1 i c)(I: ∀G∈Gs,Has xs G/\G.length<=1000)(o: ∀M∈c,Has xs M/\M.length<=1000)(K:c.length<=1000)(n:c.length * Gs.length<50000)
  (hband: ∀Y,BK #[mg,5] #[1,5] Y=.ok #[1,5] Y):
  ∃l T ts,qK [.loc lf,.loc lo',m] B=.ok #[l,1] (B++T)/\B.length<l/\(B++T)[l]? =#[ts,2]/\Fts (B++T) l 1 ts (joinM xs Gs (i.zip c)):=by
 have L:oF [#[lf],#[lo'],some m,none,none,none,none,none,none,none] B=#[vL lf lo' m B.length none none none none none none,B++[.dic []],0]:=by unfold oF;simp? [EK]
 have A:JI B xs [] [] (B++[.dic []]):=⟨⟨[],rfl⟩,(λk d h=>by cases h),(λk _=>rfl),(λk v l h=>by cases h),rfl,à _⟩
 obtain⟨bd,Z1,a,b,J,e⟩:=Ee (lf:=lf) ho E w i c [] [] (B++[.dic []]) none none C (λM h=>(o M h).1) A (by simp only[ú];omega);rw[Ĝ]at J;have H:oG (vL lf lo' m B.length none none none none none none) (B++[.dic []])=#[vL lf lo' m B.length a b none none none none,Z1,0]:=by unfold oG;simp? [xA (A.old ho)];exact e
 have Q:oH (vL lf lo' m B.length a b none none none none) Z1=#[vL lf lo' m B.length a b #[Z1.length] none none none,(Z1++.lst []::[]),0]:=by unfold oH;simp? [jG]
 have r:(i.zip c).length<=c.length:=by rw[Ļ];omega
 obtain⟨ts,T,X,F,Z,v,S,O,g2⟩:=Ef (lf:=lf) (lo':=lo') J (λD W=>by obtain⟨x,e,y,z⟩:=MA C D W;exact⟨e,y,z,(o _ x).1.1,(o _ x).2⟩) (by omega) p E w hband fs Gs N I [] [] [] a b none none none (show Fts _ _ _ [] []from trivial) (by rw[ú,Ă];exact ŉ (Nat.mul_le_mul_right _ r) n);have j:(Z1++[MO.lst []])[lf]? =#[fs,2]:=by rw[á (gS.mp (J.old p)).1];exact J.old p
 have P:oI (vL lf lo' m B.length a b #[Z1.length] none none none) (Z1++.lst []::[])=#[vL lf lo' m B.length X F #[Z1.length] Z v S,(Z1++.lst ts::T),0]:=by unfold oI;simp? [xA j];exact g2
 obtain⟨s,u⟩:=J.ex;have q:Z1++MO.lst ts::T=B++(.dic bd::s++.lst ts::T):=by rw[u,aA]
 refine⟨Z1.length,.dic bd::s++.lst ts::T,ts,?_,by rw[u];simp,by rw[<-q];exact lQ _ _ _,by rw[<-q];exact O⟩;show yD (uI [#[lf],#[lo'],some m,none,none,none,none,none,none,none] B)=_;unfold uI;rw[zC L,zC H,zC Q,zC P, <-q];rfl
def QN(σ:List Nat->MV)(t:MV):MV:=match vn t with |some x=>σ x|none=>isv t
def uU(σ:List Nat->MV)(x:Db):QN σ (.tup [.str vK,.str x])=σ x:=by unfold QN;rw[AU]
theorem FN(σ:List Nat->MV)(v:MV):QN σ (.tup [.str IS,v])=v:=by unfold QN;rw[BR];rfl
theorem rO: ∀(ts cs:C1)(F G:Ev),cM ts cs F=some G->ts.length=cs.length->(∀t∈ts,jS t)->(∀x d,look F (.str x)=some d->look G (.str x)=some d)/\cs=ts.map (QN (pS G))
 |[],[],F,G,h,_,_=>by cases h;exact⟨λ_ _ z=>z,rfl⟩
 |[],_::_,_,_,_,hl,_=>by simp at hl
 |_::_,[],_,_,_,hl,_=>by simp at hl
 |t::ts,c::cs,F,G,h,hl,hT=>by
  have b:ts.length=cs.length:=by simpa using hl
  have a: ∀t∈ts,jS t:=λu k=>hT u (mO _ k);rcases hT t mF0 with⟨x,rfl⟩|⟨v,hv,rfl⟩
  .rw[uT]at h
   cases z:look F (.str x)with
   |none=>
    rw[z]at h;obtain⟨h1,i⟩:=rO ts cs _ G h b a;have m:look G (.str x)=some c:=h1 x c (by rw[aV,z,Option.none_or,iP rfl]);refine⟨λy d j=>h1 y d (by rw[aV,j];rfl),?_⟩;rw[ä,uU,fU m, <-i]
   |some d=>
    rw[z]at h;dsimp only at h;split at h
    .rename_i e;subst e;obtain⟨h1,i⟩:=rO ts cs F G h b a;exact⟨h1,by rw[ä,uU,fU (h1 x d z), <-i]⟩
    .cases h
  .rw[LU]at h;split at h
   .rename_i e;obtain⟨h1,i⟩:=rO ts cs F G h b a;exact⟨h1,by rw[ä,FN,e, <-i]⟩
   .cases h
theorem uV(σ:List Nat->MV): ∀(ts:C1)(F:Ev),(∀x d,look F (.str x)=some d->d=σ x)->(∀t∈ts,jS t)-> ∃G,cM ts (ts.map (QN σ)) F=some G/\ ∀x d,look G (.str x)=some d->d=σ x
 |[],F,hF,_=>⟨F,rfl,hF⟩
 |t::ts,F,hF,hT=>by
  have b: ∀t∈ts,jS t:=λu h=>hT u (mO _ h);rcases hT t mF0 with⟨x,rfl⟩|⟨v,hv,rfl⟩
  .rw[ä,uU,uT]
   cases z:look F (.str x)with
   |none=>
    refine uV σ ts (F++[(.str x,σ x)]) (λy d a=>?_) b;rw[aV]at a
    cases c:look F (.str y)with
    |some d'=>rw[c]at a;cases a;exact hF y _ c
    |none=>
     rw[c,Option.none_or]at a;split at a
     .rename_i e;cases a;cases e;rfl
     .cases a
   |some d=>
    dsimp only;rw[iP (hF x d z)];exact uV σ ts F hF b
  .rw[ä,FN,LU,iP rfl];exact uV σ ts F hF b
def Mt(rows:List Rw)(a:Rw)(σ:List Nat->MV):Prop:=(a.1,a.2.map (QN σ))∈rows
def Eg{a:Rw}(j: ∀t∈a.2,jS t)(hw: ∀r∈rows,r.1=a.1->a.2.length=r.2.length){G:Ev}(h:G∈jT rows a):Mt rows a (pS G)/\(∀t∈a.2, ∀x,vn t=some x->look G (.str x)≠none):=by unfold jT at h;obtain⟨r,b,d⟩:=ń.mp h;obtain⟨b,c⟩:=Ě.mp b;have c:=Ę c;have e:=hw r b c;obtain⟨_,i⟩:=rO _ _ _ _ d e j;refine⟨?_,(VH _ _ _ _ d (by omega)).2⟩;unfold Mt;rw[<-i, <-c];exact b
def Eh{a:Rw}(c: ∀t∈a.2,jS t)(h:Mt rows a σ): ∃G∈jT rows a, ∀x d,look G (.str x)=some d->d=σ x:=by obtain⟨G,h1,b⟩:=uV σ a.2 [] (λx d z=>by cases z) c;exact⟨G,ń.mpr ⟨(a.1,a.2.map (QN σ)),Ě.mpr ⟨h,dT0 rfl⟩,h1⟩,b⟩
theorem IQ(x:Db)(xs:Ch)(d:MV)(k:C1):yQ (x::xs) (d::k)=(.str x,d)::yQ xs k:=rfl
theorem mN(f:List Nat->MV): ∀(xs:Ch)(x:Db),look (yQ xs (xs.map f)) (.str x)=if x∈xs then some (f x)else none
 |[],x=>rfl
 |y::xs,x=>by
  rw[ä,IQ,yY,mN f xs x];by_cases e:y=x
  .subst e;rw[iP rfl,iP mF0]
  .rw[iN (λz=>e (MV.str.inj z))];by_cases h:x∈xs
   .rw[iP h,iP (mO _ h)]
   .rw[iN h,iN λz=>(mC.mp z).elim (λz=>e z.symm) h]
def DP{G:Ev}{x:Db}(h:x∈xs):pS (yQ xs (yU xs G)) x=pS G x:=fU (by unfold yU;rw[mN,iP h])
def MB{G:Ev}(h:Has xs G):tG (yQ xs (yU xs G))/\ ∀x,look (yQ xs (yU xs G)) (.str x)≠none↔x∈xs:=by
 refine⟨λp c=>?_,λx=>?_⟩
 .have a:(p.1,p.2)∈(xs.map MV.str).zip (yU xs G):=c;obtain⟨h1,b⟩:=of_mem_zip a;obtain⟨x,_,e⟩:=mM.mp h1;exact⟨⟨x,e.symm⟩,h.vs _ b⟩
 .unfold yU;rw[mN];by_cases e:x∈xs
  .rw[iP e];exact⟨λ_=>e,λ_ z=>by cases z⟩
  .rw[iN e];exact⟨λz=>absurd rfl z,λz=>absurd z e⟩
theorem uW(xs:Ch): ∀(Gs:List Ev)(P:C8)(k:C1),k∈VO xs Gs P↔k∈P\/ ∃G∈Gs,k=yU xs G
 |[],P,k=>⟨.inl,λh=>h.elim id λ⟨G,h,_⟩=>by simp at h⟩
 |G::Gs,P,k=>by
  show k∈VO xs Gs (LY P (yU xs G))↔_;rw[uW xs Gs,Lw];constructor
  .rintro((h|h)|⟨K,a,h⟩)
   .exact .inl h
   .exact .inr ⟨G,mF0,h⟩
   .exact .inr ⟨K,mO _ a,h⟩
  .rintro(h|⟨K,a,h⟩)
   .exact .inl (.inl h)
   .rcases mC.mp a with rfl|a
    .exact .inl (.inr h)
    .exact .inr ⟨K,a,h⟩
def iW:E∈oZ xs Gs↔ ∃G∈Gs,E=yQ xs (yU xs G):=by
 unfold oZ;rw[mM];constructor
 .rintro⟨k,b,rfl⟩;rcases (uW xs Gs [] k).mp b with h|⟨G,a,rfl⟩
  .simp at h
  .exact⟨G,a,rfl⟩
 .rintro⟨G,a,rfl⟩;exact⟨_,(uW xs Gs [] _).mpr (.inr ⟨G,a,rfl⟩),rfl⟩
theorem PX(E:Ev)(k d j:MV):look (putK E k d) j=if k=j then some d else look E j:=by
 unfold putK;split
 .rename_i hs
  have q: ∀E:Ev, ¬k=j->look (E.map λp=>if p.1=k then(p.1,d)else p) j=look E j:=λE q=>by
   induction E with
   |nil=>rfl
   |cons p E ih=>rw[ä,yY,yY,ih];grind
  induction E with
  |nil=>cases hs
  |cons p E ih=>
   have:=q E;rw[ä,yY,yY];rw[yY]at hs
   grind
 .rw[aV];cases z:look E j<;>grind
theorem IR: ∀(M G:Ev)(x:Db),(∀p∈M, ∀d,look G p.1=some d->p.2=d)->(∀p∈M, ∀q∈M,p.1=q.1->p.2=q.2)->look (xS G M) (.str x)=(look G (.str x)).or (look M (.str x))
 |[],G,x,_,_=>by show look G (.str x)=_;cases look G (.str x)<;>rfl
 |p::M,G,x,h1,h2=>by
  show look (xS (putK G p.1 p.2) M) (.str x)=_;rw[IR M (putK G p.1 p.2) x (λq a d hd=>?_) (λq a r b=>h2 q (mO _ a) r (mO _ b)),PX,yY]
  .by_cases e:p.1=.str x
   .rw[iP e,iP e]
    cases z:look G (.str x)with
    |none=>rfl
    |some d=>rw[h1 p mF0 d (by rw[e];exact z)];rfl
   .rw[iN e,iN e]
  .rw[PX]at hd;split at hd
   .rename_i e;cases hd;exact(h2 p mF0 q (mO _ a) e).symm
   .exact h1 q (mO _ a) d hd
def PY{Ds:List OD}:E∈joinM xs Gs Ds↔ ∃G∈Gs, ∃D∈Ds,yU xs D.2=yU xs G/\E=xS G D.2:=by
 unfold joinM;rw[mem_flatMap];constructor
 .rintro⟨G,b,h⟩;obtain⟨D,a,rfl⟩:=mM.mp h;obtain⟨h1,c⟩:=Ě.mp a;exact⟨G,b,D,h1,Ę c,rfl⟩
 .rintro⟨G,b,D,a,h,rfl⟩;exact⟨G,b,mM.mpr ⟨D,Ě.mpr ⟨a,dT0 h⟩,rfl⟩⟩
def Lx{τ:List Nat->MV}{t:MV}(h: ∀x,vn t=some x->σ x=τ x):QN σ t=QN τ t:=by
 unfold QN
 cases z:vn t with
 |none=>rfl
 |some x=>exact h x z
def Ei{a:Rw}{τ:List Nat->MV}(h: ∀t∈a.2, ∀x,vn t=some x->σ x=τ x)(m:Mt rows a σ):Mt rows a τ:=by unfold Mt at *;rw[<-Ė λt b=>Lx (h t b)];exact m
def MD{f:List Nat->MV}{p:MV×MV}(h:p∈yQ xs (xs.map f)): ∃x∈xs,p=(.str x,f x):=by
 induction xs with
 |nil=>exact absurd h (by simp[yQ])
 |cons y xs ih=>
  rw[ä,IQ]at h;rcases mC.mp h with rfl|h
  .exact⟨y,mF0,rfl⟩
  .obtain⟨x,a,e⟩:=ih h;exact⟨x,mO _ a,e⟩
def Ly(h:tG E){p:MV×MV}(b:(∃x,p.1=.str x)/\VS p.2):tG (putK E p.1 p.2):=by
 unfold putK;split
 .intro q a;obtain⟨r,c,rfl⟩:=mM.mp a;split
  .exact⟨(h r c).1,b.2⟩
  .exact h r c
 .intro q a;rcases é.mp a with a|a
  .exact h q a
  .rw[mS.mp a];exact b
theorem PZ: ∀(M G:Ev),tG G->tG M->tG (xS G M)
 |[],G,h,_=>h
 |p::M,G,h,hM=>PZ M (putK G p.1 p.2) (Ly h (hM p mF0)) λq a=>hM q (mO _ a)
structure FI(rows done:List Rw)(kn:Ch)(Gs:List Ev):Prop where
 dom: ∀G∈Gs,tG G/\ ∀x,look G (.str x)≠none↔x∈kn
 snd: ∀G∈Gs, ∃σ,(∀b∈done,Mt rows b σ)/\ ∀x∈kn,pS G x=σ x
 cmp: ∀σ,(∀b∈done,Mt rows b σ)-> ∃G∈Gs, ∀x∈kn,pS G x=σ x
section
variable{rows done:List Rw}{a:Rw}{kn own sh ow kn':Ch}{ask:List Nat->Prop}
def Ej{G F:Ev}(k:tG G/\ ∀x,look G (.str x)≠none↔x∈kn)(v:Has own F)(c: ∀x,x∈sh↔x∈own/\x∈kn)(b: ∀x,x∈ow↔x∈own/\(x∈sh\/ask x))(C: ∀x,x∈kn'↔(x∈kn\/x∈own)/\ask x)(u:yU sh (yQ ow (yU ow F))=yU sh G):
  (∀x∈sh,pS F x=pS G x)/\(∀x∈kn,pS (xS G (yQ ow (yU ow F))) x=pS G x)/\(∀x∈ow,pS (xS G (yQ ow (yU ow F))) x=pS F x)/\Has kn' (xS G (yQ ow (yU ow F))):=by
 have o:Has ow F:=⟨v.1,λx a=>v.2 x ((b x).mp a).1⟩
 have hs: ∀x∈sh,pS F x=pS G x:=λx a=>by
  have h1:pS (yQ ow (yU ow F)) x=pS G x:=by unfold yU at u;exact List.map_inj_left.mp u x a
  rw[DP ((b x).mpr ⟨((c x).mp a).1,.inl a⟩)]at h1;exact h1
 have i: ∀{E:Ev}{x:Db},look E (.str x)≠none->look E (.str x)=some (pS E x):=λ{E x} h=>by
  cases z:look E (.str x)with
  |none=>exact absurd z h
  |some d=>rw[fU z]
 have j: ∀x,look (xS G (yQ ow (yU ow F))) (.str x)=(look G (.str x)).or (look (yQ ow (yU ow F)) (.str x)):=λx=>by
  refine IR _ _ x (λp n d hd=>?_) λp n q B e=>?_
  .obtain⟨y,w,rfl⟩:=MD n;have r:y∈kn:=(k.2 y).mp (by rw[hd];simp);have m:y∈sh:=(c y).mpr ⟨((b y).mp w).1,r⟩;show pS F y=d;rw[hs y m];exact fU hd
  .obtain⟨y,w,rfl⟩:=MD n;obtain⟨z,I,rfl⟩:=MD B;cases e;rfl
 have h1: ∀x∈kn,look (xS G (yQ ow (yU ow F))) (.str x)=some (pS G x):=λx a=>by rw[j,i ((k.2 x).mpr a)];rfl
 have s: ∀x∈ow,look (xS G (yQ ow (yU ow F))) (.str x)=some (pS F x):=λx a=>by
  by_cases e:x∈kn
  .rw[h1 x e,hs x ((c x).mpr ⟨((b x).mp a).1,e⟩)]
  .have H:look G (.str x)=none:=by
    cases z:look G (.str x)with
    |none=>rfl
    |some d=>exact absurd ((k.2 x).mp (by rw[z];simp)) e
   rw[j,H,Option.none_or];unfold yU;rw[mN,iP a]
 refine⟨hs,λx a=>fU (h1 x a),λx a=>fU (s x a),PZ _ _ k.1 (MB o).1,λx a=>?_⟩;obtain⟨A,D⟩:=(C x).mp a;by_cases e:x∈kn
 .rw[h1 x e];simp
 .rw[s x ((b x).mpr ⟨A.resolve_left e,.inr D⟩)];simp
def QA(m: ∀t∈a.2,jS t)(hw: ∀r∈rows,r.1=a.1->a.2.length=r.2.length)(n: ∀r∈rows, ∀c∈r.2,VS c)(b: ∀x,x∈own↔ ∃t∈a.2,vn t=some x){F:Ev}(d:F∈jT rows a):Mt rows a (pS F)/\Has own F:=by obtain⟨h1,j⟩:=Eg m hw d;obtain⟨r,i,k⟩:=ń.mp (show F∈_ from d);exact⟨h1,DO _ _ _ _ k (λp h=>by simp at h) (n r (Ě.mp i).1),λx o=>by obtain⟨t,q,e⟩:=(b x).mp o;exact j t q x e⟩
def Lz{Ds:List OD}(I:FI rows done kn Gs)(T: ∀t∈a.2,jS t)(hw: ∀r∈rows,r.1=a.1->a.2.length=r.2.length)(hv: ∀r∈rows, ∀c∈r.2,VS c)(o: ∀x,x∈own↔ ∃t∈a.2,vn t=some x)(k: ∀x,x∈sh↔x∈own/\x∈kn)(n: ∀x,x∈ow↔x∈own/\(x∈sh\/ask x))(C: ∀x,x∈kn'↔(x∈kn\/x∈own)/\ask x)
  (hdn: ∀b∈done, ∀t∈b.2, ∀x,vn t=some x->x∈own->x∈kn) (hDs: ∀M,M∈oZ ow (jT rows a)↔ ∃D∈Ds,D.2=M):(∀K∈joinM sh Gs Ds,Has kn' K)/\FI rows (done++[a]) kn' (oZ kn' (joinM sh Gs Ds)):=by
 have h: ∀F∈jT rows a,Mt rows a (pS F)/\Has own F:=λF j=>QA T hw hv o j;have un: ∀K∈joinM sh Gs Ds, ∃G∈Gs, ∃F∈jT rows a,yU sh (yQ ow (yU ow F))=yU sh G/\K=xS G (yQ ow (yU ow F)):=λK u=>by obtain⟨G,m,D,P,e,rfl⟩:=PY.mp u;obtain⟨F,j,v⟩:=iW.mp ((hDs D.2).mpr ⟨D,P,rfl⟩);exact⟨G,m,F,j,by rw[<-v];exact e,by rw[v]⟩
 have p: ∀{G F:Ev},G∈Gs->F∈jT rows a->yU sh (yQ ow (yU ow F))=yU sh G-> ∀{σ:List Nat->MV},(∀x∈kn,pS G x=σ x)->(∀x∈own,pS F x=σ x)-> ∀x∈kn',pS (yQ kn' (yU kn' (xS G (yQ ow (yU ow F))))) x=σ x:=λ{G F} m j e {σ} H g2 x i=>by
  obtain⟨N,X,W,_⟩:=Ej (I.dom G m) (h F j).2 k n C e;rw[DP i];obtain⟨h3,h4⟩:=(C x).mp i;by_cases q:x∈kn
  .rw[X x q,H x q]
  .have y:=h3.resolve_left q;rw[W x ((n x).mpr ⟨y,.inr h4⟩),g2 x y]
 have A: ∀K∈joinM sh Gs Ds,Has kn' K:=λK u=>by obtain⟨G,m,F,j,e,rfl⟩:=un K u;exact(Ej (I.dom G m) (h F j).2 k n C e).2.2.2
 refine⟨A,λE O=>?_,λE O=>?_,λσ w=>?_⟩
 .obtain⟨K,u,rfl⟩:=iW.mp O;exact MB (A K u)
 .obtain⟨K,u,rfl⟩:=iW.mp O;obtain⟨G,m,F,j,e,rfl⟩:=un K u;obtain⟨N,_,_,_⟩:=Ej (I.dom G m) (h F j).2 k n C e;obtain⟨J,s1,S⟩:=I.snd G m
  classical
  refine⟨λx=>if x∈own then pS F x else J x,λb s=>?_,p m j e (λx i=>?_) λx i=>by rw[iP i]⟩
  .rcases é.mp s with s|s
   .refine Ei (λt L x i=>?_) (s1 b s);by_cases q:x∈own
    .have B:=hdn b s t L x i q;rw[iP q,N x ((k x).mpr ⟨q,B⟩),S x B]
    .rw[iN q]
   .rw[mS.mp s];exact Ei (λt L x i=>by rw[iP ((o x).mpr ⟨t,L,i⟩)]) (h F j).1
  .by_cases q:x∈own
   .rw[iP q,N x ((k x).mpr ⟨q,i⟩)]
   .rw[iN q];exact S x i
 .obtain⟨G,m,H⟩:=I.cmp σ λb s=>w b (ă _ s);obtain⟨F,j,Y⟩:=Eh T (w a (ó _ mF0))
  have U: ∀x∈own,pS F x=σ x:=λx i=>by
   cases z:look F (.str x)with
   |none=>exact absurd z ((h F j).2.2 x i)
   |some d=>rw[fU z];exact Y x d z
  have e:yU sh (yQ ow (yU ow F))=yU sh G:=by show sh.map (pS (yQ ow (yU ow F)))=sh.map (pS G);refine Ė λx i=>?_;obtain⟨Q,Z⟩:=(k x).mp i;rw[DP ((n x).mpr ⟨Q,.inl i⟩),U x Q,H x Z]
  obtain⟨D,P,v⟩:=(hDs _).mp (iW.mpr ⟨F,j,rfl⟩);exact⟨_,iW.mpr ⟨_,PY.mpr ⟨G,m,D,P,by rw[v];exact e,rfl⟩,rfl⟩,by rw[v];exact p m j e H U⟩
end
noncomputable def rk:MV->MV
 |.str x=>.tup [.int 1,.int 0,.str x]
 |d=>.tup [.int 0,d,.str []]
noncomputable def cd:MV->List Int
 |.int i=>[0,i]
 |.str x=>1::x.map Int.ofNat
 |_=>[]
abbrev IT(t:C1):List (List Int):=t.map cd
theorem Ek: ∀(x y:Db),x.map Int.ofNat<y.map Int.ofNat↔x<y
 |_,[]=>by simp
 |[],_::_=>by simp
 |a::x,b::y=>by rw[ä,ä,cons_lt_cons_iff,cons_lt_cons_iff,Ek x y];simp;grind
def El{d e:MV}(hd:VS d)(a:VS e)(h:cd d=cd e):d=e:=by
 rcases hd with⟨i,rfl⟩|⟨x,rfl⟩<;>rcases a with⟨j,rfl⟩|⟨y,rfl⟩<;>simp[cd]at h
 .rw[h]
 .rw[(List.map_inj_right (λ_ _ e=>Int.ofNat.inj e)).mp h]
theorem VT: ∀{a b:C1},(∀d∈a,VS d)->(∀d∈b,VS d)->IT a=IT b->a=b
 |[],[],_,_,_=>rfl
 |[],_::_,_,_,h=>by cases h
 |_::_,[],_,_,h=>by cases h
 |d::a,e::b,ha,hb,h=>by
  rw[IT,IT,ä,ä]at h;injection h with h1 h2
  rw[El (ha d mF0) (hb e mF0) h1,VT (λx c=>ha x (mO _ c)) (λx c=>hb x (mO _ c)) h2]
def IU{d:MV}(h:VS d):pd (rk d)=true/\vI (rk d)<=1/\gW (rk d)=true:=by rcases h with⟨i,rfl⟩|⟨x,rfl⟩<;>simp[rk,pd,MU,vI,rR,gW,uE]
def Vd{d e:MV}(hd:VS d)(a:VS e):rk d=rk e↔d=e:=by rcases hd with⟨i,rfl⟩|⟨x,rfl⟩<;>rcases a with⟨j,rfl⟩|⟨y,rfl⟩<;>simp[rk]
def Zq{d e:MV}(hd:VS d)(a:VS e)(n:Nat):vH S (n+2) (rk d) (rk e)=some (decide (cd d<cd e)):=by
 rcases hd with⟨i,rfl⟩|⟨x,rfl⟩<;>rcases a with⟨j,rfl⟩|⟨y,rfl⟩<;>simp[rk,cd,vH,tU,JZ,uA,cons_lt_cons_iff,Ek]
 .by_cases h:i=j<;>simp[h]
 .by_cases h:x=y<;>simp[h]
theorem Em{S:Sto}(n:Nat): ∀{a b:C1},(∀d∈a,VS d)->(∀d∈b,VS d)->tU (eqv S (n+2)) (vH S (n+2)) (a.map rk) (b.map rk)=some (decide (IT a<IT b))
 |[],[],_,_=>by simp[tU]
 |[],_::_,_,_=>by simp[tU]
 |_::_,[],_,_=>by simp[tU]
 |d::a,e::b,ha,hb=>by
  have h1:=ha d mF0;have c:=hb e mF0;have i:=Em (S:=S) n (a:=a) (b:=b) (λx h=>ha x (mO _ h)) (λx h=>hb x (mO _ h));rw[ä,ä];unfold tU;rw[fR (n+2) (IU h1).1 (IU c).1 (by have:=(IU h1).2.1;omega)];show(if decide (rk d=rk e)=true then tU (eqv S (n+2)) (vH S (n+2)) (a.map rk) (b.map rk)else vH S (n+2) (rk d) (rk e))=_;rw[i,Zq h1 c];show _=some (decide (cd d::IT a<cd e::IT b));by_cases q:d=e
  .subst q;simp[cons_lt_cons_iff]
  .have: ¬cd d=cd e:=λz=>q (El h1 c z);simp[Vd h1 c,q,cons_lt_cons_iff,this]
def klt{a b:C1}(c: ∀d∈a,VS d)(e: ∀d∈b,VS d):vH S zG (.tup (a.map rk)) (.tup (b.map rk))=some (decide (IT a<IT b)):=Em 37 c e
def bS(T:C8):List (List MV):=T.mergeSort λa b=>decide (IT a<=IT b)
def xQ(T:C8):(bS T).Perm T:=List.mergeSort_perm _ _
def ME(T:C8):(bS T).Pairwise λa b=>IT a<=IT b:=by have:=List.pairwise_mergeSort (le:=λa b:List MV=>decide (IT a<=IT b)) (λa b c h1 d=>dT0 (List.le_trans (Ę h1) (Ę d))) (λa b=>by rw[Bool.or_eq_true,decide_eq_true_iff,decide_eq_true_iff];exact List.le_total _ _) T;exact this.imp λh=>Ę h
def IV{T R:C8}(c: ∀t∈T, ∀d∈t,VS d)(p:R.Perm T)(q:R.Pairwise λa b=>IT a<=IT b):R=bS T:=
 List.Perm.eq_of_pairwise (λa b h i h1 e=>VT (c a (p.mem_iff.mp h)) (c b ((xQ T).mem_iff.mp i)) (List.le_antisymm h1 e)) q (ME T) (p.trans (xQ T).symm)
def FO{β:Type}(T:List β):(List.range T.length).filterMap (T[·]?)=T:=by
 induction T with
 |nil=>rfl
 |cons t T ih=>rw[lC,List.range_succ_eq_map,Ĭ,filterMap_map];simp[Function.comp_def,ih]
def VU{l:Bool}{Fd:List MV->Sto->R Er}{w:Nat}{T:C8}(n: ∀t∈T, ∀d∈t,VS d)(hw: ∀t∈T,t.length=w)(P:T.length<128){p:Er}(O:jL S p=some (T.map .tup))(call: ∀t∈T,zK 1 Fd [#[t,6]] S=.ok (YU l (.tup (t.map rk))) S):
  BM l Fd [p] S=#[(bS T).map .tup,S,2]:=by
 have mem: ∀k∈T.map (λt=>MV.tup (t.map rk)), ∃t∈T,k=.tup (t.map rk):=λk F=>by obtain⟨t,h1,r⟩:=mM.mp F;exact⟨t,h1,r.symm⟩
 have at': ∀{f:List MV->MV}{m:Nat}{k:MV},(T.map f)[m]? =some k-> ∃t,T[m]? =some t/\t∈T/\k=f t:=λh=>by rw[ö]at h;obtain⟨t,h1,r⟩:=Option.map_eq_some_iff.mp h;exact⟨t,h1,è h1,r.symm⟩
 have ok:SrtOkX l Fd S (T.map .tup) (T.map λt=>.tup (t.map rk)) (decide (0<w)):=by
  refine⟨by rw[lM];exact P,by rw[lM,lM],λm d kd h1 r=>?_,λd hd=>?_,λd hd=>?_,⟨λa D b B=>?_,λa D b B c E h1 r=>?_,λa D b B h1=>?_⟩⟩
  .obtain⟨t,z,o,rfl⟩:=at' h1;obtain⟨u,H,_,rfl⟩:=at' r;rw[z]at H;cases H;exact call t o
  .obtain⟨t,o,rfl⟩:=mem d hd;unfold gW;have: ∀ds:List MV,(∀d∈ds,gW d=true)->uE ds=true:=λds=>by induction ds<;>simp_all [uE]
   exact this _ λx U=>by obtain⟨y,Q,rfl⟩:=mM.mp U;exact(IU (n t o y Q)).2.2
  .obtain⟨t,o,rfl⟩:=mem d hd;unfold Fn;split
   .exact⟨_,rfl⟩
   .have h1:=hw t o
    cases t with
    |nil=>rw[<-h1];exact .e
    |cons x t=>
     rw[dT0 (by rw[<-h1,lC];omega),ä];rcases n _ o x mF0 with⟨i,rfl⟩|⟨y,rfl⟩
     .exact .t _ _
     .exact .t _ _
  .obtain⟨t,o,rfl⟩:=mem a D;obtain⟨u,A,rfl⟩:=mem b B;exact⟨_,klt (n t o) (n u A)⟩
  .obtain⟨t,o,rfl⟩:=mem a D;obtain⟨u,A,rfl⟩:=mem b B;obtain⟨v,G,rfl⟩:=mem c E;rw[klt (n _ A) (n _ o)]at h1;rw[klt (n _ G) (n _ A)]at r;rw[klt (n _ G) (n _ o)];have h1:=of_decide_eq_false (å h1);have r:=of_decide_eq_false (å r);rw[dF0 (List.not_lt.mpr (List.le_trans (List.not_lt.mp h1) (List.not_lt.mp r)))]
  .obtain⟨t,o,rfl⟩:=mem a D;obtain⟨u,A,rfl⟩:=mem b B;rw[klt (n _ o) (n _ A)]at h1;rw[klt (n _ A) (n _ o),dF0 (List.not_lt.mpr (List.le_of_lt (Ę (å h1))))]
 refine Ky O ok (λY h=>?_) ?_ (λL X C=>?_)
 .obtain⟨idx,p,q,rfl⟩:=h;rw[lM]at p;rw[<-IV (R:=idx.filterMap (T[·]?)) n (by have:=p.filterMap (T[·]?);rwa [FO]at this) (by rw[List.pairwise_filterMap];refine q.imp λ{i j} h b B c E=>?_;have h':=h (.tup (b.map rk)) (.tup (c.map rk)) (by rw[ö,B];rfl) (by rw[ö,E];rfl);rw[klt (n c (è E)) (n b (è B))]at h';exact List.not_lt.mp (of_decide_eq_false (å h'))),List.map_filterMap];congr 1;funext i;rw[ö]
 .obtain⟨idx,J,M⟩:=IB (xQ T).symm (g:=λi=>(T[i]?).getD []) (List.range T.length) (by rw[ET λi hi=>mem_range.mp hi,FO]);have N: ∀i,i∈idx->i<T.length:=λi hi=>mem_range.mp (J.mem_iff.mp hi);refine⟨idx,by rw[lM];exact J,?_,?_⟩
  .have I:=ME T;rw[<-M,pairwise_map]at I;refine List.Pairwise.imp_of_mem (λ{i j} hi W h a c D E=>?_) I;obtain⟨t,z,o,rfl⟩:=at' D;obtain⟨u,H,A,rfl⟩:=at' E;rw[z,H]at h;rw[klt (n u A) (n t o),dF0 (List.not_lt.mpr (show IT t<=IT u from h))]
  .rw[<-M,ET N,List.map_filterMap];congr 1;funext i;rw[ö]
 .refine List.ext_getElem (by rw[C.kl,lM,lM]) λm h1 r=>?_;rw[lM]at r;have s:=C.call m (.tup T[m]) _ (by rw[ö,gE r];rfl) (gE h1);rw[call _ (getElem_mem r)]at s;injection s with s _
  have F:=C.kind _ (getElem_mem h1);rw[List.getElem_map];unfold Fn at F;unfold YU at s;split at F
  .rename_i e;obtain⟨es,K⟩:=F;rw[iP e,iP e,K]at s;rw[K];injection s with s
   rw[s]
  .rename_i e;rw[iN e,iN e]at s;injection s with s
   exact s.symm
theorem Ve{d:MV}(h:VS d)(S:Sto):zK 1 nT [.val d] S=#[rk d,S,1]:=by
 have h1:=(IU h).1;rcases h with⟨i,rfl⟩|⟨x,rfl⟩
 .refine lX rfl ?_ (fS h1) (λl=>by simp[rk]);show yD (kW [#[i,0]] S)=_;unfold kW;rw[zC (show xO [#[i,0]] S=#[[#[i,0]],S,0] by unfold xO;simp? [jG];rfl)];unfold eR;simp? [jG];rfl
 .refine lX rfl ?_ (fS h1) (λl=>by simp[rk]);show yD (kW [#[x,4]] S)=_;unfold kW;rw[mX (show xO [#[x,4]] S=.ok (.ret (.val (rk (.str x)))) S by unfold xO;simp? [jG];rfl)];rfl
def En{t:C1}(h: ∀d∈t,VS d):MU (t.map rk)=true:=bQ λe a=>by obtain⟨d,hd,rfl⟩:=mM.mp a;exact(IU (h d hd)).1
theorem Ma{t:C1}(h: ∀d∈t,VS d)(b:t.length<1000)(S:Sto):zK 1 nV [#[t,6]] S=.ok #[t.map rk,6] S:=by
 refine lX rfl ?_ (RN (LM (En h))) (λl=>by simp);have a:yE (zW 0) cB kX [none] [] t S=.ok (t.map rk) S:=OB (nN S) λd hd=>by refine⟨[some d],rfl,rfl,?_⟩;unfold kX;simp? [Ve (h d hd)]
 show yD (nU [#[t,3]] S)=_;unfold nU eS;simp? [FE,show t.length<1000000 by omega];rw[show vG 1 [] [#[t,3]]=[none]from rfl,a];simp? [mK];rfl
theorem Eo{t:C1}(h: ∀d∈t,VS d)(b:t.length<1000)(S:Sto):zK 1 bN [#[t,6]] S=#[t.map rk,S,2]:=by
 have lp: ∀(u:C1)(ks:C1)(x:C4),(∀d∈u,VS d)->ks.length+u.length<2000-> ∃y,wF (zW 2) bK [] u [#[t,3],#[↑1],x] (S++[.lst ks])=#[[#[t,3],#[↑1],y],S++[.lst (ks++u.map rk)],0]:=λu=>by
  induction u with
  |nil=>exact λks x _ _=>⟨x,by rw[List.map_nil,aN];rfl⟩
  |cons d u ih=>
   intro ks x c b;rw[lC]at b;obtain⟨y,a⟩:=ih (ks++[rk d]) (some d) (λe j=>c e (mO _ j)) (by simp;omega);refine⟨y,?_⟩;have hs:=zL S (.lst ks);rw[zZ (ρ':=[#[t,3],#[↑1],some d]) (S':=S++[.lst (ks++[rk d])]) rfl ?_ (nN _),a,aA]
   .rfl
   .unfold bK cI;rcases c d mF0 with⟨i,rfl⟩|⟨z,rfl⟩
    .simp? [yN hs,wC hs (show ks.length<1000000 by omega),bR];rfl
    .simp? [yN hs,wC hs (show ks.length<1000000 by omega),bR];rfl
 obtain⟨y,a⟩:=lp t [] none h (by simp;omega);refine tZ (T:=[.lst (t.map rk)]) rfl ?_ (à _) (by simp) (LM (En h));show yD (aL [#[t,3],none,none] S)=_;unfold aL;rw[zC (show bL [#[t,3],none,none] S=#[[#[t,3],#[↑1],none],S++[.lst []],0] by unfold bL;simp? [jG]),zC (show bM [#[t,3],#[↑1],none] (S++[.lst []])=_ by unfold bM;simp? [FE];exact a)];unfold fG;simp? [jG];rfl
def Mb{ds:C1}{d:MV}:tI (ds++[d]) (-1)=some d:=by
 unfold tI;have:JF (ds++[d]).length (-1)=some ds.length:=by unfold JF;simp;omega
 rw[this];simp
def fV{t:C1}(h: ∀d∈t,VS d):pd (.tup t)=true/\vI (.tup t)<3:=by
 refine⟨by rw[yW];exact bQ λd hd=>(qS (h d hd)).1,?_⟩;rw[gH];have:rR t<=0:=rL λd hd=>by rcases h d hd with⟨i,rfl⟩|⟨x,rfl⟩<;>simp[vI]
 omega
theorem QB{m:Nat}{a:C4}: ∀(L O:C8)(S:Sto)(x:C4),S[m]? =#[O.map .tup,2]->(O++L).Nodup->(∀t∈O++L, ∀d∈t,VS d)->O.length+L.length<1000->
  ∃y,wF (zW 2) nW [] (L.map .tup) [a,#[m],x] S=#[[a,#[m],y],S.set m (.lst ((O++L).map .tup)),0]
 |[],O,S,x,hS,_,_,_=>⟨x,by obtain⟨h1,j⟩:=gS.mp hS;rw[aN, <-j,List.set_getElem_self h1];rfl⟩
 |t::L,O,S,x,hS,hn,hv,hl=>by
  rw[lC]at hl;have e:O++t::L=O++[t]++L:=by simp
  rw[e]at hn hv ⊢;have n: ∀d∈t,VS d:=hv t (by simp);have app:eF #[m,1] [#[t,6]] S=#[.non,S.set m (.lst ((O++[t]).map .tup)),1]:=by rw[wC hS (by rw[lM];omega),ð];rfl
  obtain⟨y,h⟩:=QB (m:=m) (a:=a) L (O++[t]) (S.set m (.lst ((O++[t]).map .tup))) #[t,3] (get_set hS) hn hv (by simp;omega);refine⟨y,?_⟩;rw[ä,zZ (ρ':=[a,#[m],#[t,3]]) (S':=S.set m (.lst ((O++[t]).map .tup))) rfl ?_ (nN _),h,List.set_set];unfold nW eT;by_cases b:O=[]
  .subst b;simp? [VB hS,show(!!(List.map MV.tup ([]:C8)).isEmpty)=true from rfl,yN hS,app]
  .obtain⟨P,z,rfl⟩: ∃P z,O=P++[z]:=⟨O.dropLast,O.getLast b,(List.dropLast_concat_getLast b).symm⟩
   have i:z≠t:=λe=>by subst e;simp[ĥ]at hn
   have k:iC #[m,1] #[-1,5] S=.ok #[z,6] S:=EI hS (by rw[ð];exact Mb);have c:RH #[z,6] #[t,6] S=#[.bl true,S,1]:=by have q:=fV (hv z (by simp));rw[VI q.1 (fV n).1 (by omega),dF0 (λe=>i (MV.tup.inj e))];rfl
   simp? [VB hS,show(!((P++[z]).map MV.tup).isEmpty)=true by simp,Ņ,fT,iF,k,c,yN hS,app]
theorem Mc{w:Nat}{T:C8}(e: ∀t∈T, ∀d∈t,VS d)(hw: ∀t∈T,t.length=w)(h:w<1000)(q:T.Nodup)(n:T.length<128)(S:Sto):zK 1 oA [.new (T.map .tup)] S=#[(bS T).map .tup,S,2]:=by
 have p:=xQ T;have c: ∀t∈[]++bS T, ∀d∈t,VS d:=λt b=>e t (p.mem_iff.mp b);have k:(S++[MO.lst (T.map .tup)]++[.lst []])[↑1]? =#[T.map .tup,2]:=by simp
 obtain⟨y,o⟩:=QB (m:=↑1+1) (a:=#[↑1]) (bS T) [] (S++[.lst (T.map .tup)]++[.lst []]) none (by rw[aA];exact tF _ _ _) (p.nodup_iff.mpr q) c (by have:=p.length_eq;simp;omega);refine dL rfl (show zF [.new (T.map .tup)] S=([.loc ↑1],S++[.lst (T.map .tup)])from rfl) (T:=[.lst (T.map .tup),.lst ((bS T).map .tup)]) (r:=#[↑1+1,1]) ?_ (.inr ⟨↑1+1,rfl,by omega,tF _ _ _⟩) (gV λd hd=>by obtain⟨t,b,rfl⟩:=mM.mp hd;exact fS (fV (c t b)).1);show yD (mZ [#[↑1],none,none] (S++[.lst (T.map .tup)]))=_;unfold mZ;have j:nY [#[↑1],none,none] (S++[.lst (T.map .tup)])=#[[#[↑1],#[↑1+1],none],S++[.lst (T.map .tup)]++[.lst []],0]:=by unfold nY;simp? [jG];simp
 have i:nZ [#[↑1],#[↑1+1],none] (S++[.lst (T.map .tup)]++[.lst []])=#[[#[↑1],#[↑1+1],y],S++[.lst (T.map .tup),.lst ((bS T).map .tup)],0]:=by unfold nZ;simp? [VU (l:=false) e hw n (p:=#[↑1,1]) (by unfold jL;dsimp only;rw[k]) (λt b=>Ma (e t b) (by rw[hw t b];exact h) _),SJ];rw[o,aA];simp
 rw[zC j,zC i];unfold mY;simp? [jG];rfl
theorem ZF{n:Nat}{F:List MV->Sto->R Er}{S2:Sto}{l:Nat}{kvs:Ev}(b:rs.length=n)(a:F (zF rs S).1 (zF rs S).2=.ok #[l,1] S2)(c:↑1<=l)(h:S2[l]? =#[kvs,7]):zK n F rs S=.ok #[l,1] S2:=by
 unfold zK;rw[iP b,a];show jF S #[l,1] S2=_;unfold jF;dsimp only;split
 .rw[iN (by omega),h]
 .rfl
def ZG{n:Nat}{F:List MV->Sto->R Er}{l:Nat}{ds:C1}(c:rs.length=n)(b:F (zF rs S).1 (zF rs S).2=.ok #[l,1] (S++T))(d:↑1<=l)(h:(S++T)[l]? =#[ds,2]):
  ∃r a,zK n F rs S=.ok r (S++a)/\(r=#[l,1]/\a=T\/r=.new ds/\a=[]/\rY ↑1 ds):=by
 unfold zK;rw[iP c,b];show∃r a,jF S #[l,1] (S++T)=_/\_;unfold jF;rw[iP qE];dsimp only;rw[iN (by omega),h];dsimp only;split
 .rename_i h;exact⟨_,[],by rw[aN,List.take_left'];rfl,.inr ⟨rfl,rfl,h⟩⟩
 .exact⟨_,T,rfl,.inl ⟨rfl,rfl⟩⟩
def Ls(Z:Sto)(n:Nat)(r:Er)(Gs:List Ev):Prop:=(∃l ws,r=#[l,1]/\Z[l]? =#[ws,2]/\Fts Z n 1 ws Gs)\/ ∃ws,r=.new ws/\Fts Z n 1 ws Gs
def QD{n:Nat}{r q:Er}(h:Ls Z n r Gs)(j:q=.new #[xs,8]\/ ∃l,q=#[l,1]/\Z[l]? =#[xs.map MV.str,2])(A:xs.length<1000)(u:xs.Nodup)(d: ∀G∈Gs,Has xs G)(s:Gs.length<10000):
  ∃out T p,zK 2 EY [r,q] Z=#[out,Z++T,2]/\Fts (Z++T) p 1 out (oZ xs Gs):=by
 obtain⟨lf,m,ws,a,v,e,y,o⟩: ∃lf m ws a,zF [r,q] Z=([.loc lf,m],Z++a)/\(Z++a)[lf]? =#[ws,2]/\SqM (Z++a) m #[xs,8]/\Fts (Z++a) n 1 ws Gs:=by
  rcases h with⟨l,ws,rfl,h1,h2⟩|⟨ws,rfl,h2⟩<;>rcases j with rfl|⟨k,rfl,h3⟩
  .exact⟨l,_,ws,[.lst #[xs,8]],rfl,zD h1,.inr ⟨_,rfl,zL _ _⟩,h2.grow⟩
  .exact⟨l,.loc k,ws,[],by rw[aN];rfl,zD h1,.inr ⟨k,rfl,zD h3⟩,h2.grow⟩
  .exact⟨Z.length,.loc (Z.length+1),ws,[.lst ws,.lst #[xs,8]],by simp[zF,wO],lQ _ _ _,.inr ⟨_,rfl,tF _ _ _⟩,h2.grow⟩
  .exact⟨Z.length,.loc k,ws,[.lst ws],rfl,zL _ _,.inr ⟨k,rfl,zD h3⟩,h2.grow⟩
 obtain⟨out,T,c,b⟩:=Zp e y A u o d s;rw[aA]at c b;obtain⟨z,i,w⟩:=IP (n:=2) (F:=EY) (rs:=[r,q]) (S:=Z) (T:=a++T) (ds:=out) rfl (by rw[v];exact c);refine⟨out,z,(Z++a).length,i,?_⟩;rcases w with rfl|⟨rfl,hlo⟩
 .exact b
 .exact b.cut hlo (by rw[lA];omega)
noncomputable def Wa(vs:C1):Nat->List (List MV)
 |0=>[[]]
 |n+1=>vs.flatMap λv=>(Wa vs n).map (v::·)
theorem VV(vs:C1): ∀n,(Wa vs n).length=vs.length ^ n
 |0=>rfl
 |n+1=>by
  have: ∀us:List MV,(us.flatMap λv=>(Wa vs n).map (v::·)).length=us.length * (Wa vs n).length:=λus=>by
   induction us with
   |nil=>simp
   |cons u us ih=>rw[flatMap_cons,lA,ih,lM,lC,Nat.add_mul,Nat.one_mul,Nat.add_comm]
  rw[Wa,this,VV vs n,Nat.pow_succ,Nat.mul_comm]
theorem VW{vs:C1}: ∀{k:C1},(∀d∈k,d∈vs)->k∈Wa vs k.length
 |[],_=>mS.mpr rfl
 |d::k,h=>mem_flatMap.mpr ⟨d,h d mF0,mM.mpr ⟨k,VW λx a=>h x (mO _ a),rfl⟩⟩
def SQ{vs:C1}{P:C8}{n:Nat}(b:P.Nodup)(h: ∀k∈P,k.length=n/\ ∀d∈k,d∈vs):P.length<=vs.length ^ n:=by rw[<-VV];exact b.length_le_of_subset λk c=>by obtain⟨rfl,a⟩:=h k c;exact VW a
def jD{as:List Rw}{x:Db}:x∈dB as↔ ∃b∈as, ∃t∈b.2,vn t=some x:=by simp[dB,mem_flatMap,ń]
def Nk{as:List Rw}{vs:C1}(a: ∀r∈rows, ∀c∈r.2,c∈vs)(m: ∀b∈as,Mt rows b σ){x:Db}(d:x∈dB as):σ x∈vs:=by obtain⟨b,h,t,i,e⟩:=jD.mp d;refine a _ (m b h) (σ x) (mM.mpr ⟨t,i,?_⟩);unfold QN;rw[e]
def uX{l:Nat}{x:Db}{fs:Ch}(a:Bool)(h:S[l]? =#[fs.map MV.str,2]):CT a (.val (.str x)) #[l,1] S=#[.bl (if a=true then !decide (x∈fs)else decide (x∈fs)),S,1]:=by rw[iV a h (nG x) DI,dec_is DL]
def VX{cf:AZ}{ef:AX}{ρb:Rho}{gs:C6}{p:List Nat->Bool}(hs:stay gs Z)(b: ∀x,cf (#[x,4]::ρb) Z=.ok (p x) Z)(a: ∀x,ef (#[x,4]::ρb) Z=#[.str x,Z,1]):yE (zW 0) cf ef (none::ρb) gs #[xs,8] Z=.ok ((xs.filter p).map MV.str) Z:=
 FG hs λx _=>⟨#[x,4]::ρb,rfl,b x,a x⟩
theorem QE(xs:Ch)(Ds:List OD): ∀Gs:List Ev,(joinM xs Gs Ds).length<=Gs.length * Ds.length
 |[]=>by simp[joinM]
 |G::Gs=>by have h1:=QE xs Ds Gs;have a:(SO xs Ds (yU xs G)).length<=Ds.length:=ċ _ _;show((SO xs Ds (yU xs G)).map _++joinM xs Gs Ds).length<=_;rw[lA,lM,lC,Nat.succ_mul];omega
def Md{b:C1}{a:List Ev}(h:b.length=a.length)(N:Ev):N∈a↔ ∃D∈b.zip a,D.2=N:=by rw[<-mM,List.map_snd_zip (le_of_eq h.symm)]
def Me(xs:Ch)(Gs:List Ev):(oZ xs Gs).length<=Gs.length:=by
 have: ∀(Gs:List Ev)(P:C8),(VO xs Gs P).length<=P.length+Gs.length:=λGs=>by
  induction Gs with
  |nil=>exact λP=>à _
  |cons G Gs ih=>
   intro P;have h1:=ih (LY P (yU xs G));have a:=LZ P (yU xs G);show(VO xs Gs (LY P (yU xs G))).length<=_;rw[lC];omega
 rw[oZ,lM];simpa using this Gs []
structure QC(rows as:List Rw)(hd:Ch)(vs:C1)(ys:Ch):Prop where
 hv: ∀r∈rows, ∀c∈r.2,c∈vs
 vv: ∀v∈vs,VS v
 v1:1<=vs.length
 rl:rows.length<=90
 ha: ∀b∈as,(∀d∈b.2,jS d)/\b.2.length<=4
 hw: ∀b∈as, ∀r∈rows,r.1=b.1->b.2.length=r.2.length
 al:as.length<=10
 hh: ∀x∈hd,x∈dB as
 hl:hd.length<=10
 hy: ∀x∈dB as,x∈ys
 yl:ys.length<=10
 pw:vs.length ^ ys.length<=100
 ph:vs.length ^ hd.length<128
structure MC(S:Sto)(lr lm:Nat)(rows as:List Rw)(hd:Ch)(vs:C1)(ys:Ch):Prop extends QC rows as hd vs ys where
 hr:S[lr]? =#[rows.map zO,2]
 hm:S[lm]? =some (.lst (rows.map λ_=>.int 1))
noncomputable abbrev MR(lr lm:Nat)(H A:C1)(lk lf:Nat)(p b c d e f g:C4):Rho:=[#[lr],#[lm],#[[.tup H,.tup A],3],#[H,3],#[A,3],#[lk],#[lf],p,b,c,d,e,f,g]
structure MI(S:Sto)(rows:List Rw)(hd:Ch)(done rest:List Rw)(kn:Ch)(ws:C1)(Gs:List Ev)(n0:Nat)(mk:Int)(lk lf:Nat)(Z:Sto):Prop where
 ex: ∃T,Z=S++T
 k:Z[lk]? =#[kn.map MV.str,2]
 f:Z[lf]? =#[ws,2]
 F:Fts Z n0 mk ws Gs
 b: ∀Y,BK #[mk,5] #[1,5] Y=.ok #[1,5] Y
 I:FI rows done kn Gs
 nd:kn.Nodup
 kk: ∀x,x∈kn↔x∈dB done/\(x∈hd\/x∈dB rest)
 gl:Gs.length<=100
 gL: ∀G∈Gs,G.length<=1000
theorem SR(xs:Ch): ∀(Gs:List Ev){P:C8},P.Nodup->(VO xs Gs P).Nodup
 |[],_,h=>h
 |G::Gs,_,h=>SR xs Gs (Uz h (yU xs G))
section
variable{S:Sto}{lr lm:Nat}{rows as:List Rw}{hd:Ch}{vs:C1}{ys:Ch}
theorem Mf(C:MC S lr lm rows as hd vs ys){a:Rw}{done rest:List Rw}(ea:as=done++a::rest){kn:Ch}{ws:C1}{n0:Nat}{mk:Int}{lk lf:Nat}(M:MI S rows hd done (a::rest) kn ws Gs n0 mk lk lf Z)(c d e f g:C4):
  ∃kn' E a' a8 ay ai c' d' e' f' g' Z',yT (MR lr lm #[hd,8] #[as,9] lk lf #[(done.length:Nat),0] (some (zO a)) c d e f g) Z=#[MR lr lm #[hd,8] #[as,9] ay ai #[(done.length:Nat),0] (some (zO a)) c' d' e' f' g',Z',0]/\MI S rows hd (done++[a]) rest kn' E a' a8 1 ay ai Z':=by
 obtain⟨T0,aq⟩:=M.ex;have v:a∈as:=by rw[ea];simp
 have aj: ∀b∈rest,b∈as:=λb w=>by rw[ea];simp[w]
 have ak:=C.al;have bo:rest.length<=10:=by rw[ea]at ak;simp at ak;omega
 have vv: ∀r∈rows, ∀c∈r.2,VS c:=λr hr c hc=>C.vv c (C.hv r hr c hc);obtain⟨own,ho⟩: ∃own,own=yX [] (dB [a]):=⟨_,rfl⟩
 have s: ∀x,x∈own↔ ∃t∈a.2,vn t=some x:=λx=>by rw[ho,qP,jD];simp
 have bl:own.length<=4:=by
  have h1:=qQ (dB [a]) [];have h2:(dB [a]).length<=a.2.length:=by simp only[dB,flatMap_cons,List.flatMap_nil,aN];exact ī _ _
  have h3:=(C.ha a v).2;rw[ho];simp at h1;omega
 have ar:own.Nodup:=by rw[ho];exact DM _ nodup_nil
 obtain⟨sh,X⟩: ∃sh,sh=own.filter λx=>decide (x∈kn):=⟨_,rfl⟩
 obtain⟨ask,T⟩: ∃ask,ask=hd++yX [] (dB rest):=⟨_,rfl⟩
 obtain⟨ow,z⟩: ∃ow,ow=own.filter λx=>if decide (x∈sh)=true then true else decide (x∈ask):=⟨_,rfl⟩
 obtain⟨J,B⟩: ∃J,J=own.filter λx=>!decide (x∈sh):=⟨_,rfl⟩
 obtain⟨kn',ab⟩: ∃kn',kn'=(kn++J).filter λx=>decide (x∈ask):=⟨_,rfl⟩
 have A: ∀x,x∈sh↔x∈own/\x∈kn:=λx=>by rw[X];simp
 have av: ∀x,x∈ask↔x∈hd\/x∈dB rest:=λx=>by rw[T,é,qP];simp
 have ag: ∀x,x∈ow↔x∈own/\(x∈sh\/x∈ask):=λx=>by rw[z];simp
 have aw: ∀x,x∈kn'↔(x∈kn\/x∈own)/\x∈ask:=λx=>by
  rw[ab,B];simp only[Ě,é,A]
  grind
 have af:kn'.Nodup:=by rw[ab];refine List.Pairwise.filter _ (ĥ.mpr ⟨M.nd,B▸List.Pairwise.filter _ ar,λx i y hy e=>?_⟩);rw[B]at hy;simp[A]at hy;exact hy.2.elim (· hy.1) (· (e▸i))
 have W: ∀x,x∈kn'↔x∈dB (done++[a])/\(x∈hd\/x∈dB rest):=λx=>by
  have e1:x∈dB (done++[a])↔x∈dB done\/x∈own:=by rw[s];simp[jD,or_and_right,exists_or]
  have e2:x∈dB (a::rest)↔x∈own\/x∈dB rest:=by rw[s];simp[jD]
  rw[aw,av,M.kk,e1,e2]
  grind
 have a7:kn'.length<=ys.length:=af.length_le_of_subset λx i=>C.hy x (by obtain⟨b,w,h⟩:=jD.mp ((W x).mp i).1;exact jD.mpr ⟨b,by rw[ea];simp at w ⊢; exact w.imp id .inl,h⟩);have bh:=C.yl;have a6: ∀G∈Gs,Has sh G/\G.length<=1000:=λG H=>⟨⟨(M.I.dom G H).1,λx i=>((M.I.dom G H).2 x).mpr ((A x).mp i).2⟩,M.gL G H⟩
 have ao: ∀G∈jT rows a,Has ow G:=λG H=>by have:=(QA (C.ha a v).1 (C.hw a v) vv s H).2;exact⟨this.1,λx i=>this.2 x ((ag x).mp i).1⟩
 have bj:=C.rl;have fl:(jT rows a).length<=rows.length:=õ (ī _ _) (ċ _ _);have zl: ∀(xs:Ch)(k:C1),(yQ xs k).length<=xs.length:=λxs k=>by unfold yQ;rw[Ļ,lM];omega
 have D: ∀{Y:Sto}{l:Nat}{o x:MO},Y[l]? =some o->(Y++[x])[l]? =some o:=λh=>zD h;obtain⟨Z1,q1⟩: ∃Y,Y=Z++[MO.lst #[own,8]]:=⟨_,rfl⟩
 obtain⟨j,q2⟩: ∃Y,Y=Z1++[MO.lst #[sh,8]]:=⟨_,rfl⟩
 obtain⟨u,q3⟩: ∃Y,Y=j++[MO.lst #[ask,8]]:=⟨_,rfl⟩
 have u3: ∀{l:Nat}{o:MO},Z[l]? =some o->u[l]? =some o:=λh=>by rw[q3,q2,q1];exact D (D (D h))
 have a9:Z1[Z.length]? =#[own.map MV.str,2]:=by rw[q1];exact zL _ _
 have bb:j[Z1.length]? =#[sh.map MV.str,2]:=by rw[q2];exact zL _ _
 have ax:u[j.length]? =#[ask.map MV.str,2]:=by rw[q3];exact zL _ _
 have b9:u[Z.length]? =#[own.map MV.str,2]:=by rw[q3,q2];exact D (D a9)
 have aa:u[Z1.length]? =#[sh.map MV.str,2]:=by rw[q3];exact D bb
 have uS: ∀{l:Nat}{o:MO},S[l]? =some o->u[l]? =some o:=λh=>u3 (by rw[aq];exact zD h);obtain⟨T4,w4,f1,f2⟩:=Zo (uS C.hr) (uS C.hm) vv (by omega) (C.ha a v);obtain⟨out,T5,n5,c1,c2⟩:=QD (q:=.new #[ow,8]) (.inr ⟨w4,rfl,f2⟩) (.inl rfl) (by have:=ċ (λx=>if decide (x∈sh)=true then true else decide (x∈ask)) own;rw[<-z]at this;omega) (z▸List.Pairwise.filter _ ar) ao (by omega);obtain⟨O,q4⟩: ∃Y,Y=u++T4++T5++[MO.lst out]:=⟨_,rfl⟩
 obtain⟨P,q5⟩: ∃Y,Y=O++[MO.lst #[J,8]]:=⟨_,rfl⟩
 obtain⟨Z6,q6⟩: ∃Y,Y=P++[MO.lst #[kn',8]]:=⟨_,rfl⟩
 have L: ∀{l:Nat}{o:MO},u[l]? =some o->O[l]? =some o:=λh=>by rw[q4];exact zD (zD (zD h))
 have u6: ∀{l:Nat}{o:MO},O[l]? =some o->Z6[l]? =some o:=λh=>by rw[q6,q5];exact D (D h)
 have aR:O[(u++T4++T5).length]? =#[out,2]:=by rw[q4];exact zL _ _
 have az:P[O.length]? =#[J.map MV.str,2]:=by rw[q5];exact zL _ _
 have a5:Z6[P.length]? =#[kn'.map MV.str,2]:=by rw[q6];exact zL _ _
 have ba: ∀N∈oZ ow (jT rows a),Has sh N/\N.length<=1000:=λN hN=>by obtain⟨G,H,rfl⟩:=iW.mp hN;have:=MB (ao G H);refine⟨⟨this.1,λx i=>(this.2 x).mpr ((ag x).mpr ⟨((A x).mp i).1,.inl i⟩)⟩,õ (zl _ _) (by have:=ċ (λx=>if decide (x∈sh)=true then true else decide (x∈ask)) own;rw[<-z]at this;omega)⟩
 have bq:=Me ow (jT rows a);have F6:Fts Z6 n5 1 out (oZ ow (jT rows a)):=by rw[q6,q5,q4];exact c2.grow.grow.grow
 have bf:(oZ ow (jT rows a)).length * Gs.length<=90 * 100:=mul_le_mul (by omega) M.gl;obtain⟨l7,T7,ts,j1,j2,j3,j4⟩:=jn_f (m:=.loc Z1.length) (u6 (L (u3 M.f))) (u6 aR) (.inr ⟨_,rfl,u6 (L aa)⟩) (show sh.length<1000 by have:=ċ (λx=>decide (x∈kn)) own;rw[<-X]at this;omega) (Fts.move (λ_ _ h=>u6 (L (u3 h))) M.F) F6 a6 ba (by omega) (by omega) M.b;obtain⟨Q,U⟩: ∃Q,Q=joinM sh Gs (out.zip (oZ ow (jT rows a))):=⟨_,rfl⟩
 rw[<-U]at j4;have a0:(out.zip (oZ ow (jT rows a))).length<=90:=by rw[Ļ];omega
 have bp:Q.length<=9000:=by have:=QE sh (out.zip (oZ ow (jT rows a))) Gs;have h2:=mul_le_mul M.gl a0;rw[<-U]at this;omega
 obtain⟨ah,ae⟩:=Lz (ask:=λx=>x∈ask) (Ds:=out.zip (oZ ow (jT rows a))) M.I (C.ha a v).1 (C.hw a v) vv s A ag aw (λb w t ht x i ho=>(M.kk x).mpr ⟨jD.mpr ⟨b,w,t,ht,i⟩,.inr (jD.mpr (by obtain⟨t',h1,h2⟩:=(s x).mp ho;exact⟨a,mF0,t',h1,h2⟩))⟩) (Md F6.len);rw[<-U]at ah ae;obtain⟨r,T8,k1,k2⟩:=ZG (n:=3) (F:=qK) (rs:=[#[lf,1],#[(u++T4++T5).length,1],#[Z1.length,1]]) rfl j1 (by omega) j3
 have a3:Ls (Z6++T8) l7 r Q:=by
  rcases k2 with⟨rfl,rfl⟩|⟨rfl,rfl,hlo⟩
  .exact .inl ⟨l7,ts,rfl,j3,j4⟩
  .exact .inr ⟨ts,rfl,j4.cut hlo (by omega)⟩
 obtain⟨E,T9,n9,m1,m2⟩:=QD (q:=#[P.length,1]) a3 (.inr ⟨_,rfl,zD a5⟩) (by omega) af ah (by omega)
 have bc:(oZ kn' Q).length<=100:=by
  refine õ ?_ (õ (Nat.pow_le_pow_right C.v1 a7) C.pw);rw[oZ,lM];refine SQ (SR kn' Q nodup_nil) λk hk=>?_;rcases (uW kn' Q [] k).mp hk with h|⟨K,hK,rfl⟩
  .cases h
  .refine⟨lM _,λd hd=>?_⟩;obtain⟨x,i,rfl⟩:=mM.mp hd;obtain⟨σ,s1,s2⟩:=ae.snd _ (iW.mpr ⟨K,hK,rfl⟩);rw[<-DP (G:=K) i,s2 x i];exact Nk C.hv s1 ((W x).mp i).1
 have p1:zK 1 xX [.new [zO a]] Z=#[own.map MV.str,Z,2]:=ho▸Uy (as:=[a]) (λb w=>by rw[mS.mp w];exact C.ha a v) (by simp);have p3:zK 1 xX [#[rest.map zO,6]] j=#[(yX [] (dB rest)).map MV.str,j,2]:=Zn (.inl rfl) (λb w=>C.ha b (aj b w)) (by omega);have a4:wQ (.new #[hd,8]) (.new ((yX [] (dB rest)).map MV.str)) j=#[ask.map MV.str,j,2]:=by rw[T,ð];exact RO rfl rfl (fits (by have h1:=C.hl;have h2:=DM (dB rest) (ks:=[]) nodup_nil;have h3:=h2.length_le_of_subset (l₂:=ys) λx i=>C.hy x (by rw[qP]at i;rw[jD]at i ⊢; obtain h|⟨b,w,h⟩:=i;cases h;exact⟨b,aj b w,h⟩);simp only[lM];omega))
 have au:fY #[as,9] (some ((done.length:Int)+1)) none=rest.map zO:=by rw[show(done.length:Int)+1=((done.length+1:Nat):Int) by simp,AV,ea,show done++a::rest=(done++[a])++rest by simp,ð,List.drop_left' (by simp)]
 have bg:kn.length+J.length<=14:=by have h1:=M.nd.length_le_of_subset (l₂:=ys) λx i=>C.hy x (by have:=((M.kk x).mp i).1;rw[jD]at this ⊢; obtain⟨b,w,h⟩:=this;exact⟨b,by rw[ea];simp[w],h⟩);have h2:J.length<=own.length:=B▸ċ _ _;omega
 have p6:wQ #[lk,1] #[O.length,1] P=#[(kn++J).map MV.str,P,2]:=by rw[ð];exact RO (UB (by rw[q5];exact D (L (u3 M.k)))) (UB az) (fits (by simp only[lM];omega))
 refine⟨kn',E,oZ kn' Q,n9,P.length,(Z6++T8++T9).length,#[Z.length],#[Z1.length],#[j.length],#[(u++T4++T5).length],#[O.length],Z6++T8++T9++[.lst E],?_,⟨?_,zD (zD (zD a5)),zL _ _,m2.grow,λ_=>rfl,ae,af,W,bc,λG H=>?_⟩⟩
 .unfold yT;apply zE
  .unfold kG;simp? [p1];rw[<-q1]
  apply zE
  .unfold kH;simp? [xA a9,lM,show own.length<1000000 by omega];rw[show vG 1 [5] (MR lr lm #[hd,8] #[as,9] lk lf #[(done.length:Nat),0] (some (zO a)) #[Z.length] d e f g)=[none,#[lk]]from rfl,VX (p:=λx=>decide (x∈kn)) (yI a9) (λx=>by unfold wZ;simp? [uX false (show Z1[lk]? =_ by rw[q1];exact D M.k),fT,iF]) (λ_=>rfl), <-X];simp? [<-q2];rfl
  apply zE
  .unfold kI;simp? [show NU [#[hd.map MV.str,6]] j=#[hd.map MV.str,j,2] from rfl,LN,au,p3,a4];rw[<-q3]
  apply zE
  .unfold kL;simp? [f1,xA (show(u++T4)[Z.length]? =_ from zD b9),lM,show own.length<1000000 by omega];rw[show vG 1 [10,11] (MR lr lm #[hd,8] #[as,9] lk lf #[(done.length:Nat),0] (some (zO a)) #[Z.length] #[Z1.length] #[j.length] f g)=[none,#[Z1.length],#[j.length]]from rfl,VX (p:=λx=>if decide (x∈sh)=true then true else decide (x∈ask)) (yI (zD b9)) (λx=>by unfold kC;simp? [uX false (show(u++T4)[Z1.length]? =_ from zD aa),uX false (show(u++T4)[j.length]? =_ from zD ax),fT,iF];split<;>rfl) (λ_=>rfl), <-z];simp? [c1];rw[<-q4]
  apply zE
  .unfold kM;simp? [xA (L b9),lM,show own.length<1000000 by omega];rw[show vG 1 [10] (MR lr lm #[hd,8] #[as,9] lk lf #[(done.length:Nat),0] (some (zO a)) #[Z.length] #[Z1.length] #[j.length] #[(u++T4++T5).length] g)=[none,#[Z1.length]]from rfl,VX (p:=λx=>!decide (x∈sh)) (yI (L b9)) (λx=>by unfold kD;simp? [uX true (L aa)]) (λ_=>rfl), <-B];simp? [<-q5];rfl
  apply zE
  .unfold kN;simp? [p6,SJ,lM,show(kn++J).length<1000000 by rw[lA];omega];rw[show vG 1 [11] (MR lr lm #[hd,8] #[as,9] lk lf #[(done.length:Nat),0] (some (zO a)) #[Z.length] #[Z1.length] #[j.length] #[(u++T4++T5).length] #[O.length])=[none,#[j.length]]from rfl,VX (p:=λx=>decide (x∈ask)) (nN _) (λx=>by unfold kE;simp? [uX false (show P[j.length]? =_ by rw[q5];exact D (L ax)),fT,iF]) (λ_=>rfl), <-ab];simp? [<-q6];rfl
  unfold kO;simp? [k1,m1]
 .exact⟨_,by rw[q6,q5,q4,q3,q2,q1,aq];simp only[aA];rfl⟩
 .obtain⟨K,hK,rfl⟩:=iW.mp H;exact õ (zl _ _) (by omega)
end
theorem Ep(E:Ev)(k d:MV):(putK E k d).map (·.1)=if k∈E.map (·.1)then E.map (·.1)else E.map (·.1)++[k]:=by
 unfold putK;by_cases h:k∈E.map (·.1)
 .have hs:(look E k).isSome=true:=by
   cases z:look E k with
   |none=>obtain⟨p,a,e⟩:=mM.mp h;exact absurd e (Lq z p a)
   |some d=>rfl
  rw[iP hs,iP h,Ĳ];exact Ė λp _=>by simp only[Function.comp];split<;>rfl
 .rw[iN (λz=>h (PJ z)),iN h,ð];rfl
theorem IW(xs:Ch)(m:MV): ∀(Gs:List Ev)(E:Ev)(P:C8),E.map (·.1)=P.map MV.tup->((Gs.map λG=>(MV.tup (yU xs G),m)).foldl (λa p=>putK a p.1 p.2) E).map (·.1)=(VO xs Gs P).map MV.tup
 |[],_,_,h=>h
 |G::Gs,E,P,h=>IW xs m Gs _ (LY P (yU xs G)) (by
  have:MV.tup (yU xs G)∈P.map MV.tup↔yU xs G∈P:=⟨λz=>by obtain⟨k,b,e⟩:=mM.mp z;exact MV.tup.inj e▸b,λz=>İ z⟩
  show(putK E (.tup (yU xs G)) m).map (·.1)=_;rw[Ep,h];unfold LY;by_cases z:yU xs G∈P
  .rw[iP z,iP (this.mpr z)]
  .rw[iN z,iN λy=>z (this.mp y),ð];rfl)
theorem IX{xs:Ch}{m:MV}: ∀(Gs:List Ev),(∀G∈Gs,Has xs G)->eQ (Gs.map λG=>.tup [.tup (yU xs G),m])=some (Gs.map λG=>(.tup (yU xs G),m))
 |[],_=>rfl
 |G::Gs,h=>by show(if keyOk (.tup (yU xs G))=true then(eQ (Gs.map λG=>.tup [.tup (yU xs G),m])).map ((MV.tup (yU xs G),m)::·)else none)=_;rw[iP (FM (h G mF0).vs),IX Gs λK a=>h K (mO _ a)];rfl
def IY(rows as:List Rw)(hd:Ch)(k:C1):Prop:= ∃σ:List Nat->MV,(∀b∈as,Mt rows b σ)/\k=hd.map σ
section
variable{S:Sto}{lr lm:Nat}{rows as:List Rw}{hd:Ch}{vs:C1}{ys:Ch}
theorem Et(C:MC S lr lm rows as hd vs ys): ∀(rest done:List Rw),as=done++rest-> ∀{kn:Ch}{ws:C1}{Gs:List Ev}{n0:Nat}{mk:Int}{lk lf:Nat}{Z:Sto},MI S rows hd done rest kn ws Gs n0 mk lk lf Z-> ∀p b c d e f g:Option MV,
  ∃kn' k j m mk' h i q o u s w r v n,wF (fZ 2 (zA (zW 7) (zA (zW 8) zY))) yT [] (((rest.map zO).zipIdx done.length).map λp=>.tup [.int (p.2:Nat),p.1]) (MR lr lm #[hd,8] #[as,9] lk lf p b c d e f g) Z=#[MR lr lm #[hd,8] #[as,9] h i q o u s w r v,n,0]/\MI S rows hd as [] kn' k j m mk' h i n
 |[],done,e0,kn,ws,Gs,n0,mk,lk,lf,Z,M,p,b,c,d,e,f,g=>⟨kn,ws,Gs,n0,mk,lk,lf,p,b,c,d,e,f,g,Z,rfl,by rw[aN]at e0;rw[e0];exact M⟩
 |a::rest,done,ea,kn,ws,Gs,n0,mk,lk,lf,Z,M,p,b,c,d,e,f,g=>by obtain⟨_,_,_,_,I,F,H,A,B,E,G,Z1,h1,z⟩:=Mf C ea M c d e f g;obtain⟨kn',k,j,m,mk',h,i,q,o,u,s,w,r,v,n,y,D⟩:=Et C rest (done++[a]) (by rw[ea];simp) z #[(done.length:Nat),0] (some (zO a)) H A B E G;refine⟨kn',k,j,m,mk',h,i,q,o,u,s,w,r,v,n,?_,D⟩;rw[lA]at y;rw[ä,zipIdx_cons,ä,zZ (ρ0:=MR lr lm #[hd,8] #[as,9] lk lf #[(done.length:Nat),0] (some (zO a)) c d e f g) rfl h1 (nN _)];exact y
def ma_f(C:MC S lr lm rows as hd vs ys): ∃(l:Nat)(T:Sto)(y:C8)(kvs:Ev),xP [.loc lr,.loc lm,.tup [.tup #[hd,8],.tup #[as,9]]] S=.ok #[l,1] (S++T)/\↑1<=l/\bT (S++T) #[l,1]=some (l,kvs)/\(S++T)[l]? =#[kvs,7]/\kvs.map (·.1)=y.map MV.tup/\y.Nodup/\ ∀k,k∈y↔IY rows as hd k:=by
 obtain⟨A,n⟩: ∃Y,Y=S++[MO.lst [],.dic [],.lst [.tup [.loc (↑1+1),.int (-1)]]]:=⟨_,rfl⟩
 obtain⟨kn,ws,Gs,n0,mk,lk,lf,p,b,c,d,e,f,g,Z,E,M⟩:=Et C as [] rfl (kn:=[]) (ws:=[.tup [.loc (↑1+1),.int (-1)]]) (Gs:=[[]]) (n0:=0) (mk:= -1) (lk:=↑1) (lf:=↑1+2) (Z:=A) ⟨⟨_,n⟩,by rw[n];exact lQ _ _ _,by rw[n];exact LO (i:=2) rfl,⟨⟨_,rfl,zero_le _,by rw[n];exact LO (i:=1) rfl⟩,trivial⟩,λ_=>rfl,⟨λG a=>by rw[mS.mp a];exact⟨VJ,λx=>⟨λz=>absurd rfl z,λz=>by cases z⟩⟩,λG _=>⟨λ_=>.non,(λb H=>by cases H),λx j=>by cases j⟩,λσ _=>⟨[],mS.mpr rfl,λx j=>by cases j⟩⟩,nodup_nil,λx=>by simp[dB],by simp,λG a=>by rw[mS.mp a];simp⟩ none none none none none none none;obtain⟨T,s⟩:=M.ex;have w: ∀x,x∈kn↔x∈hd:=λx=>by rw[M.kk x];exact⟨λh=>h.2.elim id λz=>by simp[dB]at z,λh=>⟨C.hh x h,.inl h⟩⟩
 have v: ∀G∈Gs,Has hd G:=λG a=>⟨(M.I.dom G a).1,λx j=>((M.I.dom G a).2 x).mpr ((w x).mpr j)⟩
 have m:=M.F.len;have Q:=M.gl
 have P:yE (fZ 2 (zA (zW 0) (zA (zW 1) zY))) xB yM [none,none,#[hd.map MV.str,3]] [(lf,ws)] ws Z=.ok (Gs.map λG=>.tup [.tup (yU hd G),.int mk]) Z:=by
  have:=mI (f:=Prod.fst) (g:=λD:MV×Ev=>.tup [.tup (yU hd D.2),.int mk]) (gf:=fZ 2 (zA (zW 0) (zA (zW 1) zY))) (cf:=xB) (ef:=yM) (ρb:=[none,none,#[hd.map MV.str,3]]) (yI M.f) (ds:=ws.zip Gs) λD B=>by obtain⟨h1,e,u,K⟩:=MA M.F D B;refine⟨[#[e],#[mk,0],#[hd.map MV.str,3]],by rw[u];rfl,rfl,?_⟩;have N:zK 2 yH [#[e,1],#[hd.map MV.str,6]] Z=.ok #[yU hd D.2,6] Z:=VL K (v _ h1).1 (.inl rfl) (v _ h1).2 (by have:=C.hl;omega);unfold yM;simp? [N]
  rw[List.map_fst_zip (le_of_eq m)]at this;rw[this,show(ws.zip Gs).map (λD=>MV.tup [.tup (yU hd D.2),.int mk])=((ws.zip Gs).map Prod.snd).map λG=>MV.tup [.tup (yU hd G),.int mk] by rw[Ĳ];rfl,List.map_snd_zip (le_of_eq m.symm)]
 obtain⟨kvs,r⟩: ∃kvs,kvs=OS (Gs.map λG=>(MV.tup (yU hd G),MV.int mk)):=⟨_,rfl⟩
 have o:kvs.map (·.1)=(VO hd Gs []).map MV.tup:=by rw[r];exact IW hd _ Gs [] [] rfl
 refine⟨Z.length,T++[.dic kvs],VO hd Gs [],kvs,?_,by rw[s,lA];omega,?_,by rw[<-aA, <-s];exact zL _ _,o,SR hd Gs nodup_nil,λk=>?_⟩
 .show yD (kY [#[lr],#[lm],#[[.tup #[hd,8],.tup #[as,9]],3],none,none,none,none,none,none,none,none,none,none,none] S)=_;unfold kY;rw[zC (show gI _ S=#[[#[lr],#[lm],#[[.tup #[hd,8],.tup #[as,9]],3],#[hd.map MV.str,3],none,none,none,none,none,none,none,none,none,none],S,0] from rfl),zC (show gM _ S=#[[#[lr],#[lm],#[[.tup #[hd,8],.tup #[as,9]],3],#[hd.map MV.str,3],#[as.map zO,3],none,none,none,none,none,none,none,none,none],S,0] from rfl)];rw[zC (show xY [#[lr],#[lm],#[[.tup #[hd,8],.tup #[as,9]],3],#[hd.map MV.str,3],#[as.map zO,3],none,none,none,none,none,none,none,none,none] S=#[[#[lr],#[lm],#[[.tup #[hd,8],.tup #[as,9]],3],#[hd.map MV.str,3],#[as.map zO,3],#[↑1],none,none,none,none,none,none,none,none],S++[.lst []],0] by unfold xY;simp? [jG])];rw[zC (show xZ [#[lr],#[lm],#[[.tup #[hd,8],.tup #[as,9]],3],#[hd.map MV.str,3],#[as.map zO,3],#[↑1],none,none,none,none,none,none,none,none] (S++[.lst []])=#[MR lr lm #[hd,8] #[as,9] ↑1 (↑1+2) none none none none none none none,A,0] by unfold xZ;simp? [EK];rw[n];simp)];rw[zC (show wA (MR lr lm #[hd,8] #[as,9] ↑1 (↑1+2) none none none none none none none) A=#[MR lr lm #[hd,8] #[as,9] lk lf p b c d e f g,Z,0] by unfold wA;simp? [Lh];exact E)];unfold gN;simp? [xA M.f,show ws.length<1000000 by omega];rw[show vG 2 [3] (MR lr lm #[hd,8] #[as,9] lk lf p b c d e f g)=[none,none,#[hd.map MV.str,3]]from rfl,P];simp? [show IL [.new (Gs.map λG=>.tup [.tup (yU hd G),.int mk])] Z=.ok #[Z.length,1] (Z++[.dic kvs]) by unfold IL;dsimp only;rw[show(jL Z (.new (Gs.map λG=>.tup [.tup (yU hd G),.int mk]))).bind eQ=eQ (Gs.map λG=>.tup [.tup (yU hd G),.int mk])from rfl,IX Gs v,r]];rw[s,aA];rfl
 .rw[<-aA, <-s];unfold bT;dsimp only;rw[zL];dsimp only;rw[iP];rw[ą];intro q L;have:q.1∈kvs.map (·.1):=İ L;rw[o]at this;obtain⟨k,_,e⟩:=mM.mp this;rw[<-e];rfl
 .rw[uW];constructor
  .rintro(h|⟨G,a,rfl⟩)
   .cases h
   .obtain⟨σ,O,J⟩:=M.I.snd G a;exact⟨σ,O,Ė λx j=>J x ((w x).mpr j)⟩
  .rintro⟨σ,h1,rfl⟩;obtain⟨G,a,u⟩:=M.I.cmp σ h1;exact .inr ⟨G,a,Ė λx j=>(u x ((w x).mpr j)).symm⟩
def tH(Q:QC rows as hd vs ys){k:C1}(h:IY rows as hd k):k.length=hd.length/\ ∀d∈k,d∈vs:=by obtain⟨σ,h1,rfl⟩:=h;refine⟨lM _,λd hd=>?_⟩;obtain⟨x,a,rfl⟩:=mM.mp hd;exact Nk Q.hv h1 (Q.hh x a)
theorem Nl(Q:QC rows as hd vs ys)(b:S[lr]? =#[rows.map zO,2]): ∃(a:C8)(T:Sto),a.Nodup/\(∀k,k∈a↔IY rows as hd k)/\wM [.loc lr,.tup [.tup #[hd,8],.tup #[as,9]]] S=#[(bS a).map MV.tup,S++T,2]:=by
 obtain⟨l,T,a,kvs,h1,m,p,u,w,h,i⟩:=ma_f (S:=S++[.lst (rows.map λ_=>.int 1)]) (lr:=lr) (lm:=↑1) ⟨Q,zD b,zL _ _⟩;have s:=Q.rl;have e: ∀k∈a,k.length=hd.length/\ ∀d∈k,d∈vs:=λk q=>tH Q ((i k).mp q);have o:yE (zW 0) iZ lB [none] [(lr,rows.map zO)] #[rows,9] S=.ok (rows.map λ_=>.int 1) S:=mI (yI b) λr _=>⟨[some (zO r)],rfl,rfl,rfl⟩
 have j:zK 3 xP [#[lr,1],.new (rows.map λ_=>.int 1),#[[.tup #[hd,8],.tup #[as,9]],6]] S=.ok #[l,1] (S++[.lst (rows.map λ_=>.int 1)]++T):=ZF rfl h1 (by rw[lA]at m;omega) u;have n:AN [#[l,1]] (S++[.lst (rows.map λ_=>.int 1)]++T)=#[a.map MV.tup,S++[.lst (rows.map λ_=>.int 1)]++T,2]:=by unfold AN;dsimp only;rw[p];dsimp only;rw[w]
 have v:=Mc (λt c d hd=>Q.vv d ((e t c).2 d hd)) (λt c=>(e t c).1) (by have:=Q.hl;omega) h (ŉ (SQ h e) Q.ph) (S++[.lst (rows.map λ_=>.int 1)]++T);refine⟨a,[.lst (rows.map λ_=>.int 1)]++T,h,i,?_⟩;show yD (rF [#[lr],#[[.tup #[hd,8],.tup #[as,9]],3]] S)=_;unfold rF qL;simp? [xA b,lM,show rows.length<1000000 by omega];rw[show vG 1 [] [some (MV.loc lr),#[[.tup #[hd,8],.tup #[as,9]],3]]=[none]from rfl,o];simp? [j,n,v];rw[aA];rfl
end
theorem Mg{l:Nat}{ds:C1}(a:S[l]? =#[ds,2]):vW [#[l,1],.val (.typ "list")] S=#[.bl true,S,1]:=by unfold vW EF;dsimp only;rw[lY a];rfl
def QC.of{rows' as:List Rw}{hd:Ch}{vs:C1}(Q:QC rows as hd vs ys)(h: ∀r,r∈rows'↔r∈rows)(c:rows'.length<=90):QC rows' as hd vs ys:=
 ⟨λr a=>Q.hv r ((h r).mp a),Q.vv,Q.v1,c,Q.ha,λb d r a=>Q.hw b d r ((h r).mp a),Q.al,Q.hh,Q.hl,Q.hy,Q.yl,Q.pw,Q.ph⟩
section
variable{rows rows' as:List Rw}{hd:Ch}{vs:C1}{ys:Ch}{F:C8}
def an_f(Q:QC rows as hd vs ys)(m:F.Nodup)(b: ∀k,k∈F↔IY rows as hd k)(h: ∀r,r∈rows'↔r∈rows)(c:rows'.length<=90)(e:S[lr]? =#[rows'.map zO,2]): ∃T,wM [.loc lr,.tup [.tup #[hd,8],.tup #[as,9]]] S=#[(bS F).map MV.tup,S++T,2]:=by obtain⟨a,T,h1,i,j⟩:=Nl (Q.of h c) e;refine⟨T,?_⟩;rw[j, <-IV (T:=F) (R:=bS a) (λt n d hd=>Q.vv d ((tH Q ((b t).mp n)).2 d hd)) ((xQ a).trans ((List.perm_ext_iff_of_nodup h1 m).mpr λk=>by rw[i,b];unfold IY Mt;simp only[h])) (ME a)]
def Eu(Q:QC rows as hd vs ys)(c: ∀k,k∈F↔IY rows as hd k):(∀t∈bS F, ∀d∈t,VS d)/\ ∀n,rY n ((bS F).map MV.tup):=by have b: ∀t∈bS F, ∀d∈t,VS d:=λt a d hd=>Q.vv d ((tH Q ((c t).mp ((xQ F).mem_iff.mp a))).2 d hd);exact⟨b,λn=>gV λd hd=>by obtain⟨t,a,rfl⟩:=mM.mp hd;exact fS (fV (b t a)).1⟩
def Vf(Q:QC rows as hd vs ys)(c:F.Nodup)(a: ∀k,k∈F↔IY rows as hd k)(b:S[lr]? =#[rows.map zO,2]):zK 2 wM [#[lr,1],#[[.tup #[hd,8],.tup #[as,9]],6]] S=#[(bS F).map MV.tup,S,2]:=
 let ⟨_,h⟩:=an_f Q c a (λ_=>Iff.rfl) Q.rl b;tY rfl h ((Eu Q a).2 _)
end
def qT(hd:Ch)(f:List Nat->MV)(t:MV):MV:=match vn t with
 |some x=>if x∈hd then .tup [.str IS,f x]else t
 |none=>t
def pR(hd:Ch)(f:List Nat->MV)(a:Rw):Rw:=(a.1,a.2.map (qT hd f))
noncomputable def Mh(hd:Ch)(f σ:List Nat->MV)(x:Db):MV:=if x∈hd then f x else σ x
def uY(hd:Ch)(f:List Nat->MV)(x:Db):qT hd f (.tup [.str vK,.str x])=if x∈hd then .tup [.str IS,f x]else .tup [.str vK,.str x]:=by unfold qT;rw[AU]
def FP(hd:Ch)(f:List Nat->MV)(v:MV):qT hd f (.tup [.str IS,v])=.tup [.str IS,v]:=by unfold qT;rw[BR]
def Mi{hd:Ch}{f:List Nat->MV}{t:MV}(h:jS t):QN σ (qT hd f t)=QN (Mh hd f σ) t:=by
 rcases h with⟨x,rfl⟩|⟨v,_,rfl⟩
 .rw[uY,uU];unfold Mh;by_cases c:x∈hd
  .rw[iP c,iP c,FN]
  .rw[iN c,iN c,uU]
 .rw[FP,FN,FN]
def Ew{hd:Ch}{f:List Nat->MV}{a:Rw}(h: ∀t∈a.2,jS t):Mt rows (pR hd f a) σ↔Mt rows a (Mh hd f σ):=by unfold Mt pR;rw[Ĳ,Ė λt b=>show(QN σ∘qT hd f) t=QN (Mh hd f σ) t from Mi (h t b)]
section
variable{rows as:List Rw}{hd:Ch}{vs:C1}{ys:Ch}{f:List Nat->MV}
def Mj(Q:QC rows as hd vs ys){k:C1}:IY rows (as.map (pR hd f)) [] k↔k=[]/\IY rows as hd (hd.map f):=by
 have e: ∀σ,(∀b∈as.map (pR hd f),Mt rows b σ)↔ ∀b∈as,Mt rows b (Mh hd f σ):=λσ=>by
  constructor
  .exact λh b d=>(Ew (Q.ha b d).1).mp (h _ (İ d))
  .intro h b d;obtain⟨a,j,rfl⟩:=mM.mp d;exact(Ew (Q.ha a j).1).mpr (h a j)
 constructor
 .rintro⟨σ,h1,i⟩;exact⟨i,Mh hd f σ,(e σ).mp h1,Ė λx m=>by unfold Mh;rw[iP m]⟩
 .rintro⟨rfl,τ,h1,i⟩
  have:Mh hd f τ=τ:=funext λx=>by
   unfold Mh;by_cases c:x∈hd
   .rw[iP c];exact List.map_inj_left.mp i x c
   .rw[iN c]
  exact⟨τ,(e τ).mpr (by rw[this];exact h1),rfl⟩
def Vg(Q:QC rows as hd vs ys)(o: ∀x∈hd,f x∈vs):QC rows (as.map (pR hd f)) [] vs ys:=by
 refine⟨Q.hv,Q.vv,Q.v1,Q.rl,λb i=>?_,λb i r m e=>?_,by rw[lM];exact Q.al,λx j=>(nomatch j),zero_le _,λx j=>?_,Q.yl,Q.pw,by rw[ú,Nat.pow_zero];decide⟩
 .obtain⟨a,h,rfl⟩:=mM.mp i;obtain⟨h1,n⟩:=Q.ha a h;refine⟨λd hd=>?_,by show(a.2.map _).length<=4;rw[lM];exact n⟩;obtain⟨t,k,rfl⟩:=mM.mp hd;rcases h1 t k with⟨x,rfl⟩|⟨v,hv,rfl⟩
  .rw[uY];split
   .rename_i c;exact .inr ⟨_,Q.vv _ (o x c),rfl⟩
   .exact .inl ⟨x,rfl⟩
  .rw[FP];exact .inr ⟨v,hv,rfl⟩
 .obtain⟨a,h,rfl⟩:=mM.mp i;show(a.2.map _).length=_;rw[lM];exact Q.hw a h r m e
 .obtain⟨b,i,t,k,e⟩:=jD.mp j;obtain⟨a,h,rfl⟩:=mM.mp i;obtain⟨s,hs,rfl⟩:=mM.mp k;rcases (Q.ha a h).1 s hs with⟨y,rfl⟩|⟨v,_,rfl⟩
  .rw[uY]at e;split at e
   .rw[BR]at e;cases e
   .exact Q.hy x (jD.mpr ⟨a,h,_,hs,e⟩)
  .rw[FP,BR]at e;cases e
end
noncomputable abbrev Pu(la:Nat)(H K:C1)(a lf:Nat)(t u p w n:C4):Rho:=[#[la],#[H,3],#[K,3],#[a],#[lf],t,u,p,w,n]
def Ex(S:Sto):vU (.val (.str vK)) (.val (.str [118,97,114])) S=#[.bl true,S,1]:=EH (uA _ _ _)
def Mk(S:Sto):vU (.val (.str IS)) (.val (.str [118,97,114])) S=#[.bl false,S,1]:=EH (uA _ _ _)
section
variable{hd:Ch}{f:List Nat->MV}
def VY(c: ∀x∈hd,VS (f x)):tG (yQ hd (hd.map f)):=λp a=>by obtain⟨x,b,rfl⟩:=MD a;exact⟨⟨x,rfl⟩,c x b⟩
theorem Ey(k: ∀x∈hd,VS (f x)){la b lf:Nat}{H K:C1}{t u:C4}{B:Sto}(p:B[b]? =#[yQ hd (hd.map f),7]): ∀(ts a:C1)(w n:C4),(∀d∈ts,jS d)->a.length+ts.length<1000->
  ∃m o,wF (fZ 2 (zA (zW 8) (zA (zW 9) zY))) jC [] ts (Pu la H K b lf t u #[B.length] w n) (B++[.lst a])=#[Pu la H K b lf t u #[B.length] m o,B++[.lst (a++ts.map (qT hd f))],0]
 |[],a,w,n,_,_=>⟨w,n,by rw[List.map_nil,aN];rfl⟩
 |d::ts,a,w,n,h,hl=>by
  rw[lC]at hl;have g:=zL B (.lst a);have q: ∀e,eF #[B.length,1] [.val e] (B++[.lst a])=#[.non,B++[.lst (a++[e])],1]:=λe=>by rw[wC g (by omega)];simp
  have step: ∃j i,fZ 2 (zA (zW 8) (zA (zW 9) zY)) d (Pu la H K b lf t u #[B.length] w n) (B++[.lst a])=.ok (Pu la H K b lf t u #[B.length] (some j) (some i)) (B++[.lst a])/\jC (Pu la H K b lf t u #[B.length] (some j) (some i)) (B++[.lst a])=#[Pu la H K b lf t u #[B.length] (some j) (some i),B++[.lst (a++[qT hd f d])],0]:=by
   rcases h d (.head _)with⟨x,rfl⟩|⟨v,_,rfl⟩
   .refine⟨.str vK,.str x,rfl,?_⟩;have i1:=Uw (zD (L:=[.lst a]) p) (VY k) x;rw[mN]at i1;unfold jC bO;rw[uY];by_cases c:x∈hd
    .rw[iP c]at i1;simp? [Ex,i1,Option.isSome_some,Ea (zD (L:=[.lst a]) p) (VY k) (by rw[mN,iP c]),tup2,yN g,q,iP c]
    .rw[iN c]at i1;simp? [Ex,i1,Option.isSome_none,tup2,yN g,q,iN c];rfl
   .refine⟨.str IS,v,rfl,?_⟩;unfold jC bO;rw[FP];simp? [Mk,fT,iF,tup2,yN g,q]
  obtain⟨j,i,s,y⟩:=step;obtain⟨m,o,e⟩:=Ey k p ts (a++[qT hd f d]) (some j) (some i) (λe r=>h e (.tail _ r)) (by rw[lA];simp;omega);refine⟨m,o,?_⟩;rw[zZ s y (nN _),e,aA];rfl
theorem VZ(z: ∀x∈hd,VS (f x)){la:Nat}{H K:C1}{B:Sto}{A:C1}(j:B[la]? =#[A,2])(C:B[B.length - 1]? =#[yQ hd (hd.map f),7]): ∀(as a:List Rw)(T:Sto)(t u p w n:C4),(∀b∈as,(∀d∈b.2,jS d)/\b.2.length<=4)->a.length+as.length<1000->
  ∃v t' o q k m,wF (fZ 2 (zA (zW 5) (zA (zW 6) zY))) aM [(la,A)] #[as,9] (Pu la H K (B.length - 1) B.length t u p w n) (B++.lst #[a,9]::T)=#[Pu la H K (B.length - 1) B.length t' o q k m,(B++.lst ((a++as.map (pR hd f)).map zO)::v),0]
 |[],a,T,t,u,p,w,n,_,_=>⟨T,t,u,p,w,n,by rw[List.map_nil,List.map_nil,aN];rfl⟩
 |b::as,a,T,t,u,p,w,n,h,hl=>by
  rw[lC]at hl;obtain⟨G,E⟩:=h b (.head _);generalize i:B++.lst #[a,9]::T=B2;have r:B2[B.length - 1]? =#[yQ hd (hd.map f),7]:=by rw[<-i];exact zD C
  obtain⟨k,m,e⟩:=Ey z (la:=la) (lf:=B.length) (H:=H) (K:=K) (t:=#[b.1,0]) (u:=#[b.2,3]) r b.2 [] w n G (by simp;omega);rw[Ĝ]at e;have gf:(B2++[MO.lst (b.2.map (qT hd f))])[B.length]? =#[a.map zO,2]:=by rw[<-i];exact zD (lQ _ _ _)
  have I:eF #[B.length,1] [.val (zO (pR hd f b))] (B2++[MO.lst (b.2.map (qT hd f))])=#[.non,(B++.lst ((a++[pR hd f b]).map zO)::(T++[MO.lst (b.2.map (qT hd f))])),1]:=by rw[wC gf (by rw[lM];omega), <-i,aA,Į,VA,ð];rfl
  obtain⟨v,t',o,q,y,s,D⟩:=VZ z j C as (a++[pR hd f b]) (T++[MO.lst (b.2.map (qT hd f))]) #[b.1,0] #[b.2,3] #[B2.length] k m (λc F=>h c (.tail _ F)) (by rw[lA];simp;omega);refine⟨v,t',o,q,y,s,?_⟩;rw[ä,zZ (b:=aM) (ρ0:=Pu la H K (B.length - 1) B.length #[b.1,0] #[b.2,3] p w n) rfl (zE (ρ':=Pu la H K (B.length - 1) B.length #[b.1,0] #[b.2,3] #[B2.length] w n) (S':=B2++[.lst []]) ?_ (zE (ρ':=Pu la H K (B.length - 1) B.length #[b.1,0] #[b.2,3] #[B2.length] k m) (S':=B2++[.lst (b.2.map (qT hd f))]) ?_ ?_)) (yI (zD j)),D,aA]
  .rfl
  .unfold fH;simp? [OA]
  .unfold fI;simp? [FE];exact e
  .unfold fM;simp? [yN gf,rH (zL B2 (.lst (b.2.map (qT hd f)))),tup2,show MV.tup [.int b.1,.tup (b.2.map (qT hd f))]=zO (pR hd f b)from rfl,I]
theorem Vh{as:List Rw}(D:hd.Nodup)(r: ∀x∈hd,VS (f x)){la:Nat}(j:S[la]? =#[as.map zO,2])(s: ∀b∈as,(∀d∈b.2,jS d)/\b.2.length<=4)(z:as.length<=10):
  zK 3 oS [#[la,1],#[hd.map MV.str,6],#[hd.map f,6]] S=.ok #[[.tup [],.tup ((as.map (pR hd f)).map zO)],6] S:=by
 have o:(S++[MO.dic (yQ hd (hd.map f))]).length=↑1+1:=by simp
 obtain⟨T,t,u,p,w,n,e⟩:=VZ r (H:=hd.map MV.str) (K:=hd.map f) (B:=S++[.dic (yQ hd (hd.map f))]) (zD j) (by rw[o];exact zL _ _) as [] [] none none none none none s (by simp;omega);rw[o,add_sub_cancel,Ĝ]at e
 have A: ∀b∈as.map (pR hd f),pd (zO b)=true:=λb q=>by
  obtain⟨a,h1,rfl⟩:=mM.mp q;unfold zO pR;rw[yW,yC,yC,AT,yW,cZ,Bool.and_true,Bool.true_and]
  exact bQ λd h=>by
   obtain⟨t,C,rfl⟩:=mM.mp h;rcases (s a h1).1 t C with⟨x,rfl⟩|⟨v,hv,rfl⟩
   .rw[uY];split
    .rename_i c;rcases r x c with⟨i,e⟩|⟨y,e⟩<;>rw[e]<;>rfl
    .rfl
   .rw[FP];rcases hv with⟨i,rfl⟩|⟨y,rfl⟩<;>rfl
 refine EG (T:=.dic (yQ hd (hd.map f))::.lst ((as.map (pR hd f)).map zO)::T) rfl ?_ (fS (by rw[yW,yC,yC,yW,yW,cZ,Bool.and_true,Bool.true_and];exact bQ λd h=>by obtain⟨b,q,rfl⟩:=mM.mp h;exact A b q)) (λl=>by simp);show yD (oR [#[la],#[hd.map MV.str,3],#[hd.map f,3],none,none,none,none,none,none,none] S)=_;unfold oR;refine nI (zE (ρ':=[#[la],#[hd.map MV.str,3],#[hd.map f,3],#[↑1],none,none,none,none,none,none]) (S':=S++[.dic (yQ hd (hd.map f))]) ?_ (zE (ρ':=Pu la #[hd,8] (hd.map f) ↑1 (↑1+1) none none none none none) (S':=S++[.dic (yQ hd (hd.map f))]++[.lst []]) ?_ (zE (ρ':=Pu la #[hd,8] (hd.map f) ↑1 (↑1+1) t u p w n) (S':=S++[.dic (yQ hd (hd.map f))]++.lst ((as.map (pR hd f)).map zO)::T) ?_ ?_)))
 .unfold oN;simp? [Ni (Z:=S) (m:=.tup #[hd,8]) (xs:=hd) (k:=hd.map f) (.inl rfl) D]
 .unfold oO;simp? [OA];rw[o]
 .unfold oP;simp? [xA (zD (L:=[.lst []]) (zD (L:=[.dic (yQ hd (hd.map f))]) j))];exact e
 .have g:(S++[.dic (yQ hd (hd.map f))]++.lst ((as.map (pR hd f)).map zO)::T)[↑1+1]? =#[(as.map (pR hd f)).map zO,2]:=by rw[<-o];exact lQ _ _ _
  unfold oQ;simp? [rH g,show∀S,xR [] S=.ok #[[],6] S from λS=>rfl,tup2];rw[aA];rfl
end
noncomputable def qU(vs:C1):Nat->List (List MV)
 |0=>[[]]
 |n+1=>(qU vs n).flatMap λs=>vs.map λv=>s++[v]
theorem pC{vs:C1}: ∀{n:Nat}{k:C1},k∈qU vs n↔k.length=n/\ ∀d∈k,d∈vs
 |0,k=>by
  unfold qU;rw[mS];constructor
  .rintro rfl;exact⟨rfl,λd h=>(nomatch h)⟩
  .exact λh=>Ń.mp h.1
 |n+1,k=>by
  unfold qU;rw[mem_flatMap];constructor
  .rintro⟨s,hs,e⟩;obtain⟨v,c,rfl⟩:=mM.mp e;obtain⟨h1,b⟩:=pC.mp hs;refine⟨by simp[h1],λd hd=>?_⟩;rcases é.mp hd with hd|hd
   .exact b d hd
   .rw[mS.mp hd];exact c
  .rintro⟨h1,b⟩;have a:k≠[]:=λz=>by rw[z]at h1;cases h1
   refine⟨k.dropLast,pC.mpr ⟨by rw[List.length_dropLast,h1];rfl,λd hd=>b d ((List.dropLast_sublist k).subset hd)⟩,mM.mpr ⟨k.getLast a,b _ (List.getLast_mem a),List.dropLast_concat_getLast a⟩⟩
theorem WA{vs:C1}(h:vs.length<=4): ∀n,(qU vs n).length<=4 ^ n
 |0=>à 1
 |n+1=>by
  have a:=WA h n
  have: ∀l:List (List MV),(l.flatMap λs=>vs.map λv=>s++[v]).length<=4 * l.length:=λl=>by
   induction l with
   |nil=>simp
   |cons s l a=>rw[flatMap_cons,lA,lM,lC];omega
  have:=this (qU vs n);unfold qU;rw[Nat.pow_succ];omega
noncomputable abbrev AL(lp:Nat)(n:Int)(lf:Nat)(k m s:C4):Rho:=[#[lp],#[n,0],#[lf],k,m,s]
section
variable{vs:C1}{lp:Nat}
theorem Ez(i:vs.length<=4){n:Int}{lf:Nat}{W:C1}{k:C4}{Z:Sto}(h:Z[lp]? =#[vs,2])(d:Z[lf]? =#[W,2]): ∀(b a:C8)(s:C4),(∀t∈b,t.length<=10)->a.length+4 * b.length<=1000->
  ∃s',wF (zW 5) aO [(lf,W)] (b.map .tup) (AL lp n lf k #[Z.length] s) (Z++[.lst (a.map .tup)])=#[AL lp n lf k #[Z.length] s',Z++[.lst ((a++b.flatMap λs=>vs.map λv=>s++[v]).map .tup)],0]
 |[],a,s,_,_=>⟨s,by rw[List.flatMap_nil,aN];rfl⟩
 |t::b,a,s,ht,hl=>by
  rw[lC]at hl;have m:=ht t (.head _);have g:=zL Z (.lst (a.map MV.tup));have c:=zD (L:=[.lst (a.map MV.tup)]) h
  have o:yE (zW 0) bP kS [none,#[t,3]] [(lp,vs)] vs (Z++[.lst (a.map .tup)])=.ok ((vs.map λv=>t++[v]).map .tup) (Z++[.lst (a.map .tup)]):=by
   have:=mI (f:=id) (g:=λv=>MV.tup (t++[v])) (gf:=zW 0) (cf:=bP) (ef:=kS) (ρb:=[none,#[t,3]]) (yI c) (ds:=vs) λv _=>by refine⟨[some v,#[t,3]],rfl,rfl,?_⟩;unfold kS;simp? [show∀T,xR [.val v] T=.ok #[[v],6] T from λT=>KB (by simp),TX (x:=t) (y:=[v]) (fits (by simp;omega))]
   rw[List.map_id]at this;rw[this,Ĳ];rfl
  obtain⟨s',e⟩:=Ez i h d b (a++vs.map λv=>t++[v]) #[t,3] (λu j=>ht u (.tail _ j)) (by rw[lA,lM];omega);refine⟨s',?_⟩;rw[ä,zZ (ρ0:=AL lp n lf k #[Z.length] #[t,3]) (ρ':=AL lp n lf k #[Z.length] #[t,3]) (S':=Z++[.lst ((a++vs.map λv=>t++[v]).map .tup)]) rfl ?_ (yI (zD d)),e,flatMap_cons,aA];unfold aO fN;simp? [yN g,xA c,show vs.length<1000000 by omega,show vG 1 [5] (AL lp n lf k #[Z.length] #[t,3])=[none,#[t,3]]from rfl,o,Li g (show(a.map MV.tup).length+((vs.map λv=>t++[v]).map MV.tup).length<=1000000 by rw[lM,lM,lM];omega)];rw[ð];simp
def Vi(r: ∀d∈vs,VS d)(p:vs.length<=4){n:Nat}(v:n<=3)(u:S[lp]? =#[vs,2]):zK 2 oY [#[lp,1],#[(n:Int),5]] S=#[(qU vs n).map .tup,S,2]:=by
 have c: ∀i,i<=3->(qU vs i).length<=64:=λi hi=>õ (WA p i) (õ (Nat.pow_le_pow_right (by decide) hi) (by decide))
 obtain⟨_,Z,e,lf,T,k,m,s,rfl,rfl,o,a⟩:=aQ (gf:=zW 3) (body:=aP) (n:=n) (λi ρ Z=> ∃(lf:Nat)(T:Sto)(k m s:C4),ρ=AL lp n lf k m s/\Z=S++T/\↑1<=lf/\Z[lf]? =#[(qU vs i).map .tup,2]) ((List.range n).map nH) 0 (by simp) ⟨↑1,[.lst [.tup []]],none,none,none,rfl,rfl,à _,zL _ _⟩ λd _ i hi ρ Z ⟨lf,T,k,m,s,q,h,o,a⟩=>by
  subst q;have b:Z[lp]? =#[vs,2]:=by rw[h];exact zD u
  have:=c i (by omega);obtain⟨s',e⟩:=Ez (n:=n) (k:=some d) p b a (qU vs i) [] s (λt j=>by rw[(pC.mp j).1];omega) (by simp;omega);refine⟨AL lp n lf (some d) m s,AL lp n Z.length (some d) #[Z.length] s',Z++[.lst ((qU vs (i+1)).map .tup)],rfl,?_,Z.length,T++[.lst ((qU vs (i+1)).map .tup)],some d,#[Z.length],s',rfl,by rw[h,aA],by rw[h,lA];omega,zL _ _⟩;unfold aP;refine zE (ρ':=AL lp n lf (some d) #[Z.length] s) (S':=Z++[.lst []]) ?_ (zE (ρ':=AL lp n lf (some d) #[Z.length] s') (S':=Z++[.lst ((qU vs (i+1)).map .tup)]) ?_ ?_)
  .unfold fO;simp? [OA]
  .unfold fP;simp? [xA (zD (L:=[.lst []]) a)];exact e
  .unfold fQ;simp? [jG]
 rw[lM,Ē,Ă]at a;refine tZ rfl ?_ o a (gV λd hd=>?_)
 .show yD (oX [#[lp],#[n,0],none,none,none,none] S)=_;unfold oX;refine nI (zE (ρ':=AL lp n ↑1 none none none) (S':=S++[.lst [.tup []]]) ?_ (zE (ρ':=AL lp n lf k m s) (S':=S++T) ?_ ?_))
  .unfold oU;simp? [show∀S,xR [] S=.ok #[[],6] S from λS=>rfl,lst1]
  .unfold oV;simp? [Do (n:=n) (by omega)];exact e
  .unfold oW;simp? [jG]
 .obtain⟨t,j,rfl⟩:=mM.mp hd;exact fS (fV λd hd=>r d ((pC.mp j).2 d hd)).1
end
noncomputable def fW(j:Nat)(k:List α):List α:=k.take j++k.drop (j+1)
def MF{β:Type}(f:α->β)(j:Nat)(k:List α):(fW j k).map f=fW j (k.map f):=by unfold fW;rw[ð,List.map_take,map_drop]
def MG{k:List α}{x:α}(h:x∈fW j k):x∈k:=by
 rcases é.mp h with h|h
 .exact mem_of_mem_take h
 .exact List.mem_of_mem_drop h
def MH{k:List α}(h:j<k.length):(fW j k).length=k.length - 1:=by unfold fW;rw[lA,lT,þ];omega
theorem WB(ds:C1)(j:Nat)(h:ds.length<=1000)(S:Sto):wQ #[fY ds none (some (j:Int)),6] #[fY ds (some ((j:Int)+1)) none,6] S=.ok #[fW j ds,6] S:=by rw[YX,show(j:Int)+1=((j+1:Nat):Int) by omega,AV,TX (fits (by rw[lT,þ];omega))];rfl
noncomputable abbrev Ml(lt:Nat)(j:Int)(lf:Nat)(a s:C4):Rho:=[#[lt],#[j,0],#[lf],a,s]
theorem WC{lt j:Nat}{W:C1}{B:Sto}(p:B[lt]? =#[W,2]): ∀(ks F:C8)(a s:C4),F.Nodup->(∀k∈ks, ∀d∈k,VS d)->(∀k∈F, ∀d∈k,VS d)->(∀k∈ks,k.length<=10)->F.length+ks.length<1000->
  ∃(i:C8)(n s':C4),wF (zW 3) jR [(lt,W)] (ks.map .tup) (Ml lt j B.length a s) (B++[.lst (F.map .tup)])=#[Ml lt j B.length n s',B++[.lst (i.map .tup)],0]/\i.Nodup/\ ∀q,q∈i↔q∈F\/ ∃k∈ks,q=fW j k
 |[],F,a,s,nd,_,_,_,_=>⟨F,a,s,rfl,nd,λq=>by simp⟩
 |k::ks,F,a,s,nd,hv,hF,h10,hl=>by
  rw[lC]at hl;have u:=hv k (.head _);have hd: ∀d∈fW j k,VS d:=λd hd=>u d (MG hd);have g:=zL B (.lst (F.map MV.tup));have hi:CT true #[fW j k,6] #[B.length,1] (B++[.lst (F.map .tup)])=#[.bl (!decide (fW j k∈F)),B++[.lst (F.map .tup)],1]:=by rw[iV true g (fV hd).1 (λy m=>by obtain⟨t,o,rfl⟩:=mM.mp m;have:=fV (hF t o);exact⟨this.1,by omega⟩),iP rfl,dec_is (show _↔fW j k∈F from⟨λz=>by obtain⟨t,o,e⟩:=mM.mp z;exact MV.tup.inj e▸o,λz=>İ z⟩)]
  obtain⟨b,h1,r,A,E,w⟩: ∃b:List (List MV),jR (Ml lt j B.length #[k,3] s) (B++[.lst (F.map .tup)])=#[Ml lt j B.length #[k,3] #[fW j k,3],B++[.lst (b.map .tup)],0]/\b.Nodup/\(∀k∈b, ∀d∈k,VS d)/\b.length<=F.length+1/\ ∀q,q∈b↔q∈F\/q=fW j k:=by
   unfold jR;rw[zC (show gG (Ml lt j B.length #[k,3] s) (B++[.lst (F.map .tup)])=#[Ml lt j B.length #[k,3] #[fW j k,3],B++[.lst (F.map .tup)],0] by unfold gG;simp? [LN,WB k j (by have:=h10 k (.head _);omega)])];unfold nF;by_cases z:fW j k∈F
   .refine⟨F,?_,nd,hF,by omega,λq=>⟨.inl,λy=>y.elim id λy=>y▸z⟩⟩;simp? [hi,dT0 z,Ņ,fT,iF]
   .refine⟨F++[fW j k],?_,ĥ.mpr ⟨nd,by simp,λx D y m e=>z (by rw[mS.mp m]at e;exact e▸D)⟩,λq c=>?_,by simp,λq=>by rw[é,mS]⟩
    .simp? [hi,dF0 z,Bool.not_false,yN g,wC g (show(F.map MV.tup).length<1000000 by rw[lM];omega)];rw[ð];simp
    .rcases é.mp c with h|h
     .exact hF q h
     .rw[mS.mp h];exact hd
  obtain⟨i,n,s',v,g2,C⟩:=WC (j:=j) p ks b #[k,3] #[fW j k,3] r (λq c=>hv q (.tail _ c)) A (λq c=>h10 q (.tail _ c)) (by omega);refine⟨i,n,s',?_,g2,λq=>by rw[C,w];simp[or_assoc]⟩;rw[ä,zZ (ρ0:=Ml lt j B.length #[k,3] s) rfl h1 (yI (zD p))];exact v
def Mm{lt w:Nat}{R:C8}(o:S[lt]? =#[R.map .tup,2])(u: ∀k∈R, ∀d∈k,VS d)(hw: ∀k∈R,k.length=w)(v:j<w)(n:w<=10)(A:R.length<128):
  ∃F:List (List MV),F.Nodup/\(∀q,q∈F↔ ∃k∈R,q=fW j k)/\zK 2 iU [#[lt,1],#[(j:Int),5]] S=#[(bS F).map .tup,S,2]:=by
 obtain⟨F,a,s,e,r,i⟩:=WC (j:=j) o R [] none none .nil u (λk b=>(nomatch b)) (λk b=>by rw[hw k b];exact n) (by simp;omega);have i: ∀q,q∈F↔ ∃k∈R,q=fW j k:=λq=>by rw[i];simp
 have h: ∀t∈F, ∀d∈t,VS d:=λt c d hd=>by obtain⟨k,b,rfl⟩:=(i t).mp c;exact u k b d (MG hd)
 have m: ∀t∈F,t.length=w - 1:=λt c=>by obtain⟨k,b,rfl⟩:=(i t).mp c;rw[MH (by rw[hw k b];exact v),hw k b]
 have z:F.length<128:=by
  have:=r.length_le_of_subset (l₂:=R.map (fW j)) λq y=>by obtain⟨k,b,rfl⟩:=(i q).mp y;exact İ b
  rw[lM]at this;omega
 have hs:=VU (l:=true) (Fd:=bN) (p:=#[↑1,1]) (S:=S++[.lst (F.map .tup)]) h m z (by unfold jL;dsimp only;rw[zL]) (λt c=>Eo (h t c) (by rw[m t c];omega) _);refine⟨F,r,i,tY (T:=[.lst (F.map .tup)]) rfl ?_ (gV λd hd=>by obtain⟨t,c,rfl⟩:=mM.mp hd;exact fS (fV (h t ((xQ F).mem_iff.mp c))).1)⟩;show yD (iT [#[lt],#[(j:Int),0],none,none,none] S)=_;unfold iT;refine nI (zE (ρ':=Ml lt j ↑1 none none) (S':=S++[.lst []]) ?_ (zE (ρ':=Ml lt j ↑1 a s) (S':=S++[.lst (F.map .tup)]) ?_ ?_))
 .unfold lN;simp? [OA]
 .unfold lO;simp? [xA (zD (L:=[.lst []]) o)];exact e
 .unfold lP;simp? [hs]
def Nn{vs:C1}{hs:Ch}{as rs:List Rw}(A:La ts)(q: ∀d∈vs,VS d)(w:1<=vs.length)(C:vs.length<=4)(j:ys.length=3)(i: ∀a∈as,Zg ts ys vs a)(E:as.length<=4)(s:hs.length<=3)(u: ∀y∈hs,y∈yX [] (dB as))(m: ∀r∈rs,Nh ts vs r)(D:rs.length<=30):QC rs as hs vs ys:=by
 have o: ∀{n:Nat},n<=3->vs.length ^ n<=4 ^ 3:=λh=>õ (Nat.pow_le_pow_left C _) (Nat.pow_le_pow_right (by decide) h);refine⟨λr h=>(m r h).2,q,w,by omega,λb c=>⟨λd hd=>((i b c).2 d hd).ok q,?_⟩,λb c r h e=>by rw[(i b c).1,(m r h).1,e],by omega,λx k=>by have:=u x k;rw[qP]at this;simpa using this,by omega,λx k=>?_,by omega,?_,?_⟩
 .rw[(i b c).1];unfold ZA
  cases z:ts[b.1.toNat]? with
  |none=>simp
  |some p=>have:=A.2.2 p (è z);simp;omega
 .obtain⟨b,c,t,B,e⟩:=jD.mp k;rcases (i b c).2 t B with⟨y,j,rfl⟩|⟨v,_,rfl⟩
  .rw[AU]at e;cases e;exact j
  .rw[BR]at e;cases e
 .rw[j];exact õ (o (à 3)) (by decide)
 .exact ŉ (o s) (by decide)
theorem fn_of: ∀{hd:Ch}{k:C1},hd.Nodup->k.length=hd.length-> ∃f:List Nat->MV,k=hd.map f
 |[],[],_,_=>⟨λ_=>.non,rfl⟩
 |x::hd,d::k,nd,h=>by obtain⟨h1,a⟩:=nodup_cons.mp nd;obtain⟨f,rfl⟩:=fn_of a (Nat.succ.inj h);refine⟨λy=>if y=x then d else f y,?_⟩;rw[ä,iP rfl];refine congrArg _ (Ė λy b=>?_);show f y=if y=x then d else f y;rw[iN λz=>h1 (by rw[<-z];exact b)]
def Mn{ds:C1}(a: ∀d∈ds,pd d=true/\vI d<zG)(S:Sto):vU (.new ds) (.new ds) S=#[.bl true,S,1]:=by
 obtain⟨bs,h1,b⟩:=uO λd hd f c=>fR (S:=S) zG (a d hd).1 (a f c).1 (a d hd).2;rw[dT0 rfl,aE]at b;have:CN S zG (.new ds) (.new ds)=some true:=by show(if ds.length=ds.length then(BH _ ds ds).map λbs=>bs.all id else some false)=_;rw[iP rfl,h1];show some (bs.all id)=_;rw[b.1]
 unfold vU;rw[this]
noncomputable abbrev LQ(q:MV)(H:MV)(o:List (Option MV)):Rho:=some q::#[0]::#[1]::#[2]::#[5]::#[4]::some H::o
def WD{l:Nat}{R:C8}{k:C1}(a:Bool)(c:S[l]? =#[R.map .tup,2])(i: ∀t∈R, ∀d∈t,VS d)(j: ∀d∈k,VS d):CT a #[k,6] #[l,1] S=#[.bl (if a=true then !decide (k∈R)else decide (k∈R)),S,1]:=by rw[iV a c (fV j).1 (λy h=>by obtain⟨t,b,rfl⟩:=mM.mp h;have:=fV (i t b);exact⟨this.1,by omega⟩),dec_is (show MV.tup k∈R.map MV.tup↔k∈R from⟨λz=>by obtain⟨t,b,e⟩:=mM.mp z;exact MV.tup.inj e▸b,λz=>İ z⟩)]
section
variable{rs as:List Rw}{hs:Ch}{vs:C1}{ys:Ch}{q:MV}{U:C8}{S9:Sto}
def ZH(Q:QC rs as hs vs ys)(r:hs.Nodup)(z:S9[4]? =#[as.map zO,2])(w:S9[6]? =#[rs.map zO,2])(v:S9[7]? =#[U.map .tup,2])(s: ∀k,k∈U↔IY rs as hs k){k:C1}(p:k.length=hs.length/\ ∀d∈k,d∈vs)(T:Sto)(l:C4):
  ∃y A,uL (LQ q (.tup #[hs,8]) [#[6],#[7],#[8],#[k,3],l,none]) (S9++T)=#[LQ q (.tup #[hs,8]) [#[6],#[7],#[8],#[k,3],y,none],S9++A,0]:=by
 classical
 obtain⟨f,rfl⟩:=fn_of r p.1;have o: ∀x∈hs,f x∈vs:=λx h=>p.2 _ (İ h);have e: ∀x∈hs,VS (f x):=λx h=>Q.vv _ (o x h);have C:=Vh r e (zD (L:=T) z) Q.ha Q.al
 have u:zK 2 wM [#[6,1],#[[.tup [],.tup ((as.map (pR hs f)).map zO)],6]] (S9++T)=#[if IY rs as hs (hs.map f)then [.tup []]else [],S9++T,2]:=by
  have:=Vf (F:=if IY rs as hs (hs.map f)then [[]]else []) (Vg Q o) (by split<;>simp) (λk=>by rw[Mj Q];split<;>simp[*]) (zD (L:=T) w)
  rw[show((bS (if IY rs as hs (hs.map f)then [[]]else [])).map MV.tup)=if IY rs as hs (hs.map f)then [.tup []]else [] by
   split
   .have:=xQ [([]:C1)];rw[List.perm_singleton.mp this];rfl
   .rw[(xQ []).eq_nil];rfl]at this
  exact this
 generalize a:(if IY rs as hs (hs.map f)then [MV.tup []]else [])=D at u;have j:CT false #[hs.map f,6] #[7,1] (S9++T++[.lst D]++[.lst [],.lst [.tup []]])=#[.bl (decide (IY rs as hs (hs.map f))),S9++T++[.lst D]++[.lst [],.lst [.tup []]],1]:=by rw[WD false (zD (zD (zD v))) (λt B d hd=>Q.vv d ((tH Q ((s t).mp B)).2 d hd)) (λd hd=>by obtain⟨x,h,rfl⟩:=mM.mp hd;exact e x h),iN xF0,dec_is (s _)]
 have m:(S9++T++[MO.lst D]).length=(S9++T).length+1:=by rw[lA];rfl
 have cl:xW [.new [],.new [.tup []]] (S9++T++[.lst D])=#[[.loc ((S9++T).length+1),.loc ((S9++T).length+2)],S9++T++[.lst D]++[.lst [],.lst [.tup []]],2]:=by rw[sS (by simp)];show R.ok (Er.new [.loc (S9++T++[MO.lst D]).length,.loc (S9++T++[MO.lst D]++[MO.lst []]).length]) (S9++T++[MO.lst D]++[MO.lst []]++[MO.lst [.tup []]])=_;rw[lA (bs:=[MO.lst []]),m,aA _ [MO.lst []]];rfl
 have n:(S9++T++[MO.lst D]++[MO.lst [],.lst [.tup []]])[(S9++T).length]? =#[D,2]:=zD (zL _ _);refine⟨#[(S9++T).length],T++[.lst D,.lst [],.lst [.tup []]],?_⟩;unfold uL;refine zE (ρ':=LQ q (.tup #[hs,8]) [#[6],#[7],#[8],#[hs.map f,3],#[(S9++T).length],none]) (S':=S9++T++[.lst D]) ?_ ?_
 .unfold AR;simp? [C,u]
 .unfold AS;by_cases c:IY rs as hs (hs.map f)
  .rw[iP c]at a;rw[dT0 c]at j;have g2:(S9++T++[MO.lst D]++[MO.lst [],.lst [.tup []]])[(S9++T).length+2]? =#[D,2]:=by show(S9++T++[MO.lst D]++_)[(S9++T).length+1+1]? =_;rw[LO m, <-a];rfl
   simp? [show∀S,xR [] S=.ok #[[],6] S from λS=>rfl,OA,lst1,cl,j,show∀b T,Bl [.val (.bl b)] T=.ok #[if b=true then 1 else 0,5] T from λ_ _=>rfl,RQ (ds:=[.loc ((S9++T).length+1),.loc ((S9++T).length+2)]) (i:=1) (d:=.loc ((S9++T).length+2)) rfl,RP (Dt (k:=zG) n g2 λd hd=>by rw[<-a]at hd;rw[mS.mp hd];exact⟨rfl,by decide⟩)];simp
  .rw[iN c]at a;rw[dF0 c]at j;have g2:(S9++T++[MO.lst D]++[MO.lst [],.lst [.tup []]])[(S9++T).length+1]? =#[D,2]:=by show(S9++T++[MO.lst D]++_)[(S9++T).length+1+0]? =_;rw[LO m, <-a];rfl
   simp? [show∀S,xR [] S=.ok #[[],6] S from λS=>rfl,OA,lst1,cl,j,show∀b T,Bl [.val (.bl b)] T=.ok #[if b=true then 1 else 0,5] T from λ_ _=>rfl,fT,iF,RQ (ds:=[.loc ((S9++T).length+1),.loc ((S9++T).length+2)]) (i:=0) (d:=.loc ((S9++T).length+1)) rfl,RP (Dt (k:=zG) n g2 λd hd=>by rw[<-a]at hd;cases hd)];simp
theorem WF(Q:QC rs as hs vs ys)(p:hs.Nodup)(o:S9[4]? =#[as.map zO,2])(n:S9[6]? =#[rs.map zO,2])(m:S9[7]? =#[U.map .tup,2])(r: ∀k,k∈U↔IY rs as hs k){W:C1}(j:S9[8]? =#[W,2]): ∀(E:C8)(T:Sto)(a l:C4),(∀k∈E,k.length=hs.length/\ ∀d∈k,d∈vs)->
  ∃i b e,wF (zW 10) uL [(8,W)] (E.map .tup) (LQ q (.tup #[hs,8]) [#[6],#[7],#[8],a,l,none]) (S9++T)=#[LQ q (.tup #[hs,8]) [#[6],#[7],#[8],i,b,none],S9++e,0]
 |[],T,a,l,_=>⟨a,l,T,rfl⟩
 |k::E,T,a,l,h=>by obtain⟨l1,v,u⟩:=ZH (q:=q) Q p o n m r (h k (.head _)) T l;obtain⟨i,b,e,s⟩:=WF Q p o n m r j E v #[k,3] l1 λc w=>h c (.tail _ w);refine⟨i,b,e,?_⟩;rw[ä,zZ (ρ0:=LQ q (.tup #[hs,8]) [#[6],#[7],#[8],#[k,3],l,none]) rfl u (yI (zD j)),s]
end
def Fa(u:Za)(a3:u.length<=63): ∃S,IM [.scr (u.map MV.int)] []=#[.bl true,S,1]:=by
 obtain⟨c0,U⟩:=rN u 0 (by decide) [];obtain⟨t0,aw⟩:=cL c0 [];obtain⟨ts,hT,X⟩:=YZ t0 [];obtain⟨c1,ag⟩:=rN u 1 (by decide) [.lst (ts.map tbl)];obtain⟨t1,aR⟩:=cL c1 [.lst (ts.map tbl)];obtain⟨vs,C,v1,v4,H⟩:=Lk t1 [.lst (ts.map tbl)];obtain⟨c2,ae⟩:=rN u 2 (by decide) [.lst (ts.map tbl),.lst vs];obtain⟨t2,aq⟩:=cL c2 [.lst (ts.map tbl),.lst vs];obtain⟨ys,hy,W⟩:=Dw t2 [.lst (ts.map tbl),.lst vs];generalize hP:([.lst (ts.map tbl),.lst vs,.lst #[ys,8]]:Sto)=P;have p0:P[0]? =#[ts.map tbl,2]:=by rw[<-hP];rfl
 have p1:P[1]? =#[vs,2]:=by rw[<-hP];rfl
 have p2:P[2]? =#[ys.map MV.str,2]:=by rw[<-hP];rfl
 have J:P.length=3:=by rw[<-hP];rfl
 obtain⟨c3,K⟩:=rN u 3 (by decide) P;obtain⟨E,ao⟩:=cL c3 P;have m3:=md (x:=E) (n:=4);have l4:3<(P++[MO.lst []]).length:=by rw[lA,J];decide
 have O:=yV (S:=P++[.lst []]) (l:=3) (x:=E) (n:=4) l4;obtain⟨as,z2,al,hA,B⟩:=Dy (S:=P++[.lst []]) (M:=(1+E % 4).toNat) (l:=3) (p:=1) (q:=2) (lt:=0) l4 (by decide) (by decide) (by decide) (zD p1) (zD p2) (zD p0) C v1 v4 (by omega) (by omega) hT (by omega) (E / 4);rw[show nH (1+E % 4).toNat=.int (1+E % 4) by unfold nH;rw[Int.toNat_of_nonneg (by omega)]]at B;have wi: ∀z,Wl (P++[.lst []]) 3 z=P++[.lst [.int z]]:=λz=>by rw[<-J];exact(pN P z).symm
 rw[wi,wi]at O B;generalize v:P++[.lst [.int z2]]++[.lst #[as,9]]=S5;have q0:S5[0]? =#[ts.map tbl,2]:=by rw[<-v];exact zD (zD p0)
 have q1:S5[1]? =#[vs,2]:=by rw[<-v];exact zD (zD p1)
 have q4:S5[4]? =#[as.map zO,2]:=by rw[<-v,show 4=(P++[MO.lst [.int z2]]).length by rw[lA,J];rfl];exact zL _ _
 have Y:S5.length=5:=by rw[<-v,lA,lA,J];rfl
 obtain⟨c5,aa⟩:=rN u 5 (by decide) S5;obtain⟨t5,aj⟩:=cL c5 S5;have av: ∀b∈as,(∀d∈b.2,jS d)/\b.2.length<=4:=(Nn (hs:=[]) (rs:=[]) hT C v1 v4 hy hA (by omega) (by simp) (λy h=>by cases h) (λr h=>by cases h) (by simp)).ha;have l6:5<(S5++[MO.lst []]).length:=by rw[lA,Y];decide
 obtain⟨hs,m,h3,hh,ay,c⟩:=Lo (S:=S5++[.lst []]) (l:=5) (a:=4) (x:=t5) l6 (by decide) (zD q4) av (by omega);have wj: ∀z,Wl (S5++[.lst []]) 5 z=S5++[.lst [.int z]]:=λz=>by rw[<-Y];exact(pN S5 z).symm
 rw[wj,wj]at c;generalize o:S5++[.lst [.int m]]=S6 at c;have s0:S6[0]? =#[ts.map tbl,2]:=by rw[<-o];exact zD q0
 have s1:S6[1]? =#[vs,2]:=by rw[<-o];exact zD q1
 have s4:S6[4]? =#[as.map zO,2]:=by rw[<-o];exact zD q4
 have s5:S6[5]? =#[[.int m],2]:=by rw[<-o, <-Y];exact zL _ _
 have D:S6.length=6:=by rw[<-o,lA,Y];rfl
 obtain⟨c4,ab⟩:=rN u 4 (by decide) S6;obtain⟨rs,hr,rl,ah⟩:=Lp (S:=S6) (p:=1) (lt:=0) s1 s0 C v1 v4 hT c4 (cs:=u.drop 6) (by rw[þ];omega);have Q:=Nn hT C v1 v4 hy hA (by omega) h3 hh hr rl;obtain⟨F,_,nd,hF,_⟩:=Nl (S:=S6++[.lst #[rs,9]]) (lr:=6) Q (by rw[<-D];exact zL _ _);have hR: ∀k,k∈bS F↔IY rs as hs k:=λk=>by rw[(xQ F).mem_iff,hF]
 have ax:=(Eu Q hF).1;have fl:F.length<128:=ŉ (SQ nd λk A=>tH Q ((hF k).mp A)) Q.ph;have az:(bS F).length<128:=by rw[(xQ F).length_eq];exact fl
 generalize e:S6++[.lst #[rs,9]]++[.lst ((bS F).map .tup)]=S8;have u6:S8[6]? =#[rs.map zO,2]:=by rw[<-e];exact zD (by rw[<-D];exact zL _ _)
 have u1:S8[1]? =#[vs,2]:=by rw[<-e];exact zD (zD s1)
 have u7:S8[7]? =#[(bS F).map .tup,2]:=by rw[<-e,show 7=(S6++[MO.lst #[rs,9]]).length by rw[lA,D];rfl];exact zL _ _
 have u8:S8.length=8:=by rw[<-e,lA,lA,D];rfl
 have call:=Vi C v4 h3 u1;generalize i:S8++[.lst ((qU vs hs.length).map .tup)]=S9;have w4:S9[4]? =#[as.map zO,2]:=by rw[<-i, <-e];exact zD (zD (zD s4))
 have w5:S9[5]? =#[[.int m],2]:=by rw[<-i, <-e];exact zD (zD (zD s5))
 have w6:S9[6]? =#[rs.map zO,2]:=by rw[<-i];exact zD u6
 have w7:S9[7]? =#[(bS F).map .tup,2]:=by rw[<-i];exact zD u7
 have w8:S9[8]? =#[(qU vs hs.length).map .tup,2]:=by rw[<-i, <-u8];exact zL _ _
 obtain⟨q,hq⟩: ∃q,q=MV.scr (u.map MV.int):=⟨_,rfl⟩
 obtain⟨a,l,T,s⟩:=WF (q:=q) Q ay w4 w6 w7 hR w8 (qU vs hs.length) [] none none λk A=>pC.mp A;rw[aN]at s;have N:vV (.val q) (some 6) none S6=#[(u.drop 6).map MV.int,S6,2]:=by rw[hq,map_drop, <-AV];rfl
 have ar:yE (zW 0) rG AQ [none,#[8]] [(7,(bS F).map .tup)] ((bS F).map .tup) S9=.ok [] S9:=HX (yI w7) λd hd=>by obtain⟨k,A,rfl⟩:=mM.mp hd;refine⟨[#[k,3],#[8]],rfl,?_⟩;have:=tH Q ((hR k).mp A);have hi:=WD true w8 (λt ht d hd=>C d ((pC.mp ht).2 d hd)) (λd hd=>C d (this.2 d hd));rw[iP rfl,dT0 (pC.mpr this)]at hi;unfold rG;simp? [hi];rfl
 rw[<-hq]at U ag ae K ab aa;have au: ∀{S:Sto},S[6]? =#[rs.map zO,2]->zK 2 wM [#[6,1],#[[.tup #[hs,8],.tup #[as,9]],6]] S=#[(bS F).map .tup,S,2]:=λh=>Vf Q nd hF h
 have fin: ∀{S:Sto},zI qO (zI uM uN) (LQ q (.tup #[hs,8]) [#[6],#[7],#[8],a,l,none]) (S9++T)=.ok (.ret (.val (.bl true))) S-> ∃S,IM [q] []=#[.bl true,S,1]:=λ{S} af=>by
  refine⟨S,?_⟩;show yD (UW [some q,none,none,none,none,none,none,none,none,none,none,none,none] [])=_;refine nI ?_;unfold UW;refine zE (ρ':=[some q,#[0],none,none,none,none,none,none,none,none,none,none,none]) (S':=[.lst (ts.map tbl)]) ?_ ?_
  .unfold LA;simp? [U,aw,X];rfl
  refine zE (ρ':=[some q,#[0],#[1],none,none,none,none,none,none,none,none,none,none]) (S':=[.lst (ts.map tbl),.lst vs]) ?_ ?_
  .unfold LB;simp? [ag,aR,H];rfl
  refine zE (ρ':=[some q,#[0],#[1],#[2],none,none,none,none,none,none,none,none,none]) (S':=P) ?_ ?_
  .unfold LC;simp? [ae,aq,W];rw[<-hP];rfl
  refine zE (ρ':=[some q,#[0],#[1],#[2],#[3],none,none,none,none,none,none,none,none]) (S':=P++[.lst [.int E]]) ?_ ?_
  .unfold LD;simp? [K,ao];rw[J]
  refine zE (ρ':=[some q,#[0],#[1],#[2],#[3],#[4],none,none,none,none,none,none,none]) (S':=S5) ?_ ?_
  .unfold LE;simp? [O,B];rw[v,lA,J];rfl
  refine zE (ρ':=[some q,#[0],#[1],#[2],#[5],#[4],none,none,none,none,none,none,none]) (S':=S5++[.lst [.int t5]]) ?_ ?_
  .unfold LF;simp? [aa,aj];rw[Y]
  refine zE (ρ':=LQ q (.tup #[hs,8]) [none,none,none,none,none,none]) (S':=S6) ?_ ?_
  .unfold LG;simp? [c,mK]
  refine zE (ρ':=LQ q (.tup #[hs,8]) [#[6],none,none,none,none,none]) (S':=S6++[.lst #[rs,9]]) ?_ ?_
  .unfold LH;simp? [N,ab,ah];rw[D]
  refine zE (ρ':=LQ q (.tup #[hs,8]) [#[6],#[7],none,none,none,none]) (S':=S8) ?_ ?_
  .unfold LI;simp? [rH (zD (L:=[.lst #[rs,9]]) s4),tup2,au (show(S6++[MO.lst #[rs,9]])[6]? =_ by rw[<-D];exact zL _ _)];rw[e,lA,D];rfl
  refine zE (ρ':=LQ q (.tup #[hs,8]) [#[6],#[7],none,none,none,none]) (S':=S8) ?_ ?_
  .unfold FA;simp? [Mg u7,Ņ,fT,iF]
  refine zE (ρ':=LQ q (.tup #[hs,8]) [#[6],#[7],#[8],none,none,none]) (S':=S9) ?_ ?_
  .unfold FB;simp? [UX,lM,call];rw[i,u8]
  refine zE (ρ':=LQ q (.tup #[hs,8]) [#[6],#[7],#[8],none,none,none]) (S':=S9) ?_ ?_
  .unfold FC;simp? [xA w7,lM,show(bS F).length<1000000 by omega,show vG 1 [9] (LQ q (.tup #[hs,8]) [#[6],#[7],#[8],none,none,none])=[none,#[8]]from rfl,ar,OA,show RH (.new []) (.new []) S9=#[.bl false,S9,1] from rfl,fT,iF]
  refine zE (ρ':=LQ q (.tup #[hs,8]) [#[6],#[7],#[8],a,l,none]) (S':=S9++T) ?_ af;unfold FD;simp? [xA w8];exact s
 rw[<-hq];have a0:pd (.tup #[hs,8])=true:=by rw[yW];exact bQ λd hd=>by obtain⟨x,_,rfl⟩:=mM.mp hd;exact nG x
 have ak:vI (.tup #[hs,8])<40:=by rw[gH];have:=rL (ds:=hs.map MV.str) (n:=0) (λd hd=>by obtain⟨x,_,rfl⟩:=mM.mp hd;rw[dA];exact à 0);omega
 have de:decide (MV.tup #[hs,8]=.tup [])=decide (hs=[]):=dec_is ⟨λh=>List.map_eq_nil_iff.mp (MV.tup.inj h),λh=>by rw[h];rfl⟩;have ee:vU #[hs.map MV.str,6] #[[],6] (S9++T)=#[.bl (decide (hs=[])),S9++T,1]:=by rw[Lb a0 (by rw[yW];exact cZ) ak,de]
 by_cases hn:hs=[]
 .refine fin (S:=S9++T) (mX ?_);unfold qO;simp? [show∀S,xR [] S=.ok #[[],6] S from λS=>rfl,ee,dT0 hn]
 have h0:0<hs.length:=List.length_pos_iff.mpr hn;have r0:=md (x:=m) (n:=(hs.length:Int)) (by omega);obtain⟨j,hj⟩: ∃j:Nat,(j:Int)=m % (hs.length:Int):=⟨(m % (hs.length:Int)).toNat,by omega⟩
 have x5:(S9++T)[5]? =#[[.int m],2]:=zD w5;have I:=yV (S:=S9++T) (l:=5) (x:=m) (n:=(hs.length:Int)) (gS.mp x5).1 (by omega) (by omega);rw[VF x5, <-hj]at I;have y4:=(nO (show 5≠4 by decide) (S:=S9++T) (m / (hs.length:Int))).trans (zD (L:=T) w4);have y6:=(nO (show 5≠6 by decide) (S:=S9++T) (m / (hs.length:Int))).trans (zD (L:=T) w6);have y7:=(nO (show 5≠7 by decide) (S:=S9++T) (m / (hs.length:Int))).trans (zD (L:=T) w7);generalize Wl (S9++T) 5 (m / (hs.length:Int))=Z at I y4 y6 y7;have jl:j<hs.length:=by omega
 obtain⟨G,gn,hG,cl⟩:=Mm (j:=j) (w:=hs.length) y7 ax (λk A=>(tH Q ((hR k).mp A)).1) jl (by omega) az;have Q2:QC rs as (fW j hs) vs ys:=⟨Q.hv,Q.vv,Q.v1,Q.rl,Q.ha,Q.hw,Q.al,λx hx=>Q.hh x (MG hx),by rw[MH jl];omega,Q.hy,Q.yl,Q.pw,ŉ (Nat.pow_le_pow_right v1 (by rw[MH jl];omega)) Q.ph⟩
 have ai: ∀k,k∈G↔IY rs as (fW j hs) k:=λk=>by
  rw[hG];constructor
  .rintro⟨k,A,rfl⟩;obtain⟨σ,h1,rfl⟩:=(hR k).mp A;exact⟨σ,h1,(MF σ j hs).symm⟩
  .rintro⟨σ,h1,rfl⟩;exact⟨hs.map σ,(hR _).mpr ⟨σ,h1,rfl⟩,MF σ j hs⟩
 have ca:=Vf Q2 gn ai y6;rw[MF]at ca;have es:=Mn (ds:=(bS G).map .tup) (λd hd=>by obtain⟨t,ht,rfl⟩:=mM.mp hd;have:=fV ((Eu Q2 ai).1 t ht);exact⟨this.1,by unfold zG;omega⟩) Z;refine fin (S:=Z) (zE (ρ':=LQ q (.tup #[hs,8]) [#[6],#[7],#[8],a,l,none]) (S':=S9++T) ?_ (zE (ρ':=LQ q (.tup #[hs,8]) [#[6],#[7],#[8],a,l,#[(j:Int),0]]) (S':=Z) ?_ ?_))
 .unfold qO;simp? [show∀S,xR [] S=.ok #[[],6] S from λS=>rfl,ee,dF0 hn,fT,iF]
 .unfold uM;simp? [UX,lM,I]
 .unfold uN;simp? [LN,WB #[hs,8] j (by rw[lM];omega),rH y4,tup2,ca,cl,es]
section
variable{P:ō}{w:World}{K:B9}{mg:B3}{base:Heap}
noncomputable def top(i:Nat):Stmt:=PySem.Challenge.pw_mendsure_k33_answers_put_for_names.main.body.getD i (.Pass ⟨0,0,0,0⟩)
set_option bootstrap.genMatcherCode true in
local elab_rules:tactic|`(tactic|ac_rfl)=>do match Lean.Parser.runParserCategory (←Lean.getEnv) `tactic ("repeat' (first |(exists 1,vQ _ _ [_] _;refine RB ?_)|(exists 1,vQ _ _ (_::_) _;refine JS ?_ ?_)|(exists 1,vQ _ _ [] _;exact Qj)|(exists 1,NN _ _ (.Assign _ (.ListComp _ _ _ _) _) _;refine Df ‹_› ?_ (λ_ _ _ _ _=>?_) (λ_ _ _ _=>?_) (λ_ _ _ _=>?_))|(exists 1,NN _ _ (.Assign [.Name _ _] _ _) _;refine Qn _ ‹_› ?_)|(exists 1,NN _ _ (.Assign _ _ _) _;refine Qo ?_ ?_)|(exists 1,NN _ _ (.Return _ _) _;refine Qk ?_)|(exists 1,NN _ _ (.For _ _ _ _ _) _;refine Qq PassesOwn.never rfl ?_ ?_ ?_)|(exists 1,NN _ _ (.If _ _ _ _) _;refine Xr ?_ ?_ ?_)|(exists 1,NN _ _ (.Expr _ _) _;refine Hm ?_)|(exists 1,zN _ _ (.Name _ _) _;first |(exists 1,zN _ _ (.Name _ _) (vJ _);exact Py _)|exact Mw rfl ‹_› Rq|exact Mw rfl ‹_› CV|exact Hh rfl ‹_›)|(exists 1,zN _ _ (.Constant _ _ _) _;first |exact Pz|exact Qb _|exact Xn|exact Qa)|(exists 1,zN _ _ (.UnaryOp _ _ _) _;exact Qc)|(exists 1,zN _ _ (.List _ _) _;refine Qi ?_)|(exists 1,zN _ _ (.Tuple _ _ _) _;refine Qh ?_)|(exists 1,zN _ _ (.BinOp _ _ _ _) _;first |(exists 5,.Add;refine Re ?_ ?_)|(exists 5,.Mult;refine Rf ?_ ?_)|(exists 5,.Mod;refine Qz ?_ ?_)|(exists 5,.Sub;refine Qx ?_ ?_)|(exists 5,.BitAnd;refine Kl ?_ ?_)|(exists 5,.FloorDiv;refine Qy ?_ ?_)|(exists 5,.Pow;refine Rb ?_ ?_)|(exists 5,.BitOr;refine Ue ?_ ?_))|(exists 1,zN _ _ (.Compare _ _ _ _) _;first |(exists 6,.In;refine Xy (Room.units ‹_›) ?_ ?_)|(exists 6,.Eq;refine Xs (Room.units ‹_›) ?_ ?_))|(exists 1,zN _ _ (.Subscript _ _ _) _;first |(exists 1,zN _ _ (.Subscript _ _ _) (dJ iC _ _);refine Xx ?_ ?_)|(exists 1,zN _ _ (.Subscript _ _ _) (tJ vV _ _ _);refine Rj ?_ ?_ ?_)|(exists 1,zN _ _ (.Subscript _ _ _) (dJ OT _ _);refine Ug ?_ ?_))|(exists 1,zN _ _ (.ListComp _ _ _ _) _;refine De ‹_› ?_ (λ_ _ _ _ _=>?_) (λ_ _ _ _=>?_) (λ_ _ _ _=>?_))|(exists 1,zN _ _ (.Dict _ _ _) _;exact Bu)|(exists 1,zN _ _ (.IfExp _ _ _ _) _;refine Xo ?_ ?_ ?_)|(exists 1,zN _ _ (.Call (.Attribute _ _ _) _ _ _) _;first |(exists 4,\"append\";refine XQ ?_ ?_)|(exists 4,\"get\";refine Yy (Room.units ‹_›) ?_ ?_)|(exists 4,\"setdefault\";refine Uc ?_ ?_)|(exists 4,\"setdefault\";refine Yq (Room.units ‹_›) ?_ ?_)|(exists 4,\"update\";refine Kk ?_ ?_)|(exists 4,\"pop\";refine Tr ?_ ?_)|(exists 4,\"extend\";refine YE ?_ ?_))|(exists 1,zN _ _ (.Call (.Name _ _) _ _ _) _;first |(exists 3,\"tuple\";refine bY GD Bj rfl ‹_› Bk ?_)|(exists 3,\"len\";refine NI XN Rl rfl ‹_› Ro ?_)|(exists 3,\"isinstance\";refine NI Bi Rm rfl ‹_› GM ?_)|(exists 1,zN _ _ (.Call (.Name \"dict\" _) _ _ _) (bJ _ Ui);refine Kv rfl rfl ‹_› rfl ‹_› ?_)|(exists 3,\"int\";refine bY NV Rr rfl ‹_› Rp ?_)|(exists 3,\"sorted\";refine BN false ‹_› (Room.mono ‹_› (by decide)) rfl ‹_› rfl ?_)|(exists 1,zN _ _ (.Call (.Name \"list\" _) _ _ _) (bJ _ AG);refine bY RV (Cf rfl) rfl ‹_› CV ?_)|(exists 1,zN _ _ (.Call (.Name \"dict\" _) _ _ _) (bJ _ RY);refine bY Cg Tx rfl ‹_› KY ?_)|(exists 1,zN _ _ (.Call (.Name \"list\" _) _ _ _) (bJ _ NU);refine bY JN Im rfl ‹_› CV ?_)|(exists 1,zN _ _ (.Call (.Name \"dict\" _) _ _ _) (bJ _ IL);refine bY (YN (Room.units ‹_›)) (Km rfl) rfl ‹_› KY ?_)|(exists 1,zN _ _ (.Call (.Name \"list\" _) _ _ _) (bJ _ AN);refine bY SH (Dc rfl) rfl ‹_› CV ?_)|(exists 3,\"sorted\";refine BN true ‹_› (Room.mono ‹_› (by decide)) rfl ‹_› rfl ?_)|refine Ce ‹_› (Room.mono ‹_› (by decide)) rfl ?_)|(exists 1,rX _ _ (.Compare _ _ _ _) _;first |(exists 1,rX _ _ (.Compare _ [.Eq] _ _) _;refine Xt (Room.units ‹_›) ?_ ?_)|(exists 1,rX _ _ (.Compare _ [.NotEq] _ _) _;refine Xu (Room.units ‹_›) ?_ ?_)|(exists 1,rX _ _ (.Compare _ [.NotIn] _ _) _;refine Bh (Room.units ‹_›) ?_ ?_)|(exists 1,rX _ _ (.Compare _ [.In] _ _) _;refine Xz (Room.units ‹_›) ?_ ?_)|(exists 1,rX _ _ (.Compare _ [.Lt] _ _) _;refine Xv (Room.units ‹_›) ?_ ?_)|(exists 1,rX _ _ (.Compare _ [.IsNot] _ _) _;refine Be ?_ ?_)|(exists 1,rX _ _ (.Compare _ [.Gt] _ _) _;refine Xw ?_ ?_)|(exists 1,rX _ _ (.Compare _ [.In] _ _) _;refine Tw ?_ ?_))|(exists 1,rX _ _ (.UnaryOp _ _ _) _;refine Qf ?_)|(exists 1,rX _ _ (.BoolOp _ _ _) _;refine Xq ?_)|(exists 1,rX _ _ _ _;refine Aq ?_)|(exists 1,Mv _ _ _ _;first |refine Hi ?_|refine Qe ?_ ?_|refine Qd ?_|refine Xp ?_ ?_)|(exists 1,CS _ _ _ _;first |refine Hj ?_ ?_|exact Qg)|(exists 1,Px _ _ _ _;first |refine Hl ?_|exact Hk)|(exists 1,NO _ _ _ _;first |exact Hv|refine Hw ?_)|(exists 1,HN _ _ _ _ _;first |(exists 8,vR;refine Hr ?_)|(exists 8,eE;refine XE rfl ‹_› ?_)|(exists 8,Hs;refine Qp ?_)|(exists 8,itQ;refine Tp ?_)|(exists 8,Nc;refine Rv rfl ‹_› ?_)|(exists 8,YO;refine Cq ?_)|(exists 8,Ye;refine Jg rfl ‹_› ?_))|(exists 1,XC _ _ (.Name _ _) _;exact Hn _ ‹_›)|(exists 1,XC _ _ _ _;first |refine Qm rfl ?_|(exists 1,XC _ _ _ (DJ IE _ _);refine Kg ?_ ?_)|(exists 1,XC _ _ _ (DJ HZ _ _);refine Jh (Room.units ‹_›) ?_ ?_)|(exists 1,XC _ _ _ (DJ HV _ _);refine Rt ?_ ?_))|(exists 1,As _ _ _ _;first |refine Ho ?_ ?_|exact Ql)|(exists 1,Fi _ _ _ (.Name _ _) _;exact Ht _ ‹_›)|(exists 1,Fi _ _ _ _ _;refine Qs rfl ?_)|(exists 1,Au _ _ _ _ _;first |refine Hu ?_ ?_|exact Qr))") with|.ok s=>Lean.Elab.Tactic.evalTactic s|.error e=>throwError e
set_option bootstrap.genMatcherCode true in
local macro_rules
 | `(tactic|exists 1,$t)=>`(tactic|with_reducible show $t)
 | `(tactic|exists 7,$t)=>`(tactic|exists 1,zN _ _ _ $t)
 | `(tactic|exists 8,$t)=>`(tactic|exists 1,HN _ _ _ _ (bJ _ $t))
 | `(tactic|exists 3,$t)=>`(tactic|exists 1,zN _ _ (.Call (.Name $t _) _ _ _) _)
 | `(tactic|exists 4,$t)=>`(tactic|exists 1,zN _ _ (.Call (.Attribute _ $t _) _ _ _) _)
 | `(tactic|exists 5,$t)=>`(tactic|exists 1,zN _ _ (.BinOp _ $t _ _) _)
 | `(tactic|exists 6,$t)=>`(tactic|exists 1,zN _ _ (.Compare _ [$t] _ _) _)
 | `(tactic|exists 2,$f:ident,$xs:ident,*)=>`(tactic|(refine okA $f ‹_› (λ_ _ _ _ _ _ _ _ _ _=>?_);delta $f $xs*; (first |refine RB ?_|refine JS ?_ ?_);ac_rfl))
 | `(tactic|exists 0,$f:ident,$xs:ident,*)=>`(tactic|(refine okL $f ‹_› (λ_ _ _ _ _ _ _ _ _=>?_);delta $f $xs*; (first |refine RB ?_|refine JS ?_ ?_);ac_rfl))
def GS(D:DefM K mg "value_rank" (top 1))(a:mg "str"=none)(b:mg "isinstance"=none):YC P w K mg base "value_rank" 1 1 ["value"] nT:=by exists 2,kW,xO,eR
def GT(D:DefM K mg "tuple_rank" (top 2))(b:YC P w K mg base "value_rank" 1 1 ["value"] nT)(a:mg "tuple"=none):YC P w K mg base "tuple_rank" 2 1 ["values"] nV:=by exists 2,nU,eS,cB,kX
def QF(D:DefM K mg "in_order" (top 3))(a:YC P w K mg base "tuple_rank" 2 1 ["values"] nV)(b:mg "sorted"=none):YC P w K mg base "in_order" 5 1 ["some"] oA:=by exists 2,mZ,nY,nZ,mY,nW,eT
def QG(D:DefM K mg "names_in" (top 6))(a:mg "list"=none):YC P w K mg base "names_in" 1 1 ["atoms"] xX:=by exists 2,oB,aB,aC,aD,gZ,eU,gY,gX
def SS(D:DefM K mg "fitting" (top 7))(a:mg "zip"=none):YC P w K mg base "fitting" 1 2 ["terms","cells"] aU:=by exists 2,aT,iG,iH,BP,xT,yR,cN
def SU(D:DefM K mg "fits_of" (top 8))(a:mg "zip"=none)(b:YC P w K mg base "fitting" 1 2 ["terms","cells"] aU):YC P w K mg base "fits_of" 2 3 ["rows","marks","atom"] lZ:=by exists 2,rC,iI,iK,jN,xE,xF,jO
def MK(D:DefM K mg "values_at" (top 9))(a:mg "tuple"=none):YC P w K mg base "values_at" 1 2 ["values","names"] yH:=by exists 2,iL,iY,dQ,jU
def Vj(D:DefM K mg "cut" (top 10))(a:YC P w K mg base "values_at" 1 2 ["values","names"] yH)(c:mg "dict"=none)(b:mg "zip"=none):YC P w K mg base "cut" 2 2 ["fits","names"] EY:=by exists 2,UV,DF,DG,DH,DE,AO,mE,rD,rE
def ZI(D:DefM K mg "joined" (top 11))(a:YC P w K mg base "values_at" 1 2 ["values","names"] yH)(b:mg "dict"=none):YC P w K mg base "joined" 2 3 ["fits","others","shared"] qK:=by exists 2,uI,oF,oG,oH,oI,EZ,eV,eX,oC,oE,eW,oD
def vB(D:DefM K mg "marked_answers" (top 12)){b:Tok}(h:mg "EVERYWHERE"=some (.int (-1) b))(j:mg "enumerate"=none)(e:YC P w K mg base "names_in" 1 1 ["atoms"] xX)(k:mg "list"=none)(a:YC P w K mg base "cut" 2 2 ["fits","names"] EY)(d:YC P w K mg base "fits_of" 2 3 ["rows","marks","atom"] lZ)(m:YC P w K mg base "joined" 2 3 ["fits","others","shared"] qK)(i:YC P w K mg base "values_at" 1 2 ["values","names"] yH)(c:mg "dict"=none):YC P w K mg base "marked_answers" 3 3 ["rows","marks","question"] xP:=by exists 2,kY,gI,gM,xY,xZ,wA,gN,yT,xB,yM,kG,kH,kI,kL,kM,kN,kO,wZ,dE,kC,dF,kD,dG,kE,dH
def SV(D:DefM K mg "answers" (top 13))(b:YC P w K mg base "in_order" 5 1 ["some"] oA)(a:YC P w K mg base "marked_answers" 3 3 ["rows","marks","question"] xP)(c:mg "list"=none):YC P w K mg base "answers" 6 2 ["rows","question"] wM:=by exists 2,rF,qL,iZ,lB
def CP(D:DefM K mg "_law_cell_at" (top 15))(a:mg "len"=none):YC P w K mg base "_law_cell_at" 1 2 ["_law_script","_law_k"] zS:=by exists 2,bA,kZ,mG
def FS(D:DefM K mg "_law_digits" (top 16))(a:mg "range"=none):YC P w K mg base "_law_digits" 1 1 ["_law_cell"] yA:=by exists 2,cO,jW,jX,dR,pM,dS,dU,jV,bB,bC,bD
def ML(D:DefM K mg "_law_take" (top 17)):YC P w K mg base "_law_take" 1 2 ["_law_well","_law_many"] zB:=by exists 2,qM,cP,cQ,sC
def MM(D:DefM K mg "_law_word" (top 18))(a:mg "range"=none)(b:YC P w K mg base "_law_take" 1 2 ["_law_well","_law_many"] zB):YC P w K mg base "_law_word" 2 1 ["_law_well"] kP:=by exists 2,qN,sD,sE,lD,sF,cR,dW
def MN(D:DefM K mg "_law_pool" (top 19))(a:mg "range"=none)(b:YC P w K mg base "_law_take" 1 2 ["_law_well","_law_many"] zB)(c:YC P w K mg base "_law_word" 2 1 ["_law_well"] kP):YC P w K mg base "_law_pool" 3 2 ["_law_well","_law_many"] gO:=by exists 2,iM,lE,lF,lG,jP,dX,dY,jY,jZ,hX
def FU(D:DefM K mg "_law_tables" (top 20))(a:mg "range"=none)(b:YC P w K mg base "_law_take" 1 2 ["_law_well","_law_many"] zB):YC P w K mg base "_law_tables" 2 1 ["_law_well"] cT:=by exists 2,cS,dZ,nA,nB,wH,bE,bF
def QI(D:DefM K mg "_law_row" (top 21))(c:YC P w K mg base "_law_take" 1 2 ["_law_well","_law_many"] zB)(d:mg "len"=none)(a:mg "range"=none)(b:mg "tuple"=none):YC P w K mg base "_law_row" 2 3 ["_law_well","_law_tables_here","_law_pool_here"] oM:=by exists 2,oK,aF,aG,eY,bG
def MP(D:DefM K mg "_law_rows" (top 22))(b:YC P w K mg base "_law_digits" 1 1 ["_law_cell"] yA)(a:YC P w K mg base "_law_take" 1 2 ["_law_well","_law_many"] zB)(c:YC P w K mg base "_law_row" 2 3 ["_law_well","_law_tables_here","_law_pool_here"] oM)(d:mg "len"=none):YC P w K mg base "_law_rows" 3 5 ["_law_cells","_law_extra","_law_tables_here","_law_pool_here","_law_most"] iQ:=by exists 2,iO,cU,cV,cW,cX,sG,gA,wI,xG,gB,wK
def MQ(D:DefM K mg "_law_term" (top 23))(a:YC P w K mg base "_law_take" 1 2 ["_law_well","_law_many"] zB)(b:mg "len"=none):YC P w K mg base "_law_term" 2 3 qI iR:=by exists 2,gP,wN,cY
def GU(D:DefM K mg "_law_atoms" (top 24))(a:mg "range"=none)(c:YC P w K mg base "_law_take" 1 2 ["_law_well","_law_many"] zB)(e:mg "len"=none)(d:YC P w K mg base "_law_term" 2 3 qI iR)(b:mg "tuple"=none):YC P w K mg base "_law_atoms" 3 5 ["_law_well","_law_tables_here","_law_names_here","_law_pool_here","_law_many"] aI:=by exists 2,aH,eZ,fA,fB,kQ,cE,cF,cC,jA
def BA(D:DefM K mg "_law_names_in" (top 25)):YC P w K mg base "_law_names_in" 1 1 ["_law_atoms_here"] gF:=by exists 2,gC,wV,wW,wX,wU,jH,yG,xK
def MS(D:DefM K mg "_law_head" (top 26))(c:YC P w K mg base "_law_names_in" 1 1 ["_law_atoms_here"] gF)(a:mg "range"=none)(b:YC P w K mg base "_law_take" 1 2 ["_law_well","_law_many"] zB)(d:mg "len"=none):YC P w K mg base "_law_head" 2 3 ["_law_well","_law_atoms_here","_law_most"] dI:=by exists 2,iS,lH,lI,lK,lL,jQ,nE
def GV(D:DefM K mg "_law_names" (top 27))(c:YC P w K mg base "_law_word" 2 1 ["_law_well"] kP)(b:YC P w K mg base "_law_take" 1 2 ["_law_well","_law_many"] zB)(a:mg "range"=none):YC P w K mg base "_law_names" 3 1 ["_law_well"] aK:=by exists 2,uK,bH,bI,fC,fE,fF,kR,cG,jB,cH
def GW(D:DefM K mg "_law_order" (top 28))(a:mg "str"=none)(b:mg "isinstance"=none):YC P w K mg base "_law_order" 1 1 ["_law_cells"] bN:=by exists 2,aL,bL,bM,fG,bK,cI
def QJ(D:DefM K mg "_law_put" (top 29))(a:mg "dict"=none)(c:mg "zip"=none)(b:mg "tuple"=none):YC P w K mg base "_law_put" 1 3 ["_law_atoms_here","_law_head_here","_law_answer"] oS:=by exists 2,oR,oN,oO,oP,oQ,aM,fH,fI,fM,jC,bO
def QK(D:DefM K mg "_law_all" (top 30))(a:mg "range"=none):YC P w K mg base "_law_all" 1 2 ["_law_pool_here","_law_many"] oY:=by exists 2,oX,oU,oV,oW,aP,fO,fP,fQ,aO,fN,bP,kS
def MT(D:DefM K mg "_law_less" (top 31))(a:YC P w K mg base "_law_order" 1 1 ["_law_cells"] bN)(b:mg "sorted"=none):YC P w K mg base "_law_less" 4 2 ["_law_told","_law_at"] iU:=by exists 2,iT,lN,lO,lP,jR,gG,nF
def Vk{f:Addr}{fd:FuncData}(F:Fun K "law" "law" (top 32) f fd)(b:YC P w K mg base "_law_tables" 2 1 ["_law_well"] cT)(c:YC P w K mg base "_law_digits" 1 1 ["_law_cell"] yA)(r:YC P w K mg base "_law_cell_at" 1 2 ["_law_script","_law_k"] zS)(k:YC P w K mg base "_law_pool" 3 2 ["_law_well","_law_many"] gO)(a:YC P w K mg base "_law_names" 3 1 ["_law_well"] aK)(p:YC P w K mg base "_law_atoms" 3 5 ["_law_well","_law_tables_here","_law_names_here","_law_pool_here","_law_many"] aI)(d:YC P w K mg base "_law_take" 1 2 ["_law_well","_law_many"] zB)(o:YC P w K mg base "_law_head" 2 3 ["_law_well","_law_atoms_here","_law_most"] dI)(s:mg "tuple"=none)(i:YC P w K mg base "_law_rows" 3 5 ["_law_cells","_law_extra","_law_tables_here","_law_pool_here","_law_most"] iQ)(q:YC P w K mg base "answers" 6 2 ["rows","question"] wM)(j:mg "list"=none)(m:mg "isinstance"=none)(e:YC P w K mg base "_law_all" 1 2 ["_law_pool_here","_law_many"] oY)(v:mg "len"=none)(u:YC P w K mg base "_law_put" 1 3 ["_law_atoms_here","_law_head_here","_law_answer"] oS)(n:mg "int"=none)(h:YC P w K mg base "_law_less" 4 2 ["_law_told","_law_at"] iU):FnOk P w K mg base DT 7 f fd ["_law_script"] (RD ⟨K,mg,P,w⟩ 1 IM):=by exists 0,UW,LA,LB,LC,LD,LE,LF,LG,LH,LI,FA,FB,FC,FD,qO,uM,uN,rG,AQ,uL,AR,AS
end
abbrev mgN:=@PySem.W.mg_none_of
abbrev nNo(K:PySem.W.Frag)(x:Str):Prop:=PySem.W.nsIn K mainGlobals x=some none
def all_mk{l:PySem.W.OpenLaw}{w:World}{K:B9}{h:Heap}{mg:B3}{fa:Addr}(X:K.In h)(p:h.Ns mainGlobals mg)(Q:mg "law"=some (.ref fa))(D0:DefM K mg "value_rank" (top 1))(D1:DefM K mg "tuple_rank" (top 2))(D2:DefM K mg "in_order" (top 3))(D3:DefM K mg "names_in" (top 6))(D4:DefM K mg "fitting" (top 7))(D5:DefM K mg "fits_of" (top 8))(D6:DefM K mg "values_at" (top 9))(D7:DefM K mg "cut" (top 10))(D8:DefM K mg "joined" (top 11))(D9:DefM K mg "marked_answers" (top 12))(D10:DefM K mg "answers" (top 13))(D11:DefM K mg "_law_cell_at" (top 15))(D12:DefM K mg "_law_digits" (top 16))(D13:DefM K mg "_law_take" (top 17))(D14:DefM K mg "_law_word" (top 18))(D15:DefM K mg "_law_pool" (top 19))(D16:DefM K mg "_law_tables" (top 20))(D17:DefM K mg "_law_row" (top 21))(D18:DefM K mg "_law_rows" (top 22))(D19:DefM K mg "_law_term" (top 23))(D20:DefM K mg "_law_atoms" (top 24))(D21:DefM K mg "_law_names_in" (top 25))(D22:DefM K mg "_law_head" (top 26))(D23:DefM K mg "_law_names" (top 27))(D24:DefM K mg "_law_order" (top 28))(D25:DefM K mg "_law_put" (top 29))(D26:DefM K mg "_law_all" (top 30))(D27:DefM K mg "_law_less" (top 31))(D28:DefM K mg "law" (top 32))
  {pD:Tok} (vF:PySem.W.nsIn K mainGlobals "EVERYWHERE"=some (some (.int (-1) pD)))
  (GA:nNo K "dict")
  (CI:nNo K "enumerate")
  (Nx:nNo K "int")
  (aR:nNo K "isinstance")
  (CG:nNo K "len")
  (FZ:nNo K "list")
  (dC:nNo K "range")
  (FY:nNo K "sorted")
  (Fe:nNo K "str")
  (pE:nNo K "tuple")
  (QL:nNo K "zip")
  : ∃fd:FuncData,(∀(s:Ŋ)(v:ŋ),BindsTo s fd ⟨[v],[]⟩ [("_law_script",v)])/\ ∀base:Heap,K.In base->base.Ns mainGlobals mg->FnOk l.prog w K mg base DT 7 fa fd ["_law_script"] (HW K IM):=by
 have i:=mgN X p GA;have n:=mgN X p CI;have r:=mgN X p Nx;have b:=mgN X p aR;have d:=mgN X p CG;have e:=mgN X p FZ;have a:=mgN X p dC;have m:=mgN X p FY;have q:=mgN X p Fe;have c:=mgN X p pE;have o:=mgN X p QL;have k:=PySem.W.mg_of X p vF;refine Tt D28 Q (λ_ _ _ _ _ _ s v=>.of_eq rfl) λbase f fd F=>?_;have U:=GS (P:=l.prog) (w:=w) (base:=base) D0 q b;have Y:=GT (P:=l.prog) (w:=w) (base:=base) D1 U c;have G2:=QF (P:=l.prog) (w:=w) (base:=base) D2 Y m;have G3:=QG (P:=l.prog) (w:=w) (base:=base) D3 e;have G4:=SS (P:=l.prog) (w:=w) (base:=base) D4 o;have G5:=SU D5 o G4;have J:=MK (P:=l.prog) (w:=w) (base:=base) D6 c;have Z:=Vj (P:=l.prog) (w:=w) (base:=base) D7 J i o;have G8:=ZI (P:=l.prog) (w:=w) (base:=base) D8 J i;have G9:=vB D9 k n G3 e Z G5 G8 J i;have T:=SV (P:=l.prog) (w:=w) (base:=base) D10 G2 G9 e;have C:=CP (P:=l.prog) (w:=w) (base:=base) D11 d;have y:=FS (P:=l.prog) (w:=w) (base:=base) D12 a;have j:=ML (P:=l.prog) (w:=w) (base:=base) D13;have u:=MM (P:=l.prog) (w:=w) (base:=base) D14 a j;have M:=MN (P:=l.prog) (w:=w) (base:=base) D15 a j u;have B:=FU (P:=l.prog) (w:=w) (base:=base) D16 a j;have A:=QI (P:=l.prog) (w:=w) (base:=base) D17 j d a c;have I:=MP (P:=l.prog) (w:=w) (base:=base) D18 y j A d;have z:=MQ (P:=l.prog) (w:=w) (base:=base) D19 j d;have H:=GU (P:=l.prog) (w:=w) (base:=base) D20 a j d z c;have S:=BA (P:=l.prog) (w:=w) (base:=base) D21;have G:=MS (P:=l.prog) (w:=w) (base:=base) D22 S a j d;have O:=GV (P:=l.prog) (w:=w) (base:=base) D23 u j a;have D:=GW (P:=l.prog) (w:=w) (base:=base) D24 q b;have N:=QJ (P:=l.prog) (w:=w) (base:=base) D25 i o c;have E:=QK (P:=l.prog) (w:=w) (base:=base) D26 a;have L:=MT (P:=l.prog) (w:=w) (base:=base) D27 D m;exact Vk (P:=l.prog) (w:=w) (base:=base) F B y C M O H j G c I T e b E d N r L
def walk{l:PySem.W.OpenLaw}{q:ō}{b:B0}{m:(Str->Option ŋ)->Heap->Prop}{e:World->Heap->Prop}{d:DefRec}{K:Params->PySem.W.Frag}(p:l.most=some 63)(c:d.params.defaults=[])
  (hY: ∀(w:World)(h:Heap),e w h->(K w.params).In h)
  (F: ∀(w:World)(mg:B3)(fa:Addr)(h:Heap),(K w.params).In h->h.Ns mainGlobals mg->mg d.name=some (.ref fa)->
   ∃fd:FuncData,(∀(s:Ŋ)(u:ŋ),BindsTo s fd ⟨[u],[]⟩ [("_law_script",u)])/\ ∀base:Heap,(K w.params).In base->base.Ns mainGlobals mg->FnOk l.prog w (K w.params) mg base DT 7 fa fd ["_law_script"] (HW (K w.params) IM)):
  PySem.W.WalkO q b m e l.row.toRowW d [] (λf vs=>PySem.call f vs):=
 L2.walk_of (n:=63) (k:=7) (x:="_law_script") (CX:=λ_=>DT) (sp:=λw=>HW (K w.params) IM) p (by decide) c ⟨rfl,by decide,by decide⟩ hY F
  (λw H a r j o i=>Bp o i (Fa r j)) λ_ _ _ _ _ z=>z
end My
end M
end L2
namespace PySem.W.Fast
def tw6420854339933408896:=0
theorem te6420854339933408896:tw6420854339933408896=0:=rfl
def tw13747082615077497735:=0
theorem te13747082615077497735:tw13747082615077497735=0:=rfl
def tw13083850227824474437:=0
theorem te13083850227824474437:tw13083850227824474437=0:=rfl
def tw12481733889944882949:=0
theorem te12481733889944882949:tw12481733889944882949=0:=rfl
def tw4732203547209403929:=0
theorem te4732203547209403929:tw4732203547209403929=0:=rfl
def tw13794768479939408022:=0
theorem te13794768479939408022:tw13794768479939408022=0:=rfl
def tw1310868941998540649:=0
theorem te1310868941998540649:tw1310868941998540649=0:=rfl
def tw7427838711603562447:=0
theorem te7427838711603562447:tw7427838711603562447=0:=rfl
def tw14753291575360178484:=0
theorem te14753291575360178484:tw14753291575360178484=0:=rfl
def tw13963708048611086575:=0
theorem te13963708048611086575:tw13963708048611086575=0:=rfl
def tw5086452552609617999:=0
theorem te5086452552609617999:tw5086452552609617999=0:=rfl
def tw87497778379831581:=0
theorem te87497778379831581:tw87497778379831581=0:=rfl
def tw2079690720598506252:=0
theorem te2079690720598506252:tw2079690720598506252=0:=rfl
def tw13100077048123566645:=0
theorem te13100077048123566645:tw13100077048123566645=0:=rfl
def tw3462959368371818103:=0
theorem te3462959368371818103:tw3462959368371818103=0:=rfl
def tw8935720350761261300:=0
theorem te8935720350761261300:tw8935720350761261300=0:=rfl
def tw1608277230984893866:=0
theorem te1608277230984893866:tw1608277230984893866=0:=rfl
end PySem.W.Fast
open PySem PySem.W PyProof.Rows
set_option maxRecDepth 100000 in
set_option maxHeartbeats 0 in
theorem PySem.Challenge.cw_mendsure_k33_answers_put_for_names_holds : PySem.Challenge.rw_mendsure_k33_answers_put_for_names.Holds := by
  w_on; o_law; k_head; (case hw => w_witness2)
  k_fill
  refine L2.M.My.walk (l := PySem.Challenge.rw_mendsure_k33_answers_put_for_names) rfl rfl (fun w h Y => PySem.W.kIn_of Y) ?F
  case F =>
    intro w mg fa h KX G a
    refine' L2.M.My.all_mk KX G a ?_ ?_ ?_ ?_ ?_ ?_ ?_ ?_ ?_ ?_ ?_ ?_ ?_ ?_ ?_ ?_ ?_ ?_ ?_ ?_ ?_ ?_ ?_ ?_ ?_ ?_ ?_ ?_ ?_ ?_ ?_ ?_ ?_ ?_ ?_ ?_ ?_ ?_ ?_ ?_ ?_
    any_goals first | (exact L2.M.def_mk (by k_is) (by k_is) (by k_is) (by k_is) KX G) | (k_is) | (show PySem.W.nsIn _ _ _ = _; k_is)
