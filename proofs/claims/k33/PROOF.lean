import PyProof.Rows.All
import Wide.All
import OpenK.AllK
import Wide.FinOn
import Lean
import PyProof.EqAt
import PyProof.EqKinds
import PyProof.TupleCall
import PySem.Challenge.RW_mendsure_k33_answers_put_for_names
set_option Elab.async false
set_option linter.all false
set_option hygiene false
set_option compiler.extract_closed false
local macro_rules|`(↑0)=>`(s.heap.objs.size)
local macro_rules|`(↑1)=>`(Inv X pins σ H s)
local macro_rules|`(↑2)=>`(S.length)
set_option maxRecDepth 100000
noncomputable section
set_option bootstrap.genMatcherCode false
open List (all_map all_toArray cons_lt_cons_iff drop_eq_getElem_cons drop_of_length_le drop_take drop_zero ext_getElem? filterMap_cons filterMap_cons_some find?_cons flatMap_cons flatten_cons forIn_cons forIn_nil forIn_toArray getElem?_append_left getElem?_append_right getElem?_cons_succ getElem?_drop getElem?_eq_none getElem?_map getElem?_of_mem getElem?_set_ne getElem?_set_self getElem?_take_of_lt getElem_drop getElem_inj getElem_mem getElem_take length_filterMap_le length_range length_zip lookup_cons map_congr_left map_drop mem_append_left mem_filterMap mem_flatMap mem_map_of_mem mem_of_getElem? mem_of_mem_take mem_range nodup_append nodup_cons nodup_nil of_mem_zip pairwise_append pairwise_map replicate_succ set_append_left set_append_right set_cons_succ take_append_drop take_length take_of_length_le zipIdx_cons zipIdx_nil zip_cons_cons zip_nil_left)
open Nat (add_assoc add_sub_cancel le_of_eq le_of_lt le_succ lt_irrefl lt_of_le_of_lt lt_trans min_eq_left min_eq_right mul_le_mul sub_self zero_le)
abbrev à:=@Nat.le_refl
abbrev á:=@List.getElem?_append_left
abbrev â:=@PySem.Heap.lt_size
abbrev ã:=@PySem.Heap.get?_push_size
abbrev ä:=@Option.some.inj
abbrev å:=@List.map_cons
abbrev æ:=@List.getElem?_append_right
abbrev ç:=@Nat.lt_of_lt_of_le
abbrev è:=@List.mem_of_getElem?
abbrev é:=@List.mem_append
abbrev ê:=@List.pairwise_append
abbrev ë:=@Nat.ne_of_lt
abbrev ì:=@PySem.wpAny_call_entry
abbrev í:=@Array.length_toList
abbrev î:=@PySem.wpAny_callSpecial?_slot
abbrev ï:=@Option.isSome_iff_exists
abbrev ð:=@List.map_append
abbrev ñ:=@PySem.wpAny_field
abbrev ò:=@Array.getElem?_toList
abbrev ó:=@List.mem_append_right
abbrev ô:=@PySem.wpAny_setField_rec
abbrev õ:=@Nat.le_trans
abbrev ö:=@List.getElem?_map
abbrev ø:=@Nat.ne_of_gt
abbrev ù:=@PySem.wpAny_holding
abbrev ú:=@List.length_nil
abbrev û:=@PySem.wpAny_mono
abbrev ü:=@Array.toList_append
abbrev ý:=@PySem.Heap.get?_update_other
abbrev þ:=@List.length_drop
abbrev ÿ:=@PySem.wpAny_loadPart'
abbrev Ā:=@List.take_of_length_le
abbrev ā:=@Classical.choose_spec
abbrev Ă:=@Nat.zero_add
abbrev ă:=@List.mem_append_left
abbrev Ą:=@List.length_set
abbrev ą:=@List.all_eq_true
abbrev Ć:=@PyProof.Rows.wpS_forRange
abbrev ć:=@PySem.wpAny_newObj_type
abbrev Ĉ:=@PySem.wpAny_attempt
abbrev ĉ:=@PySem.F.slot_zip_next
abbrev Ċ:=@List.length_replicate
abbrev ċ:=@List.length_filter_le
abbrev Č:=@PyProof.Rows.callWith_type1
abbrev č:=@PySem.wpAny_seqItems
abbrev Ď:=@Int.toNat_natCast
abbrev ď:=@PySem.Heap.SameBut.update
abbrev Đ:=@Array.getElem?_eq_getElem
abbrev đ:=@Nat.le_add_right
abbrev Ē:=@List.length_range
abbrev ē:=@List.getElem?_cons_succ
abbrev Ĕ:=@PySem.sizeLine_eq
abbrev ĕ:=@PySem.wpAny_rule
abbrev Ė:=@List.map_congr_left
abbrev ė:=@List.getElem?_set_self
abbrev Ę:=@of_decide_eq_true
abbrev ę:=@PySem.wpAny_dictEntries
abbrev Ě:=@List.mem_filter
abbrev ě:=@List.foldl_cons
abbrev Ĝ:=@Array.size_push
abbrev ĝ:=@PySem.wpAny_typeOf
abbrev Ğ:=@PySem.wpAny_isInstance
abbrev ğ:=@List.set_append_right
abbrev Ġ:=@PySem.wpAny_notOrdered_dict
abbrev ġ:=@PyProof.Rows.slot_tuple_getitem
abbrev Ģ:=@List.getElem?_set_ne
abbrev ģ:=@List.nil_append
abbrev Ĥ:=@List.nodup_append
abbrev ĥ:=@List.drop_eq_getElem_cons
abbrev Ħ:=@PySem.Around.under_plainId
abbrev ħ:=@PySem.wpAny_typeNameOfWhole_itemiter
abbrev Ĩ:=@List.zip_cons_cons
abbrev ĩ:=@PySem.wpAny_typeNameOfWhole_keyiter
abbrev Ī:=@List.getElem?_take_of_lt
abbrev ī:=@List.length_filterMap_le
abbrev Ĭ:=@List.filterMap_cons
abbrev ĭ:=@List.replicate_succ
abbrev Į:=@List.cons_append
abbrev į:=@PySem.Heap.size_push
abbrev İ:=@List.mem_map_of_mem
abbrev ı:=@Nat.lt_irrefl
abbrev Ĳ:=@List.map_map
abbrev ĳ:=@List.set_append_left
abbrev Ĵ:=@PySem.F.slot_tuple_iterator_next
abbrev ĵ:=@Array.perm_iff_toList_perm
abbrev Ķ:=@PySem.wpAny_truthy_bool
abbrev ķ:=@PySem.F.args_zip_next_1
abbrev ĸ:=@List.getElem?_eq_none_iff
abbrev Ĺ:=@PySem.call_meets
abbrev ĺ:=@List.extract_eq_take_drop
abbrev Ļ:=@List.length_zip
abbrev ļ:=@PySem.wpAny_typeNameOf_itemiter
abbrev Ľ:=@List.filterMap_cons_none
abbrev ľ:=@PySem.F.entry_zip_next
abbrev Ŀ:=@List.take_append_drop
abbrev ŀ:=@beq_eq_false_iff_ne
abbrev Ł:=@List.filterMap_cons_some
abbrev ł:=@PySem.wpAny_getItem_str_slice
abbrev Ń:=@List.length_eq_zero_iff
abbrev ń:=@Bool.not_true
abbrev Ņ:=@PySem.codeAny_builtin
abbrev ņ:=@PySem.wpAny_dictEpoch
abbrev Ň:=@List.lookup_cons
abbrev ň:=@Nat.lt_of_le_of_lt
abbrev ŉ:=PySem.Shared
abbrev Ŋ:=PySem.Value
abbrev ŋ:=PySem.Around
abbrev Ō:=PySem.Program
def q8{n:Nat}:n<=n:=Nat.le_refl n
def xF0:¬(false=true):=Bool.false_ne_true

abbrev dF0:=@decide_eq_false
abbrev dT0:=@decide_eq_true
abbrev iP:=@if_pos
abbrev iN:=@if_neg
abbrev mC:=@List.mem_cons
abbrev lC:=@List.length_cons
abbrev mO:=@List.mem_cons_of_mem
abbrev lM:=@List.length_map
abbrev nM:=@List.not_mem_nil
abbrev mS:=@List.mem_singleton
abbrev mF0:=@List.mem_cons_self
abbrev fT:=@Bool.false_eq_true
abbrev sA0:=@List.size_toArray
abbrev lS:=@List.length_singleton
abbrev eL:=@Int.emod_lt_of_pos
abbrev eN:=@Int.emod_nonneg
abbrev aE:=@Bool.and_eq_true
abbrev iF:=@if_false
abbrev aN:=@List.append_nil
abbrev lA:=@List.length_append
abbrev gS:=@List.getElem?_eq_some_iff
abbrev gE:=@List.getElem?_eq_getElem
abbrev wB:=@PySem.wpAny_bind
abbrev wP:=@PySem.wpAny_pure
abbrev hP0:=@PySem.Heap.get?_push_of_some
abbrev mM:=@List.mem_map
abbrev lT:=@List.length_take
abbrev aA:=@List.append_assoc
abbrev VP:=PySem.Value->PySem.Shared->Prop
abbrev C6:=PySem.W.Frag
abbrev C5:=List PySem.Expr
abbrev C4:=Option Int
abbrev C1:=List Bool
abbrev C0:=List (PySem.Addr×PySem.Obj)
abbrev B8:=PySem.Str->Option PySem.Value
abbrev B7:=List PySem.Str
abbrev B6:=List PySem.Addr
abbrev B0:=Array PySem.Value
abbrev A0:=List PySem.Value
abbrev Za:=List Int
abbrev Tk:=List (Int×Int)
abbrev Db:=List Nat
abbrev Ch:=List (List Nat)
set_option bootstrap.genMatcherCode true in
local macro_rules
 |`(#[0])=>`(by lia)
namespace L2
open PySem PySem.Spec PyProof.Rows
variable{pins:C0}{E:VP}{t':Nat}{pos:Pos}{us:A0}{tg:Expr}
abbrev Key:=Sum Int Str
noncomputable def lO:Key->Ŋ->Bool
 |.inl k,v=>Value.isInt k v
 |.inr x,v=>Value.isStrOf x v
noncomputable def We(w:World):Key->Int
 |.inl k=>hashInt k
 |.inr x=>hashStr w x
def zZ: ∀{k:Key}{v:Ŋ},lO k v=true->(∃i t,k=Sum.inl i/\v=Value.int i t)\/(∃x t,k=Sum.inr x/\v=Value.str x t)
 |.inl i,v,h=>by obtain⟨t,e⟩:=Value.isInt_shape h;exact .inl ⟨i,t,rfl,e⟩
 |.inr x,v,h=>by obtain⟨t,e⟩:=Value.isStrOf_shape h;exact .inr ⟨x,t,rfl,e⟩
def WD(i:Int)(t:Tok):lO (.inl i) (.int i t)=true:=by simp[lO,Value.isInt]
def WF(x:Str)(t:Tok):lO (.inr x) (.str x t)=true:=by simp[lO,Value.isStrOf]
def Nx(a b:Int):decide ((Sum.inl a:Key)=Sum.inl b)=(a==b):=by
 by_cases e:a=b
 .subst e;simp
 .have h: ¬(Sum.inl a:Key)=Sum.inl b:=λq=>e (Sum.inl.inj q);rw[dF0 h];exact(ŀ.mpr e).symm
def Ny(a b:Str):decide ((Sum.inr a:Key)=Sum.inr b)=decide (a=b):=by
 by_cases e:a=b
 .subst e;simp
 .have h: ¬(Sum.inr a:Key)=Sum.inr b:=λq=>e (Sum.inr.inj q);rw[dF0 h,dF0 e]
def Nz(a:Int)(b:Str):decide ((Sum.inl a:Key)=Sum.inr b)=false:=dF0 (λq=>nomatch q)
def Oa(a:Str)(b:Int):decide ((Sum.inr a:Key)=Sum.inl b)=false:=dF0 (λq=>nomatch q)
def xE(prog:Ō)(w:World):PySem.KeyKind prog w Key where
 is:=lO
 hash:=We w
 inj:=λv a b ha hb=>by
  rcases zZ ha with⟨i,t,rfl,rfl⟩|⟨x,t,rfl,rfl⟩
  .rcases zZ hb with⟨j,u,rfl,e⟩|⟨y,u,rfl,e⟩
   .injection e with e1 _;rw[e1]
   .exact nomatch e
  .rcases zZ hb with⟨j,u,rfl,e⟩|⟨y,u,rfl,e⟩
   .exact nomatch e
   .injection e with e1 _;rw[e1]
 byValue:=λk v h=>by rcases zZ h with⟨i,t,rfl,rfl⟩|⟨x,t,rfl,rfl⟩<;>rfl
 pyHash:=λhv h=>by
  rcases zZ hv with⟨i,t,rfl,rfl⟩|⟨x,t,rfl,rfl⟩
  .exact wpAny_pyHash_int h
  .exact wpAny_pyHash_str h
 eqBool:=λhu hv h=>by
  rcases zZ hu with⟨i,t,rfl,rfl⟩|⟨x,t,rfl,rfl⟩
  .rcases zZ hv with⟨j,u,rfl,rfl⟩|⟨y,u,rfl,rfl⟩
   .rw[Nx]at h;exact wpAny_eqBool_int h
   .rw[Nz]at h;exact SeqAt.EqAt.int_str i t y u _ _ _ _ h
  .rcases zZ hv with⟨j,u,rfl,rfl⟩|⟨y,u,rfl,rfl⟩
   .rw[Oa]at h;exact SeqAt.EqAt.str_int x t j u _ _ _ _ h
   .rw[Ny]at h;exact wpAny_eqBool_str h
 «strs»:=λk x t v h=>by
  rcases zZ h with⟨i,u,rfl,e⟩|⟨y,u,rfl,e⟩
  .exact nomatch e
  .injection e with e1 _
   subst e1;cases v<;>rfl
def AT(prog:Ō)(w:World)(i:Int)(t:Tok):(xE prog w).is (.inl i) (.int i t)=true:=WD i t
def pN(prog:Ō)(w:World)(x:Str)(t:Tok):(xE prog w).is (.inr x) (.str x t)=true:=WF x t
inductive V where
 |non|bl (b:Bool)|int (i:Int)|str (x:Str)|byt (b:Array UInt8)|flt (b:UInt64)|ref (a:Addr)|ty (n:String)
 deriving DecidableEq
variable{v:V}
def RelV:V->Ŋ->Prop
 |.non,u=>u=Value.none
 |.bl b,u=>u=Value.bool b
 |.int i,u=> ∃t,u=Value.int i t
 |.str x,u=> ∃t,u=Value.str x t
 |.byt b,u=> ∃t,u=Value.bytes b t
 |.flt b,u=> ∃t,u=Value.float b t
 |.ref a,u=>u=Value.ref a
 |.ty n,u=>u=Value.type n
abbrev Vals:List V->List Value->Prop:=Paired RelV
def Vals.length{xs:List V}(r:Vals xs us):xs.length=us.length:=Paired.length r
theorem Vals.get: ∀{xs:List V}{us:A0}{i:Nat}{x:V},Vals xs us->xs[i]? =some x-> ∃u,us[i]? =some u/\RelV x u
 |_,_,_,_,.nil,e=>by simp at e
 |_,_,0,_,.cons r _,e=>by simp at e;subst e;exact⟨_,rfl,r⟩
 |_,_,i+1,x,.cons _ t,e=>by obtain⟨u,h1,a⟩:=Vals.get t (by simpa using e);exact⟨u,by simpa using h1,a⟩
theorem Vals.set{x:V}{u:Ŋ}(r:RelV x u): ∀{xs:List V}{us:A0}(i:Nat),Vals xs us->Vals (xs.set i x) (us.set i u)
 |_,_,_,.nil=>.nil
 |_,_,0,.cons _ t=>.cons r t
 |_,_,i+1,.cons q t=>.cons q (Vals.set r i t)
theorem Vals.append: ∀{xs ys:List V}{us ws:A0},Vals xs us->Vals ys ws->Vals (xs++ys) (us++ws)
 |_,_,_,_,.nil,s=>s
 |_,_,_,_,.cons r t,s=>.cons r (Vals.append t s)
theorem Vals.take: ∀{xs:List V}{us:A0}(n:Nat),Vals xs us->Vals (xs.take n) (us.take n)
 |_,_,0,_=>.nil
 |_,_,_+1,.nil=>.nil
 |_,_,n+1,.cons r t=>.cons r (Vals.take n t)
theorem Vals.drop: ∀{xs:List V}{us:A0}(n:Nat),Vals xs us->Vals (xs.drop n) (us.drop n)
 |_,_,0,r=>r
 |_,_,_+1,.nil=>.nil
 |_,_,n+1,.cons _ t=>Vals.drop n t
theorem Vals.none_of: ∀{xs:List V}{us:A0}{i:Nat},Vals xs us->xs[i]? =none->us[i]? =none:=λ{xs us i} r e=>by have h1:=r.length;have a:=ĸ.mp e;exact ĸ.mpr #[0]
def Wf:Option V->Option Ŋ->Prop
 |some v,some u=>RelV v u
 |none,none=>True
 |_,_=>False
def KV{a:Type}:List (a×V)->List (a×Ŋ)->Prop:=Paired λ(p:a×V) (q:a×Ŋ)=>p.1=q.1/\RelV p.2 q.2
noncomputable def kV:Key->V
 |.inl i=>.int i
 |.inr x=>.str x
inductive HO where
 |lst (xs:List V)
 |tup (xs:List V)
 |dK (kvs:List (Key×V))|dT (kvs:List (List Key×V))
 |set (S:Int->Bool) (n:Nat)
 |ins (C dx:Addr) (fs:List (Str×V))
 |own (x:Addr)
 |xd (fs:List (Str×V))
 |met (f x:Addr)
 |rng (lo hi:Int)
 |frz (o:Obj) (u:HO)
 |tbl (ps:B0)
 |ext (φ:Heap->Prop)
variable{o:HO}
abbrev Hp:=Addr->Option HO
variable{H:Hp}
noncomputable def xR(H:Hp)(a:Addr)(o:HO):Hp:=λb=>if b=a then some o else H b
def zS{a:Addr}:xR H a o a=some o:=by unfold xR;rw[iP rfl]
def zG{a b:Addr}(h:b≠a):xR H a o b=H b:=by unfold xR;rw[iN h]
def zO{a b:Addr}(h:H a=some o)(h':H b=none):a≠b:=by intro e;subst e;rw[h]at h';cases h'
section
variable(P:Ō)(w:World)
def ObjOk(H:Hp)(h:Heap)(a:Addr):HO->Prop
 |.lst xs=>xs.length<=sizeLine/\ ∃(its:A0)(n:Nat),Vals xs its/\h.get? a=some {cls:=.type "list",data:=.seq its.toArray n}
 |.tup xs=>xs.length<=sizeLine/\ ∃its:List Ŋ,Vals xs its/\IsTup h a its.toArray
 |.dK kvs=>kvs.length<=sizeLine/\(a==sysModules)=false/\ ∃vs,KV kvs vs/\h.DictOf (xE P w) a vs
 |.dT kvs=>kvs.length<=sizeLine/\(a==sysModules)=false/\ ∃xs:List (List Key×Addr×Ŋ),
   Paired (λ(p:List Key×V) (q:List Key×Addr×Ŋ)=>p.1=q.1/\H q.2.1=some (.tup (p.1.map kV))/\RelV p.2 q.2.2) kvs xs/\
   ∃o es ep,h.get? a=some o/\o.ExactDict/\o.data=.dict es ep/\es.toList=xs.map (entryOfKey (tupleKind (xE P w)))/\(xs.map (·.1)).Nodup
 |.set S n=>h.SetOf (intKind P w) a S n
 |.ins C dx fs=>H dx=some (.own a)/\fs.length<=1000/\dx≠a/\h.get? a=some (PySem.W.instObj C dx)/\
   ∃b,h.Ns1 dx b/\(∀f,Wf (fs.lookup f) (b f))/\PySem.Within b (fs.map (·.1))
 |.own _=> ∃o,h.get? a=some o
 |.xd fs=> ∃b,h.Ns1 a b/\ ∀f,Wf (fs.lookup f) (b f)
 |.rng lo hi=> ∃t u v,h.get? a=some {cls:=.type "range",data:=.fields #[.int lo t,.int hi u,.int 1 v]}
 |.frz o u=>h.get? a=some o/\ObjOk H h a u
 |.tbl ps=>h.get? a=some {cls:=.none,data:=.fields ps}
 |.met f x=>h.get? a=some (PySem.W.methodObj (.ref f) (.ref x))
 |.ext φ=>φ h/\(∃o,h.get? a=some o)/\ ∀h1 c:Heap,φ h1->(∀o,h1.get? a=some o->c.get? a=some o)->φ c
def HOk(H:Hp)(h:Heap):Prop:= ∀a o,H a=some o->ObjOk P w H h a o
end
section
variable{P:Ō}{w:World}{H H':Hp}{h h':Heap}{a:Addr}{o:HO}
def ObjOk.lt(x:ObjOk P w H h a o):a<h.objs.size:=by
 cases o with
 |lst xs=>obtain⟨_,_,_,_,e⟩:=x;exact â e
 |tup xs=>obtain⟨_,_,_,p⟩:=x;exact p.lt
 |dK kvs=>obtain⟨_,_,_,_,o,_,_,e,_⟩:=x;exact â e
 |dT kvs=>obtain⟨_,_,_,_,o,_,_,e,_⟩:=x;exact â e
 |set S n=>obtain⟨o,_,_,_,e,_⟩:=x;exact â e
 |ins C dx fs=>obtain⟨_,_,_,e,_⟩:=x;exact â e
 |own y=>obtain⟨_,e⟩:=x;exact â e
 |xd fs=>obtain⟨_,⟨_,_,_,e,_⟩,_⟩:=x;exact â e
 |rng lo hi=>obtain⟨_,_,_,e⟩:=x;exact â e
 |frz ob u=>obtain⟨e,_⟩:=x;exact â e
 |tbl ps=>exact â x
 |met f y=>exact â x
 |ext φ=>obtain⟨_,⟨_,e⟩,_⟩:=x;exact â e
theorem Paired.mapP{α β:Type}{F G:α->β->Prop}: ∀{c:List α}{l₂:List β},Paired F c l₂->(∀a b,F a b->G a b)->Paired G c l₂
 |_,_,.nil,_=>.nil
 |_,_,.cons r t,f=>.cons (f _ _ r) (Paired.mapP t f)
def ObjOk.stay(x:ObjOk P w H h a o)(k: ∀b u,(b=a\/H b=some (.own a))->h.get? b=some u->h'.get? b=some u)
  (ho: ∀b,H b=some (.own a)->H' b=some (.own a)) (ht: ∀b xs,H b=some (.tup xs)->H' b=some (.tup xs)):ObjOk P w H' h' a o:=by
 induction o with
 |lst xs=>obtain⟨z,its,n,r,e⟩:=x;exact⟨z,its,n,r,k _ _ (.inl rfl) e⟩
 |tup xs=>obtain⟨z,its,r,i,e,c⟩:=x;exact⟨z,its,r,i,k _ _ (.inl rfl) e,c⟩
 |dK kvs=>obtain⟨z,y,vs,r,i,es,ep,e,c⟩:=x;exact⟨z,y,vs,r,i,es,ep,k _ _ (.inl rfl) e,c⟩
 |dT kvs=>
  obtain⟨z,y,xs,r,i,es,ep,e,c⟩:=x;exact⟨z,y,xs,Paired.mapP r λp q z=>⟨z.1,ht _ _ z.2.1,z.2.2⟩,i,es,ep,k _ _ (.inl rfl) e,c⟩
 |set S n=>obtain⟨i,es,ep,t,e,c⟩:=x;exact⟨i,es,ep,t,k _ _ (.inl rfl) e,c⟩
 |ins C dx fs=>
  obtain⟨d,z,ne,e,j,⟨od,es,ep,m,c⟩,r⟩:=x;exact⟨ho _ d,z,ne,k _ _ (.inl rfl) e,j,⟨od,es,ep,k _ _ (.inr d) m,c⟩,r⟩
 |own y=>obtain⟨i,e⟩:=x;exact⟨i,k _ _ (.inl rfl) e⟩
 |xd fs=>obtain⟨j,⟨od,es,ep,e,c⟩,r⟩:=x;exact⟨j,⟨od,es,ep,k _ _ (.inl rfl) e,c⟩,r⟩
 |rng lo hi=>obtain⟨t,u,v,e⟩:=x;exact⟨t,u,v,k _ _ (.inl rfl) e⟩
 |frz i u ih=>obtain⟨e,q⟩:=x;exact⟨k _ _ (.inl rfl) e,ih q⟩
 |tbl ps=>
  have e:=x;exact k a _ (.inl rfl) e
 |met f y=>
  have e:h.get? a=some _:=x;show h'.get? a=some _;exact k a _ (.inl rfl) e
 |ext φ=>obtain⟨p,⟨o,e⟩,st⟩:=x;exact⟨st _ _ p λo q=>k _ _ (.inl rfl) q,⟨o,k _ _ (.inl rfl) e⟩,st⟩
def HOk.lt(x:HOk P w H h)(e:H a=some o):a<h.objs.size:=(x a o e).lt
def HOk.fresh(x:HOk P w H h)(e:h.objs.size<=a):H a=none:=by
 cases q:H a with
 |none=>rfl
 |some u=>exact absurd (ç (x.lt q) e) (ı _)
def HOk.kept(x:HOk P w H h)(k: ∀b u,h.get? b=some u->h'.get? b=some u):HOk P w H h':=λa o e=>
 (x a o e).stay (λb u _ q=>k b u q) (λ_ q=>q) λ_ _ q=>q
def HOk.laid(x:HOk P w H h)(k: ∀b u,h.get? b=some u->h'.get? b=some u)(j:h.objs.size<=a)(new:ObjOk P w (xR H a o) h' a o):HOk P w (xR H a o) h':=λb u e=>by
 have i:=x.fresh j;by_cases d:b=a
 .subst d;rw[zS]at e;cases e;exact new
 .rw[zG d]at e;exact(x b u e).stay (λc v _ q=>k c v q) (λc q=>by rw[zG (zO q i)];exact q) λc xs q=>by rw[zG (zO q i)];exact q
end
def Rd(H:Hp)(a:Addr)(u:HO):Prop:=H a=some u\/ ∃o,H a=some (.frz o u)
def Rd.ok{P:Ō}{w:World}{h:Heap}{a:Addr}{u:HO}(r:Rd H a u)(x:HOk P w H h):ObjOk P w H h a u:=by
 rcases r with r|⟨o,r⟩
 .exact x a u r
 .obtain⟨_,q⟩:=x a _ r;exact q
def Ob:Option HO->Prop
 |some (.lst _)=>True
 |some (.dK _)=>True
 |some (.dT _)=>True
 |some (.set _ _)=>True
 |some (.ins _ _ _)=>True
 |some (.ext _)=>True
 |_=>False
section
variable{P:Ō}{w:World}{H:Hp}{h h':Heap}{x e:Addr}{o':HO}
theorem HOk.write(ok:HOk P w H h)(n:Ob (H x))(s:e=x\/H e=some (.own x))(k: ∀b u,b≠e->h.get? b=some u->h'.get? b=some u)(o: ∃u,h'.get? e=some u)
  (new:ObjOk P w (xR H x o') h' x o'):HOk P w (xR H x o') h':=λb u q=>by
 have d: ∀c y,H c=some (.own y)->c≠x:=λc y r z=>by subst z;rw[r]at n;exact n
 have i: ∀c xs,H c=some (.tup xs)->c≠x:=λc xs r z=>by subst z;rw[r]at n;exact n
 by_cases j:b=x
 .subst j;rw[zS]at q;cases q;exact new
 .rw[zG j]at q;by_cases a:b=e
  .have p:H b=some (.own x):=by
    rcases s with z|z
    .exact absurd (a.trans z) j
    .rw[a];exact z
   rw[q]at p;cases p;obtain⟨v,A⟩:=o;exact⟨v,by rw[a];exact A⟩
  .refine(ok b u q).stay (λc v m r=>k c v ?_ r) (λc r=>by rw[zG (d c b r)];exact r) λc xs r=>by rw[zG (i c xs r)];exact r
   rcases m with rfl|m
   .exact a
   .rintro rfl;rcases s with z|z
    .exact d c b m z
    .rw[m]at z;cases z;exact j rfl
end
structure Un(fs ex:B6)(H H':Hp)(h h':Heap):Prop where
 keep: ∀b o,h.get? b=some o->H b=none->b∉fs->b∉ex->h'.get? b=some o
 slot: ∀b o,h.get? b=some o->H b=none->b∈fs->b∉ex-> ∃sl,h'.get? b=some {o with slots:=sl}
 free: ∀b o,h.get? b=some o->H b=none->b∉ex->H' b=none
 there: ∀b o,h.get? b=some o->b∉ex-> ∃o',h'.get? b=some o'
 tups: ∀b xs,H b=some (.tup xs)->H' b=some (.tup xs)
 frzs: ∀b o u,H b=some (.frz o u)->H' b=some (.frz o u)
 tbls: ∀b ps,H b=some (.tbl ps)-> ∃more,H' b=some (.tbl (ps++more))
section
variable{fs ex:B6}{H H1:Hp}{h h1 h':Heap}{a x e:Addr}{o:HO}
def Un.any(u:Un fs ex H H1 h h1){b:Addr}{ob:Obj}(q:h.get? b=some ob)(n:H b=none)(c:b∉ex): ∃sl,h1.get? b=some {ob with slots:=sl}:=by
 by_cases a:b∈fs
 .exact u.slot b ob q n a c
 .exact⟨_,u.keep b ob q n a c⟩
def Un.kept(k: ∀b u,h.get? b=some u->h'.get? b=some u):Un fs ex H H h h':=
 ⟨λb a q _ _ _=>k b a q,λb a q _ _ _=>⟨_,k b a q⟩,λ_ _ _ n _=>n,λb a q _=>⟨a,k b a q⟩,λ_ _ q=>q,λ_ _ _ q=>q,λ_ ps q=>⟨#[],by rw[q];simp⟩⟩
def Un.refl:Un fs ex H H h h:=Un.kept λ_ _ q=>q
def Un.laid(k: ∀b u,h.get? b=some u->h'.get? b=some u)(hp:h.objs.size<=a)(hn:H a=none):Un fs ex H (xR H a o) h h' where
 keep:=λb u q _ _ _=>k b u q
 slot:=λb u q _ _ _=>⟨_,k b u q⟩
 free:=λb u q n _=>by rw[zG (ë (ç (â q) hp))];exact n
 there:=λb u q _=>⟨u,k b u q⟩
 tups:=λb xs q=>by rw[zG (zO q hn)];exact q
 frzs:=λb u xs q=>by rw[zG (zO q hn)];exact q
 tbls:=λb ps q=>⟨#[],by rw[zG (zO q hn),q];simp⟩
def Un.write(c:Ob (H x))(s:e=x\/H e=some (.own x))(k: ∀b u,b≠e->h.get? b=some u->h'.get? b=some u)(i: ∃u,h'.get? e=some u):Un fs ex H (xR H x o) h h':=by
 have m: ∀b,H b=none->b≠x:=λb n z=>by subst z;rw[n]at c;exact c
 have j: ∀b,H b=none->b≠e:=λb n z=>by
  subst z;rcases s with r|r
  .exact m b n r
  .rw[n]at r;cases r
 have d: ∀b u,H b=some u-> ¬Ob (some u)->b≠x:=λb u q p z=>by subst z;rw[q]at c;exact p c
 refine⟨λb u q n _ _=>k b u (j b n) q,λb u q n _ _=>⟨_,k b u (j b n) q⟩,λb u q n _=>by rw[zG (m b n)];exact n,λb u q _=>?_,
  λb xs q=>by rw[zG (d b _ q λz=>z)];exact q,λb u xs q=>by rw[zG (d b _ q λz=>z)];exact q,λb ps q=>⟨#[],by rw[zG (d b _ q λz=>z),q];simp⟩⟩
 by_cases a:b=e
 .subst a;exact i
 .exact⟨u,k b u a q⟩
end
noncomputable def trk(h:Heap)(H:Hp):List Addr:=(List.range h.objs.size).filter λa=>(H a).isSome
def WG(h:Heap)(H:Hp):Heap:=PySem.W.hideAll h (trk h H)
def WH(h:Heap)(H:Hp):(WG h H).objs.size=h.objs.size:=PySem.W.hideAll_size _ _
def ZL{h:Heap}{b:Addr}{o:Obj}(e:h.get? b=some o)(n:H b=none):(WG h H).get? b=some o:=
 PySem.W.hideAll_get _ e λa=>by have q:=(Ě.mp a).2;rw[n]at q;simp at q
def Fn{h:Heap}{b:Addr}{o:Obj}(e:(WG h H).get? b=some o):h.get? b=some o/\H b=none:=by
 have a:=PySem.W.of_hideAll _ e;refine⟨a,?_⟩
 cases q:H b with
 |none=>rfl
 |some x=>
  have c:b∈trk h H:=Ě.mpr ⟨mem_range.mpr (â a),by simp[q]⟩;have z:(WG h H).get? b=none:=PySem.W.hideAll_none _ c;rw[z]at e;cases e
noncomputable def Fo(g h:Heap)(L:Addr):List (Addr×Obj):=(List.range h.objs.size).filterMap λa=>if a=L\/(g.get? a).isSome=true then none else(h.get? a).map λo=>(a,o)
def rest(g h:Heap)(L d:Addr):List (Addr×Obj):=(Fo g h L).filter λp=>decide (p.1≠d)
structure Mod(K:C6)(mg:B8)(base:Heap):Prop where
 kin:K.In base
 glob:base.Ns mainGlobals mg
 blt: ∃mb,base.Ns builtinsNs mb/\ ∀x:Str,x≠"__name__"->mb x=bootBuiltins x
 nolimit:base.NoLimit
structure Cx where
 prog:Ō
 w:World
 K:PySem.W.Frag
 mg:Str->Option Ŋ
 base:Heap
 A:ŋ
 N:List Str
 s₀:ŉ
 H₀:Hp
 env:Env
 outer:List Env
 stack:List Env
 ex:List Addr
 fn:Str->Bool
 calm:Bool
 pn:List (Addr×Obj)
 xe:VP
variable{X:Cx}
noncomputable def WI(l:List Env):List Addr:=l.filterMap (·.frame)
abbrev Cx.fs(X:Cx):List Addr:=WI X.outer
def Wg(sc:Scope)(x:Str):Prop:=sc.names.lookup x=some .local\/sc.names.lookup x=some .cell\/sc.names.lookup x=some .free
def Loc(sc:Scope)(x:Str):Prop:=sc.names.lookup x=some .local\/sc.names.lookup x=some .cell
def Look(a:Env)(h:Heap)(m:B8)(x:Str)(u:Ŋ):Prop:=
 (a.kindOf x=some .local/\m x=some u)\/((a.kindOf x=some .cell\/a.kindOf x=some .free)/\ ∃c,a.cells.lookup x=some c/\h.IsCell c (some u))
structure Cx.Ok(X:Cx):Prop where
 mod:Mod X.K X.mg X.base
 kind:X.env.scope.kind=.function
 glob:X.env.globals=mainGlobals
 blt:X.env.builtins=builtinsNs
 above:X.s₀.heap.objs.size<=X.env.locals
 inj: ∀x y c,X.env.cells.lookup x=some c->X.env.cells.lookup y=some c->x=y
 has: ∀x,(X.env.kindOf x=some .cell\/X.env.kindOf x=some .free)-> ∃c,X.env.cells.lookup x=some c
 cab: ∀x c,X.fn x=true->X.env.cells.lookup x=some c->X.s₀.heap.objs.size<=c
 hd:X.calm=true->X.A.handled=none
 frames:X.A.frames=some X.stack
 stk:X.stack=X.outer\/(X.stack=X.env::X.outer/\X.env.frame=some X.env.locals)
 exf: ∀b∈X.ex,b≠X.env.locals/\ ∀x c,X.env.cells.lookup x=some c->c≠b
 bs: ∀b o,X.base.get? b=some o->X.s₀.heap.get? b=some o/\X.H₀ b=none
 bsz:X.base.objs.size<=X.s₀.heap.objs.size
 noex: ∀b o,X.base.get? b=some o->b∉X.ex
 exfs: ∀b∈X.ex,b∉X.fs
 funs:X.s₀.heap.FunFrames X.base X.outer
 frf: ∀b∈X.fs,X.H₀ b=none
structure Inv(X:Cx)(pins:C0)(σ:List (Option V))(H:Hp)(s:ŉ):Prop where
 ok:X.Ok
 os:s.os=X.s₀.os
 bare:AllBare s.gens
 base:Un X.fs X.ex X.H₀ H X.s₀.heap s.heap
 loc: ∃m,s.heap.Ns X.env.locals m/\ ∀(i:Nat)(x:Str)(v:V),X.N[i]? =some x->σ[i]? =some (some v)->Wg X.env.scope x-> ∃u,RelV v u/\Look X.env s.heap m x u
 cell: ∀x c,X.env.cells.lookup x=some c-> ∃v,s.heap.IsCell c v
 free:H X.env.locals=none
 freeC: ∀x c,X.env.cells.lookup x=some c->H c=none
 pin: ∀p∈X.pn++pins,s.heap.get? p.1=some p.2/\H p.1=none/\p.1≠X.env.locals/\p.1∉X.fs/\ ∀v,p.2.data≠.cell v
 hok:HOk X.prog X.w H s.heap
 len:σ.length=X.N.length
section
variable{X:Cx}{pins:C0}{σ:List (Option V)}{H H':Hp}{s:ŉ}{h':Heap}
def Cx.Ok.nofr(ok:X.Ok){b:Addr}{o:Obj}(e:X.base.get? b=some o):b∉X.fs:=λa=>by have:=(ok.funs.mem a).1;rw[e]at this;cases this
def Inv.bs(I:↑1): ∀b o,X.base.get? b=some o->s.heap.get? b=some o/\H b=none:=λb o e=>
 ⟨I.base.keep b o (I.ok.bs b o e).1 (I.ok.bs b o e).2 (I.ok.nofr e) (I.ok.noex b o e),I.base.free b o (I.ok.bs b o e).1 (I.ok.bs b o e).2 (I.ok.noex b o e)⟩
def Inv.bk(I:↑1): ∀b o,X.base.get? b=some o->s.heap.get? b=some o:=λb o e=>(I.bs b o e).1
def Inv.mod(I:↑1):Mod X.K X.mg X.base:=I.ok.mod
def Inv.kIn(I:↑1):X.K.In s.heap:=I.ok.mod.kin.keeps I.bk
def Inv.lt(I:↑1):X.env.locals<s.heap.objs.size:=let ⟨_,a,_⟩:=I.loc;a.lt
def Inv.sz(I:↑1):X.s₀.heap.objs.size<=s.heap.objs.size:=õ I.ok.above (le_of_lt I.lt)
def Inv.nofs(I:↑1){a:Addr}(h:↑0<=a):a∉X.fs:=λc=>by obtain⟨_,o,b,_⟩:=I.ok.funs.mem c;exact absurd (ç (â b) (õ I.sz h)) (ı _)
def Inv.cne(I:↑1): ∀x c,X.env.cells.lookup x=some c->c≠X.env.locals:=λx c e z=>by obtain⟨v,o,d,hd⟩:=I.cell x c e;obtain⟨m,⟨o',es,ep,b,a,_⟩,_⟩:=I.loc;rw[z,b]at d;cases d;rw[a]at hd;cases hd
def Inv.funs(I:↑1):s.heap.FunFrames X.base X.outer:=by
 have all: ∀(l:List Env),(∀b∈WI l,b∈X.fs)->X.s₀.heap.FunFrames X.base l->s.heap.FunFrames X.base l:=by
  intro l
  induction l with
  |nil=>intro _ _;trivial
  |cons env r ih=>
   intro hs h;obtain⟨i,⟨L,o,c,j,k,hd⟩,m⟩:=h;have d:=hs L (by unfold WI;rw[Ĭ,c];exact mF0);obtain⟨sl,e⟩:=I.base.slot L o k (I.ok.frf L d) d λz=>I.ok.exfs L z d;exact⟨i,⟨L,_,c,j,e,hd⟩,ih (λb a=>hs b (by unfold WI;rw[Ĭ,c];exact mO _ a)) m⟩
 exact all X.outer (λ_ a=>a) I.ok.funs
def Inv.stack(I:↑1):s.heap.FunFrames X.base X.stack:=by
 rcases I.ok.stk with e|⟨e,hf⟩
 .rw[e];exact I.funs
 .rw[e];obtain⟨m,a,_⟩:=I.loc;refine .cons (by rw[I.ok.kind];decide) hf a ?_ I.funs;exact Heap.get?_none_of_le (õ I.ok.bsz I.ok.above)
def Inv.stkSub(I:↑1): ∀b∈WI X.stack,b∈X.env.locals::X.fs:=λb a=>by
 rcases I.ok.stk with e|⟨e,hf⟩
 .rw[e]at a;exact mO _ a
 .rw[e]at a;unfold WI at a;rw[Ĭ,hf]at a;exact a
def Inv.stkFree(I:↑1): ∀b∈WI X.stack,H b=none:=λb a=>by
 rcases mC.mp (I.stkSub b a)with e|a
 .rw[e];exact I.free
 .obtain⟨_,o,c,_⟩:=I.ok.funs.mem a;exact I.base.free b o c (I.ok.frf b a) λz=>I.ok.exfs b z a
def Inv.step{J:Array GenState}{O:Drawn}{ch:B6}(I:↑1)
  (hch: ∀b∈ch,(b∈X.ex\/X.s₀.heap.objs.size<=b)/\b≠X.env.locals/\(∀x c,X.env.cells.lookup x=some c->c≠b)/\ ∀p∈X.pn++pins,p.1≠b)
  (keep: ∀b o,b≠X.env.locals->b∉X.fs->b∉ch->s.heap.get? b=some o->H b=none->h'.get? b=some o)
  (slot: ∀b o,b≠X.env.locals->b∈X.fs->b∉ch->s.heap.get? b=some o->H b=none-> ∃sl,h'.get? b=some {o with slots:=sl}) (free: ∀b o,b∉ch->s.heap.get? b=some o->H b=none->H' b=none)
  (there: ∀b o,b∉ch->s.heap.get? b=some o-> ∃o',h'.get? b=some o')
  (tups: ∀b xs,H b=some (.tup xs)->H' b=some (.tup xs)) (frzs: ∀b o u,H b=some (.frz o u)->H' b=some (.frz o u)) (tbls: ∀b ps,H b=some (.tbl ps)-> ∃E,H' b=some (.tbl (ps++E)))
  (ns: ∀m,s.heap.Ns X.env.locals m->h'.Ns X.env.locals m) (hok:HOk X.prog X.w H' h') (hg:AllBare J):
  Inv X pins σ H' {s with heap:=h',gens:=J,drawn:=O,toks:=t'}:=by
 have D: ∀b o,X.s₀.heap.get? b=some o->b≠X.env.locals:=λb o e=>ë (ç (â e) I.ok.above)
 have A: ∀b o,X.s₀.heap.get? b=some o->b∉X.ex->b∉ch:=λb o e a B=>by
  rcases (hch b B).1 with z|z
  .exact a z
  .exact absurd (ç (â e) z) (ı _)
 have h: ∀x c,X.env.cells.lookup x=some c-> ∀v,s.heap.IsCell c v->h'.IsCell c v:=λx c e v ⟨o,C,hd⟩=>by
  have j:=λz=>(hch c z).2.2.1 x c e rfl;by_cases K:c∈X.fs
  .obtain⟨sl,q⟩:=slot c o (I.cne x c e) K j C (I.freeC x c e);exact⟨_,q,hd⟩
  .exact⟨o,keep c o (I.cne x c e) K j C (I.freeC x c e),hd⟩
 refine⟨I.ok,I.os,hg,⟨λb o e n B a=>?_,λb o e n B a=>?_,λb o e n a=>?_,λb o e a=>?_,λb xs e=>tups b xs (I.base.tups b xs e),λb o xs e=>frzs b o xs (I.base.frzs b o xs e),λb ps e=>?_⟩,?_,λx c e=>?_,?_,λx c e=>?_,λp L=>?_,hok,I.len⟩
 .exact keep b o (D b o e) B (A b o e a) (I.base.keep b o e n B a) (I.base.free b o e n a)
 .obtain⟨sl,y⟩:=I.base.slot b o e n B a;obtain⟨G,F⟩:=slot b _ (D b o e) B (A b o e a) y (I.base.free b o e n a);exact⟨G,F⟩
 .obtain⟨o',y⟩:=I.base.there b o e a;exact free b o' (A b o e a) y (I.base.free b o e n a)
 .obtain⟨o',y⟩:=I.base.there b o e a;exact there b o' (A b o e a) y
 .obtain⟨Q,y⟩:=I.base.tbls b ps e;obtain⟨S,F⟩:=tbls b _ y;exact⟨_,by rw[F,Array.append_assoc]⟩
 .obtain⟨m,P,M⟩:=I.loc;refine⟨m,ns m P,λi x v y F N=>?_⟩;obtain⟨u,r,l⟩:=M i x v y F N;refine⟨u,r,?_⟩;rcases l with l|⟨k,c,e,z⟩
  .exact .inl l
  .exact .inr ⟨k,c,e,h x c e _ z⟩
 .obtain⟨v,z⟩:=I.cell x c e;exact⟨v,h x c e v z⟩
 .obtain⟨m,⟨o,_,_,C,_⟩,_⟩:=I.loc;exact free _ o (λz=>(hch _ z).2.1 rfl) C I.free
 .obtain⟨v,o,C,hd⟩:=I.cell x c e;exact free c o (λz=>(hch c z).2.2.1 x c e rfl) C (I.freeC x c e)
 .obtain⟨e,n,ne,nf,d⟩:=I.pin p L;have j:=λz=>(hch p.1 z).2.2.2 p L rfl;exact⟨keep p.1 p.2 ne nf j e n,free p.1 p.2 j e n,ne,nf,d⟩
def Inv.un(I:Inv X pins σ H s)(u:Un X.fs [] H H' s.heap h')(h:HOk X.prog X.w H' h'):Inv X pins σ H' {s with heap:=h',toks:=t'}:=by obtain⟨m,⟨o,es,ep,j,r⟩,_⟩:=id I.loc;obtain⟨sl,q⟩:=u.any j I.free (by simp);exact I.step (ch:=[]) (λ_ z=>nomatch z) (λb o _ c _ e n=>u.keep b o e n c (by simp)) (λb o _ c _ e n=>u.slot b o e n c (by simp)) (λb o _ e n=>u.free b o e n (by simp)) (λb o _ e=>u.there b o e (by simp)) u.tups u.frzs u.tbls (λv k=>by obtain⟨o',d,i,a,p⟩:=k;rw[j]at a;cases a;exact⟨_,d,i,q,p⟩) h I.bare
def Inv.call{q:Array GenState}{D:Drawn}{ch:B6}(I:↑1)(u:Un (WI X.stack) ch H H' s.heap h')(i:HOk X.prog X.w H' h')(y:AllBare q)
  (hch: ∀b∈ch,(b∈X.ex\/X.s₀.heap.objs.size<=b)/\b≠X.env.locals/\(∀x c,X.env.cells.lookup x=some c->c≠b)/\ ∀p∈X.pn++pins,p.1≠b):
  Inv X pins σ H' {s with heap:=h',gens:=q,drawn:=D,toks:=t'}:=by
 obtain⟨m,⟨o,es,ep,v,r⟩,_⟩:=id I.loc;obtain⟨sl,k⟩:=u.any v I.free λz=>(hch _ z).2.1 rfl;exact I.step hch (λb o k A a e n=>u.keep b o e n (λz=>(mC.mp (I.stkSub b z)).elim k A) a) (λb o _ _ a e n=>u.any e n a) (λb o a e n=>u.free b o e n a) (λb o a e=>u.there b o e a) u.tups u.frzs u.tbls (λE B=>by obtain⟨o',h,j,d,C⟩:=B;rw[v]at d;cases d;exact⟨_,h,j,k,C⟩) i y
def Inv.turned{it:Addr}(I:↑1)(k: ∀b o,b≠it->s.heap.get? b=some o->h'.get? b=some o)(w:H it=none)(h:it≠X.env.locals)
  (h1:it∈X.ex\/X.s₀.heap.objs.size<=it) (h2: ∀x c,X.env.cells.lookup x=some c->c≠it) (h3: ∀p∈X.pn++pins,p.1≠it):Inv X pins σ H {s with heap:=h',toks:=t'}:=by
 have d: ∀b u,H b=some u->b≠it:=λb u e z=>by rw[z,w]at e;cases e
 refine I.step (ch:=[it]) (λb i=>?_) (λb o _ _ a e _=>k b o (λz=>a (by simp[z])) e) (λb o _ _ a e _=>⟨_,k b o (λz=>a (by simp[z])) e⟩) (λ_ _ _ _ n=>n)
  (λb o a e=>⟨o,k b o (λz=>a (by simp[z])) e⟩) (λ_ _ e=>e) (λ_ _ _ e=>e) (λb ps e=>⟨#[],by rw[e];simp⟩) (λm j=>?_) (λb u e=>?_) I.bare
 .have e:=by simpa using i
  subst e;exact⟨h1,h,h2,h3⟩
 .obtain⟨o,es,ep,y,r⟩:=j;exact⟨o,es,ep,k _ o (Ne.symm h) y,r⟩
 .refine(I.hok b u e).stay (λc v a q=>k c v ?_ q) (λ_ q=>q) λ_ _ q=>q;rcases a with z|z
  .rw[z];exact d b u e
  .exact d c _ z
def Inv.tok(I:↑1)(t:Nat):Inv X pins σ H {s with toks:=t}:=I.un Un.refl I.hok
def Inv.kept(I:↑1)(k: ∀b u,s.heap.get? b=some u->h'.get? b=some u):Inv X pins σ H {s with heap:=h',toks:=t'}:=I.un (Un.kept k) (I.hok.kept k)
def Inv.laid{a:Addr}(I:↑1)(k: ∀b u,s.heap.get? b=some u->h'.get? b=some u)(c:↑0<=a)(new:ObjOk X.prog X.w (xR H a o) h' a o):
  Inv X pins σ (xR H a o) {s with heap:=h',toks:=t'}:=I.un (Un.laid k c (I.hok.fresh c)) (I.hok.laid k c new)
def Inv.write{x e:Addr}(I:↑1)(c:Ob (H x))(d:e=x\/H e=some (.own x))(k: ∀b u,b≠e->s.heap.get? b=some u->h'.get? b=some u)(a: ∃u,h'.get? e=some u)
  (new:ObjOk X.prog X.w (xR H x o) h' x o):Inv X pins σ (xR H x o) {s with heap:=h',toks:=t'}:=I.un (Un.write c d k a) (I.hok.write c d k a new)
def Inv.pins_of{a:C0}(I:↑1)(h: ∀p∈a,s.heap.get? p.1=some p.2/\H p.1=none/\p.1≠X.env.locals/\p.1∉X.fs/\ ∀v,p.2.data≠.cell v):Inv X a σ H s:=
 ⟨I.ok,I.os,I.bare,I.base,I.loc,I.cell,I.free,I.freeC,λp b=>(é.mp b).elim (λz=>I.pin p (ă _ z)) (h p),I.hok,I.len⟩
def MS{N:B7}(d:N.Nodup){i j:Nat}{x:Str}(a:N[i]? =some x)(b:N[j]? =some x):i=j:=by obtain⟨h1,c⟩:=gS.mp a;obtain⟨h,e⟩:=gS.mp b;exact(getElem_inj d).mp (c.trans e.symm)
abbrev Q1(X:Cx)(x:Str):Prop:=X.fn x=true\/X.env.scope.names.lookup x=some .local
def GW{M:Model}{A:ŋ}{i:Nat}{x:Str}{u:Ŋ}{Q:Unit->ŉ->Prop}(I:↑1)(hN:X.N.Nodup)(hi:X.N[i]? =some x)(F:Loc X.env.scope x)(r:RelV v u)
  (h: ∀s',Inv X pins (σ.set i (some v)) H s'->(∃a,Heap.SameBut a s.heap s'.heap/\(a=X.env.locals\/X.env.cells.lookup x=some a))->Q () s') (hf:Q1 X x:=by first |exact .inl rfl|exact .inr rfl|assumption):wpAny M A (storeName X.env x u) Q E s:=by
 obtain⟨m,hn,hl⟩:=id I.loc;have W:(X.env.scope.kind==.class || (X.env.scope.kind==.module&&X.env.locals !=X.env.globals))=false:=by rw[I.ok.kind];rfl
 have K:i<σ.length:=by rw[I.len];exact(gS.mp hi).1
 have cne:=I.cne
 have B: ∀{a:Addr}{h':Heap},(∃o,s.heap.get? a=some o/\H a=none)->Heap.SameBut a s.heap h'->HOk X.prog X.w H h':=λ{a h'} ha hs b ob e=>by
  obtain⟨_,_,G⟩:=ha;refine(I.hok b ob e).stay (λc Z D q=>(hs.2 c ?_).trans q) (λ_ q=>q) λ_ _ q=>q;rintro rfl;rcases D with rfl|D
  .rw[G]at e;cases e
  .rw[G]at D;cases D
 rcases F with hk|hk
 .refine wpAny_storeName_local hk hn (λh' aa hs=>?_) W;obtain⟨oL,_,_,ab,_⟩:=id hn;refine h _ ⟨I.ok,I.os,I.bare,⟨λb o e n P F=>?_,λb o e n P F=>?_,I.base.free,λb o e F=>?_,I.base.tups,I.base.frzs,I.base.tbls⟩,⟨_,aa,λj y v' C J e3=>?_⟩,λy c e=>?_,I.free,I.freeC,λp hp=>?_,B ⟨oL,ab,I.free⟩ hs,by simpa using I.len⟩ ⟨_,hs,.inl rfl⟩
  .exact(hs.2 b (ë (ç (â e) I.ok.above))).trans (I.base.keep b o e n P F)
  .obtain⟨sl,C⟩:=I.base.slot b o e n P F;exact⟨sl,(hs.2 b (ë (ç (â e) I.ok.above))).trans C⟩
  .obtain⟨o',C⟩:=I.base.there b o e F;exact⟨o',(hs.2 b (ë (ç (â e) I.ok.above))).trans C⟩
  .by_cases O:j=i
   .subst O;rw[hi]at C;cases C;rw[ė K]at J;cases J;exact⟨u,r,.inl ⟨hk,by simp⟩⟩
   .rw[Ģ (Ne.symm O)]at J;obtain⟨u',r',q⟩:=hl j y v' C J e3;refine⟨u',r',?_⟩;rcases q with⟨k,e⟩|⟨k,c,e,z⟩
    .refine .inl ⟨k,?_⟩;have:y≠x:=λe=>O (MS hN C (e▸hi));simp[this,e]
    .exact .inr ⟨k,c,e,z.sameBut hs (cne y c e)⟩
  .obtain⟨Z,z⟩:=I.cell y c e;exact⟨Z,z.sameBut hs (cne y c e)⟩
  .obtain⟨e,n,ne,nf,d⟩:=I.pin p hp;exact⟨(hs.2 p.1 ne).trans e,n,ne,nf,d⟩
 .have L:X.fn x=true:=by
   rcases hf with z|z
   .exact z
   .rw[z]at hk;cases hk
  obtain⟨c,D⟩:=I.ok.has x (.inl hk);obtain⟨Z,z⟩:=I.cell x c D;refine wpAny_storeName_cell I.ok.kind hk D z (λh' U hs=>?_);obtain⟨oc,Y,T⟩:=id z;refine h {s with heap:=h'} ⟨I.ok,I.os,I.bare,⟨λb o e n P F=>?_,λb o e n P F=>?_,I.base.free,λb o e F=>?_,I.base.tups,I.base.frzs,I.base.tbls⟩,⟨m,hn.sameBut hs (Ne.symm (cne x c D)),λj y v' C J e3=>?_⟩,λy c' e=>?_,I.free,I.freeC,λp hp=>?_,B ⟨oc,Y,I.freeC x c D⟩ hs,by simpa using I.len⟩ ⟨c,hs,.inr D⟩
  .exact(hs.2 b (ë (ç (â e) (I.ok.cab x c L D)))).trans (I.base.keep b o e n P F)
  .obtain⟨sl,C⟩:=I.base.slot b o e n P F;exact⟨sl,(hs.2 b (ë (ç (â e) (I.ok.cab x c L D)))).trans C⟩
  .obtain⟨o',C⟩:=I.base.there b o e F;exact⟨o',(hs.2 b (ë (ç (â e) (I.ok.cab x c L D)))).trans C⟩
  .by_cases O:j=i
   .subst O;rw[hi]at C;cases C;rw[ė K]at J;cases J;exact⟨u,r,.inr ⟨.inl hk,c,D,U⟩⟩
   .rw[Ģ (Ne.symm O)]at J;obtain⟨u',r',q⟩:=hl j y v' C J e3;refine⟨u',r',?_⟩;rcases q with q|⟨k,c',e,z'⟩
    .exact .inl q
    .refine .inr ⟨k,c',e,z'.sameBut hs ?_⟩;rintro rfl;exact O (MS hN C (I.ok.inj _ _ _ e D▸hi))
  .by_cases S:c'=c
   .subst S;exact⟨_,U⟩
   .obtain⟨w2,z2⟩:=I.cell y c' e;exact⟨w2,z2.sameBut hs S⟩
  .obtain⟨e,n,ne,nf,d⟩:=I.pin p hp;refine⟨(hs.2 p.1 ?_).trans e,n,ne,nf,d⟩;intro q;rw[q,Y]at e;have q':oc=p.2:=ä e;exact d Z (by rw[<-q'];exact T)
def MT{M:Model}{A:ŋ}{i:Nat}{x:Str}{u:Ŋ}{Q:Unit->ŉ->Prop}(I:↑1)(a:X.N.Nodup)(hi:X.N[i]? =some x)(c:Loc X.env.scope x)(r:RelV v u)
  (h: ∀s',Inv X pins (σ.set i (some v)) H s'->Q () s') (hf:Q1 X x:=by first |exact .inl rfl|exact .inr rfl|assumption):wpAny M A (storeName X.env x u) Q E s:=
 GW I a hi c r (λs' b _=>h s' b) hf
def Inv.call'{s':ŉ}{ch:B6}(I:↑1)(ho:s'.os=s.os)(u:Un (WI X.stack) ch H H' s.heap s'.heap)(a:HOk X.prog X.w H' s'.heap)(d:AllBare s'.gens)
  (hch: ∀b∈ch,(b∈X.ex\/X.s₀.heap.objs.size<=b)/\b≠X.env.locals/\(∀x c,X.env.cells.lookup x=some c->c≠b)/\ ∀p∈X.pn++pins,p.1≠b):Inv X pins σ H' s':=by
 obtain⟨h',h,i,t',o'⟩:=s';have e:=ho;subst e;exact I.call u a d hch
end
abbrev XK:=Value->Option Addr->Hp->Prop
abbrev St:=List (Option V)
variable{σ:St}
abbrev VK:=V->Hp->Prop
abbrev TE:=St->Hp->VK->Prop
abbrev TT:=St->Hp->(Bool->Hp->Prop)->Prop
abbrev TA:=St->Hp->(List V->Hp->Prop)->Prop
structure Ends where
 nx:St->Hp->Prop
 rt:VK
 bk:St->Hp->Prop:=λ_ _=>False
 ct:St->Hp->Prop:=λ_ _=>False
abbrev TS:=Ends->St->Hp->Prop
def EP(X:Cx)(pins:C0)(σ:St)(Q:VK)(u:Ŋ)(s':ŉ):Prop:= ∃v H',Inv X pins σ H' s'/\RelV v u/\Q v H'
def TP(X:Cx)(pins:C0)(σ:St)(Q:Bool->Hp->Prop)(b:Bool)(s':ŉ):Prop:= ∃H',Inv X pins σ H' s'/\Q b H'
def AP(X:Cx)(pins:C0)(σ:St)(Q:List V->Hp->Prop)(us:A0)(s':ŉ):Prop:= ∃vs H',Inv X pins σ H' s'/\Vals vs us/\Q vs H'
def SP(X:Cx)(pins:C0)(D:Ends)(f:Flow)(s':ŉ):Prop:=
 match f with
 |.next=> ∃a H',Inv X pins a H' s'/\D.nx a H'
 |.brk=> ∃a H',Inv X pins a H' s'/\D.bk a H'
 |.cont=> ∃a H',Inv X pins a H' s'/\D.ct a H'
 |.ret u=> ∃v a H',Inv X pins a H' s'/\RelV v u/\D.rt v H'
def PE(X:Cx)(e:Expr)(t:TE):Prop:=
 ∀(pins:C0)(s:ŉ)(σ:St)(H:Hp)(Q:VK),Inv X pins σ H s->t σ H Q->wpAny (model X.prog X.w) X.A (eval e X.env) (EP X pins σ Q) X.xe s
def PT(X:Cx)(e:Expr)(t:TT):Prop:=
 ∀(pins:C0)(s:ŉ)(σ:St)(H:Hp)(Q:Bool->Hp->Prop),Inv X pins σ H s->t σ H Q->wpAny (model X.prog X.w) X.A (isTrue e X.env (eval e X.env)) (TP X pins σ Q) X.xe s
def PW(X:Cx)(e:Expr)(t:TT):Prop:=
 ∀(a:Sem Ŋ)(pins:C0)(s:ŉ)(σ:St)(H:Hp)(Q:Bool->Hp->Prop),Inv X pins σ H s->t σ H Q->wpAny (model X.prog X.w) X.A (isTrue e X.env a) (TP X pins σ Q) X.xe s
def PW.pt{e:Expr}{t:TT}(h:PW X e t):PT X e t:=h _
def PA(X:Cx)(es:C5)(t:TA):Prop:=
 ∀(pos:Pos)(pins:C0)(s:ŉ)(σ:St)(H:Hp)(Q:List V->Hp->Prop),Inv X pins σ H s->t σ H Q->wpAny (model X.prog X.w) X.A (spliced (backTo pos (starEach es X.env))) (AP X pins σ Q) X.xe s
def PS(X:Cx)(st:Stmt)(t:TS):Prop:=
 ∀(pins:C0)(s:ŉ)(σ:St)(H:Hp)(D:Ends),Inv X pins σ H s->t D σ H->wpAny (model X.prog X.w) X.A (exec st X.env) (SP X pins D) X.xe s
def PSs(X:Cx)(st:List Stmt)(t:TS):Prop:=
 ∀(pins:C0)(s:ŉ)(σ:St)(H:Hp)(D:Ends),Inv X pins σ H s->t D σ H->wpAny (model X.prog X.w) X.A (execs st X.env) (SP X pins D) X.xe s
def jB{α:Type}{t:Sem α}{Q b:α->ŉ->Prop}{M:Model}{A:ŋ}{s:ŉ}(h:wpAny M A t Q E s)(c: ∀a s,Q a s->b a s):wpAny M A t b E s:=û h c λ_ _ x=>x
section
variable{X:Cx}
def Wh(i:Nat):TE:=λσ H Q=> ∃v,σ[i]? =some (some v)/\Q v H
def tC(v:V):TE:=λ_ H Q=>Q v H
def Oc{i:Nat}{x:Str}(b:X.N[i]? =some x)(k:Wg X.env.scope x)(hd:(x==("__debug__":Str))=false:=by decide)(a:(x==("__classdict__":Str))=false:=by decide):PE X (.Name x pos) (Wh i):=by
 intro pins s σ H Q I h;obtain⟨v,e,h⟩:=h;obtain⟨m,j,d⟩:=I.loc;obtain⟨u,r,l⟩:=d i x v b e k;have fin:EP X pins σ Q u s:=⟨v,H,I,r,h⟩
 rcases l with⟨hk,hm⟩|⟨hk,c,hc,hcell⟩
 .exact wpAny_Name (wpAny_loadName_local I.ok.kind hk j hm fin) hd
 .rcases hk with hk|hk
  .exact wpAny_Name (wpAny_loadName_cell I.ok.kind hk hc hcell fin) hd
  .exact wpAny_Name (wpAny_loadName_free I.ok.kind hk hc hcell fin a) hd
def ZM{i j pos}:PE X (.Constant (.int i) j pos) (tC (.int i)):=λ_ _ _ H _ I h=>wpAny_Constant_int ⟨.int i,H,I.tok _,⟨_,rfl⟩,h⟩
def Wi{b j pos}:PE X (.Constant (.bool b) j pos) (tC (.bl b)):=λ_ _ _ H _ I h=>Constant_bool ⟨.bl b,H,I,rfl,h⟩
def Od{j pos}:PE X (.Constant .none j pos) (tC .non):=λ_ _ _ H _ I h=>Constant_none ⟨.non,H,I,rfl,h⟩
def Oe{x j pos}:PE X (.Constant (.str x) j pos) (tC (.str x)):=λ_ _ _ H _ I h=>Calls.Constant_str ⟨.str x,H,I.tok _,⟨_,rfl⟩,h⟩
def Gl(X:Cx)(x:Str):Prop:=X.env.kindOf x=some .globalImplicit
def JA{s:ŉ}{x:Str}{u:Ŋ}{Q:VP}(I:↑1)(a:Gl X x)(b:X.mg x=some u)(h:Q u s)
  (hd:(x==("__debug__":Str))=false:=by decide):wpAny (model X.prog X.w) X.A (eval (.Name x pos) X.env) Q E s:=
 Calls.Name_function_global I.ok.kind a (Calls.loadGlobal_global (by rw[I.ok.glob];exact I.mod.glob.keeps I.bk) b h) hd
def mI{s:ŉ}{x:Str}{u:Ŋ}{Q:VP}(I:↑1)(a:Gl X x)(b:X.mg x=none)(d:bootBuiltins x=some u)(h:Q u s)
  (hn:x≠"__name__":=by decide) (hd:(x==("__debug__":Str))=false:=by decide):wpAny (model X.prog X.w) X.A (eval (.Name x pos) X.env) Q E s:=by
 obtain⟨e,h1,c⟩:=I.mod.blt;exact Calls.Name_function_global I.ok.kind a (Calls.loadGlobal_builtin (by rw[I.ok.glob];exact I.mod.glob.keeps I.bk) b (by rw[I.ok.blt];exact h1.keeps I.bk) ((c x hn).trans d) h) hd
def Fp{x:Str}{u:Ŋ}(a:Gl X x)(b:X.mg x=some u)(r:RelV v u)(hd:(x==("__debug__":Str))=false:=by decide):PE X (.Name x pos) (tC v):=
 λ_ _ _ H _ I h=>JA I a b ⟨v,H,I,r,h⟩ hd
def Fq{x:Str}{u:Ŋ}(a:Gl X x)(b:X.mg x=none)(c:bootBuiltins x=some u)(r:RelV v u)(d:x≠"__name__":=by decide)(hd:(x==("__debug__":Str))=false:=by decide):PE X (.Name x pos) (tC v):=
 λ_ _ _ H _ I h=>mI I a b c ⟨v,H,I,r,h⟩ d hd
variable{a b:Expr}{ta tb:TE}{pos:Pos}
def tB(t:TE):TT:=λσ H Q=>t σ H λx H1=> ∃c,x=.bl c/\Q c H1
variable{tA tB':TT}{rest:C5}
def tAnd(t u:TT):TT:=λσ H Q=>t σ H λc H1=>if c=true then u σ H1 Q else Q false H1
def tOr(t u:TT):TT:=λσ H Q=>t σ H λc H1=>if c=true then Q true H1 else u σ H1 Q
def tNot(t:TT):TT:=λσ H Q=>t σ H λc H1=>Q (!c) H1
def Fs(b:PT X a tA):PW X (.BoolOp .And [a] pos) tA:=by
 intro i pins s σ H Q I h;refine isTrue_and (jB (b pins s σ H Q I h) λc d e=>?_)
 cases c with
 |true=>exact isTrue_and_nil e
 |false=>exact e
def Of(b:PT X a tA):PW X (.BoolOp .Or [a] pos) tA:=by
 intro i pins s σ H Q I h;refine isTrue_or (jB (b pins s σ H Q I h) λc d e=>?_)
 cases c with
 |false=>exact isTrue_or_nil e
 |true=>exact e
def Og(k:PT X a tA)(i:PW X (.BoolOp .And (b::rest) pos) tB'):PW X (.BoolOp .And (a::b::rest) pos) (tAnd tA tB'):=by
 intro j pins s σ H Q I h;refine isTrue_and (jB (k pins s σ H _ I h) λc e ⟨H1,I1,d⟩=>?_)
 cases c with
 |true=>exact i j pins e σ H1 Q I1 d
 |false=>exact⟨H1,I1,d⟩
def Wj(k:PT X a tA)(i:PW X (.BoolOp .Or (b::rest) pos) tB'):PW X (.BoolOp .Or (a::b::rest) pos) (tOr tA tB'):=by
 intro j pins s σ H Q I h;refine isTrue_or (jB (k pins s σ H _ I h) λc e ⟨H1,I1,d⟩=>?_)
 cases c with
 |true=>exact⟨H1,I1,d⟩
 |false=>exact i j pins e σ H1 Q I1 d
def Oh(b:PT X a tA):PT X (.UnaryOp .Not a pos) (tNot tA):=by intro pins s σ H Q I h;exact isTrue_not (b pins s σ H (λc H1=>Q (!c) H1) I h)
def tIf(t:TT)(ta tb:TE):TE:=λσ H Q=>t σ H λc H1=>if c=true then ta σ H1 Q else tb σ H1 Q
def ZN{c:Expr}(m:PT X c tA)(j:PE X a ta)(k:PE X b tb):PE X (.IfExp c a b pos) (tIf tA ta tb):=by
 intro pins s σ H Q I h;refine wpAny_IfExp (jB (m pins s σ H _ I h) λd e ⟨H1,I1,i⟩=>?_)
 cases d with
 |true=>exact j pins e σ H1 Q I1 i
 |false=>exact k pins e σ H1 Q I1 i
end
def SqL(K:C6)(H:Hp)(a:Addr)(xs:List V):Prop:=
 Rd H a (.lst xs)\/
  ∃(o:Obj)(its:B0)(n:Nat),K.lookup a=some o/\o.cls=.type "list"/\o.dict=none/\o.data=.seq its n/\its.size<=sizeLine/\Vals xs its.toList
def SqT(K:C6)(H:Hp)(a:Addr)(xs:List V):Prop:=
 Rd H a (.tup xs)\/
  ∃(o:Obj)(its:B0)(n:Nat),K.lookup a=some o/\o.cls=.type "tuple"/\o.data=.seq its n/\its.size<=sizeLine/\Vals xs its.toList
noncomputable def absV:Ŋ->Option V
 |.none=>some .non
 |.bool b=>some (.bl b)
 |.int i _=>some (.int i)
 |.str x _=>some (.str x)
 |.bytes b _=>some (.byt b)
 |.float b _=>some (.flt b)
 |.ref a=>some (.ref a)
 |.type n=>some (.ty n)
 |_=>none
theorem RelV.abs{x:V}{u:Ŋ}(r:RelV x u):absV u=some x:=by
 cases x with
 |non=>cases r;rfl
 |bl _=>cases r;rfl
 |int _=>obtain⟨t,rfl⟩:=r;rfl
 |str _=>obtain⟨t,rfl⟩:=r;rfl
 |byt _=>obtain⟨t,rfl⟩:=r;rfl
 |flt _=>obtain⟨t,rfl⟩:=r;rfl
 |ref _=>cases r;rfl
 |ty _=>cases r;rfl
def RelV.inj{x y:V}{u:Ŋ}(r:RelV x u)(q:RelV y u):x=y:=ä (r.abs.symm.trans q.abs)
theorem Vals.inj: ∀{xs ys:List V}{us:A0},Vals xs us->Vals ys us->xs=ys
 |_,_,_,.nil,.nil=>rfl
 |_,_,_,.cons r t,.cons r' t'=>by rw[r.inj r',Vals.inj t t']
section
variable{X:Cx}{pins:C0}{σ:St}{H:Hp}{s:ŉ}{a:Addr}{xs ys:List V}
def SqL.of{K:C6}(h:H a=some (.lst xs)):SqL K H a xs:=.inl (.inl h)
def SqT.of{K:C6}(h:H a=some (.tup xs)):SqT K H a xs:=.inl (.inl h)
theorem Inv.list(I:↑1)(h:SqL X.K H a xs): ∃its:List Ŋ,Vals xs its/\PlainL s.heap a its.toArray/\xs.length<=sizeLine:=by
 rcases h with h|⟨o,its,n,hk,hc,hd,hs,hz,r⟩
 .obtain⟨z,its,n,r,e⟩:=h.ok I.hok;exact⟨its,r,⟨_,n,e,rfl,rfl,rfl⟩,z⟩
 .refine⟨_,r,⟨o,n,I.kIn a o hk,hc,hd,by simpa using hs⟩,?_⟩;have e:=r.length;simp only[í]at e
  lia
theorem Inv.tuple(I:↑1)(h:SqT X.K H a xs): ∃its:List Ŋ,Vals xs its/\IsTup s.heap a its.toArray/\xs.length<=sizeLine:=by
 rcases h with h|⟨o,its,n,hk,hc,hs,hz,r⟩
 .obtain⟨z,its,r,p⟩:=h.ok I.hok;exact⟨its,r,p,z⟩
 .refine⟨_,r,⟨o,I.kIn a o hk,hc,n,by simpa using hs⟩,?_⟩;have e:=r.length;simp only[í]at e
  lia
def Inv.list_inj(I:↑1)(h:SqL X.K H a xs)(h':SqL X.K H a ys):xs=ys:=by
 obtain⟨its,r,⟨o,n,e,_,_,d⟩,_⟩:=I.list h;obtain⟨b,j,⟨o',k,i,_,_,c⟩,_⟩:=I.list h';rw[e]at i;cases i;rw[d]at c;injection c with d1 _
 have:=by simpa using congrArg Array.toList d1
 subst this;exact r.inj j
def Inv.tuple_inj(I:↑1)(h:SqT X.K H a xs)(h':SqT X.K H a ys):xs=ys:=by
 obtain⟨its,r,⟨o,e,_,n,d⟩,_⟩:=I.tuple h;obtain⟨b,j,⟨o',i,_,k,c⟩,_⟩:=I.tuple h';rw[e]at i;cases i;rw[d]at c;injection c with d1 _
 have:=by simpa using congrArg Array.toList d1
 subst this;exact r.inj j
end
abbrev Cx.wish(X:Cx)(E:VP):Cx:={X with xe:=E}
abbrev Cx.nox(X:Cx):Cx:=X.wish λ_ _=>False
def Cx.Ok.wish(ok:X.Ok)(E:VP):(X.wish E).Ok:=
 ⟨ok.mod,ok.kind,ok.glob,ok.blt,ok.above,ok.inj,ok.has,ok.cab,ok.hd,ok.frames,ok.stk,ok.exf,ok.bs,ok.bsz,ok.noex,ok.exfs,ok.funs,ok.frf⟩
def Cx.Ok.unwish(ok:(X.wish E).Ok):X.Ok:=
 ⟨ok.mod,ok.kind,ok.glob,ok.blt,ok.above,ok.inj,ok.has,ok.cab,ok.hd,ok.frames,ok.stk,ok.exf,ok.bs,ok.bsz,ok.noex,ok.exfs,ok.funs,ok.frf⟩
section
variable{X:Cx}{pins:C0}{σ:St}{H:Hp}{s:ŉ}{E:VP}
def Inv.wish(I:↑1)(E:VP):Inv (X.wish E) pins σ H s:=⟨I.ok.wish E,I.os,I.bare,I.base,I.loc,I.cell,I.free,I.freeC,I.pin,I.hok,I.len⟩
def Inv.unwish(I:Inv (X.wish E) pins σ H s):Inv X pins σ H s:=⟨I.ok.unwish,I.os,I.bare,I.base,I.loc,I.cell,I.free,I.freeC,I.pin,I.hok,I.len⟩
def SP.unwish{D:Ends}{f:Flow}{s':ŉ}(h:SP (X.wish E) pins D f s'):SP X pins D f s':=by
 cases f with
 |next=>obtain⟨a,H',I,q⟩:=h;exact⟨a,H',I.unwish,q⟩
 |brk=>obtain⟨a,H',I,q⟩:=h;exact⟨a,H',I.unwish,q⟩
 |cont=>obtain⟨a,H',I,q⟩:=h;exact⟨a,H',I.unwish,q⟩
 |ret u=>obtain⟨v,a,H',I,r,q⟩:=h;exact⟨v,a,H',I.unwish,r,q⟩
def PSs.nox{st:List Stmt}{t:TS}(h:PSs X.nox st t):PSs X st t:=λpins s σ H D I hw=>
 û (h pins s σ H D (I.wish _) hw) (λ_ _ q=>q.unwish) λ_ _ z=>False.elim z
end
section
variable{X:Cx}{st:Stmt}{rest:List Stmt}{t u:TS}{e:Expr}{te:TE}{pos:Pos}
def Wm:TS:=λD σ H=>D.nx σ H
def tSeq(t u:TS):TS:=λD σ H=>t {D with nx:=u D} σ H
def Ft:PSs X [] Wm:=λ_ _ σ H _ I h=>wpAny_execs_nil ⟨σ,H,I,h⟩
def ZO(h1:PS X st t)(d:PSs X rest u):PSs X (st::rest) (tSeq t u):=by
 intro pins s σ H D I h;refine wpAny_execs_cons (jB (h1 pins s σ H {D with nx:=u D} I h) λf b q=>?_)
 cases f with
 |next=>
  obtain⟨a,H',c,q⟩:=q;exact d pins b a H' D c q
 |ret v=>exact q
 |brk=>exact q
 |cont=>exact q
def Fv(h1:PS X st t):PSs X [st] t:=by
 intro pins s σ H D I h;refine wpAny_execs_cons (jB (h1 pins s σ H D I h) λf a q=>?_)
 cases f with
 |next=>exact wpAny_execs_nil q
 |ret v=>exact q
 |brk=>exact q
 |cont=>exact q
def Inv.quiet{s:ŉ}(I:↑1):interactive X.env=false:=by simp[interactive,I.ok.kind]
def Wn(te:TE):TS:=λD σ H=>te σ H λ_ H1=>D.nx σ H1
def Fw(b:PE X e te)(hs:swapsWith e none pos.line X.env=pure false:=by rfl):PS X (.Expr e pos) (Wn te):=by intro pins s σ H D I h;exact wpAny_Expr_any (jB (b pins s σ H _ I h) λv c ⟨x,H1,I1,d,a⟩=>⟨σ,H1,I1,a⟩) I.quiet hs
def tRet(te:TE):TS:=λD σ H=>te σ H D.rt
def Oi(c:PE X e te):PS X (.Return (some e) pos) (tRet te):=by intro pins s σ H D I h;exact wpAny_Return_some (jB (c pins s σ H _ I h) λv d ⟨x,H1,I1,b,a⟩=>⟨x,σ,H1,I1,b,a⟩)
def tIfS(c:TT)(t u:TS):TS:=λD σ H=>c σ H λb H1=>if b=true then t D σ H1 else u D σ H1
def Wo{c:Expr}{a b:List Stmt}{e:TT}(n:PT X c e)(k:PSs X a t)(m:PSs X b u):PS X (.If c a b pos) (tIfS e t u):=by
 intro pins s σ H D I h;refine wpAny_If (jB (n pins s σ H _ I h) λd j ⟨H1,I1,i⟩=>?_)
 cases d with
 |true=>exact k pins j σ H1 D I1 i
 |false=>exact m pins j σ H1 D I1 i
end
abbrev TG:=V->St->Hp->(St->Hp->Prop)->Prop
abbrev Oj:=List V->St->Hp->(St->Hp->Prop)->Prop
def PG(X:Cx)(a:Expr)(t:TG):Prop:=
 ∀(pins:C0)(s:ŉ)(σ:St)(H:Hp)(v:V)(u:Ŋ)(Q:St->Hp->Prop),Inv X pins σ H s->RelV v u->t v σ H Q->
  wpAny (model X.prog X.w) X.A (assign a X.env u) (λ_ s'=> ∃b H',Inv X pins b H' s'/\Q b H') X.xe s
def Vq(X:Cx)(ts:C5)(t:Oj):Prop:=
 ∀(pins:C0)(s:ŉ)(σ:St)(H:Hp)(vs:List V)(us:A0)(Q:St->Hp->Prop),Inv X pins σ H s->Vals vs us->t vs σ H Q->
  wpAny (model X.prog X.w) X.A (assignInOrder ((assignEach ts X.env).map (·.2)) us) (λ_ s'=> ∃a H',Inv X pins a H' s'/\Q a H') X.xe s
abbrev TSet:=V->V->V->Hp->(Hp->Prop)->Prop
def Fx(X:Cx)(t:TSet):Prop:=
 ∀(pins:C0)(s:ŉ)(σ:St)(H:Hp)(o i v:V)(ov a u:Ŋ)(Q:Hp->Prop),Inv X pins σ H s->RelV o ov->RelV i a->RelV v u->t o i v H Q->
  wpAny (model X.prog X.w) X.A (setItem ov a u) (λ_ s'=> ∃H',Inv X pins σ H' s'/\Q H') X.xe s
section
variable{X:Cx}{pos:Pos}
def ZP(i:Nat):TG:=λv σ H Q=>Q (σ.set i (some v)) H
def SU{i:Nat}{x:Str}(a:X.N.Nodup)(hi:X.N[i]? =some x)(d:Loc X.env.scope x)(c:Q1 X x:=by first |exact .inl rfl|exact .inr rfl|assumption):PG X (.Name x pos) (ZP i):=by intro pins s σ H v u Q I r h;exact wpAny_assign_Name (MT I a hi d r (λs' b=>⟨_,H,b,h⟩) c)
def gNil:Oj:=λvs σ H Q=>vs=[]/\Q σ H
def Wp(t:TG)(u:Oj):Oj:=λvs σ H Q=> ∃v r,vs=v::r/\t v σ H λa H'=>u r a H' Q
def SV:Vq X [] gNil:=by intro pins s σ H vs us Q I r h;obtain⟨e,h⟩:=h;subst e;exact assignInOrder_nil ⟨σ,H,I,h⟩
def MU{e:Expr}{es:C5}{t:TG}{u:Oj}(h1:PG X e t)(b:Vq X es u)
  (hs:(assignEach (e::es) X.env).map (·.2)=assign e X.env::(assignEach es X.env).map (·.2):=by rfl):Vq X (e::es) (Wp t u):=by
 intro pins s σ H vs us Q I r h;obtain⟨v,j,d,h⟩:=h;subst d
 cases r with
 |cons r rr=>
  rw[hs];refine assignInOrder_cons (jB (h1 pins s σ H _ _ _ I r h) λ_ i ⟨a,H1,I1,c⟩=>?_);exact b pins i a H1 _ _ Q I1 rr c
def gTup(K:C6)(n:Nat)(t:Oj):TG:=λv σ H Q=> ∃a xs,v=.ref a/\SqT K H a xs/\xs.length=n/\t xs σ H Q
def ZQ{es:C5}{k:Nat}{t:Oj}{n:Nat}(d:X.calm=true)(h:Vq X es t)
  (hn:(assignEach es X.env).length=n:=by rfl) (hst:(assignEach es X.env).findIdx? (·.1)=none:=by rfl):PG X (.Tuple es k pos) (gTup X.K n t):=by
 intro pins s σ H v u Q I r hw;obtain⟨a,xs,m,p,i,hw⟩:=hw;subst m;cases r;obtain⟨its,c,j,w⟩:=I.tuple p;refine assign_Tuple_tuple (I.ok.hd d) j (by simp[hn, <-i,c.length]) hst λh' q=>?_;have I1:Inv X pins σ H {s with heap:=h'}:=I.kept λb o e=>q b o (ë (â e)) e;exact h pins _ σ H xs _ Q I1 (by simpa using c) hw
def gSub(to b:TE)(t:TSet):TG:=λv σ H Q=>to σ H λo H1=>b σ H1 λi a=>t o i v a λc=>Q σ c
def QL{o i:Expr}{to b:TE}{t:TSet}(ho:PE X o to)(hi:PE X i b)(hs:Fx X t)
  (ha: ∀v,assign (.Subscript o i pos) X.env v=(do
   let ov <-holding [v] (eval o X.env);let a <-holding [v,ov] (eval i X.env)
   standAt pos
   holding [v,ov,a] (setItem ov a v)
   release [v,ov,a] []):=by intro _;rfl):PG X (.Subscript o i pos) (gSub to b t):=by
 intro pins s σ H v u Q I r h;refine wB (ù (jB (ho pins s σ H _ I h) λov m ⟨x,H1,I1,n,j⟩=>?_));refine wB (ù (jB (hi pins m σ H1 _ I1 j) λa q ⟨y,c,k,d,p⟩=>?_));refine wB (wpAny_standAt (wB (ù (jB (hs pins q σ c x y v ov a u _ k n d r p) λ_ A ⟨w,e,z⟩=>?_))));exact wpAny_release ⟨σ,w,e,z⟩
def Ol(te:TE)(g:TG):TS:=λD σ H=>te σ H λx H1=>g x σ H1 D.nx
def Om{e:Expr}{te:TE}{g:TG}(c:PE X e te)(a:PG X tg g)(hs:swapsWithSole [tg] e pos.line X.env=pure false:=by rfl)(hw:swappedStores [tg] e X.env=pure none:=by rfl)
  (h1:(assignEach [tg] X.env).map (·.2)=[assign tg X.env]:=by rfl):PS X (.Assign [tg] e pos) (Ol te g):=by
 intro pins s σ H D I h;refine wpAny_Assign_stores (jB (c pins s σ H _ I h) λv d ⟨x,H1,I1,i,b⟩=>?_) hs hw;rw[h1];exact jB (a pins d σ H1 x v _ I1 i b) λ_ j q=>q
def On{i:Nat}{x:Str}{e:Expr}{te:TE}{a:Pos}(b:X.N.Nodup)(hi:X.N[i]? =some x)(n:Loc X.env.scope x)(j:PE X e te)(hs:swapsWith e (some (.Name x a)) pos.line X.env=pure false:=by rfl)(m:Q1 X x:=by first |exact .inl rfl|exact .inr rfl|assumption):
  PS X (.Assign [.Name x a] e pos) (Ol te (ZP i)):=by
 intro pins s σ H D I h;refine wpAny_Assign_Name (jB (j pins s σ H _ I h) λv o ⟨y,H1,I1,k,c⟩=>?_) hs;exact MT I1 b hi n k (λp d=>⟨_,H1,d,c⟩) m
end
structure It where
 go:Nat->Hp->Prop
 yld:Nat->Hp->V->Hp->Prop
 stop:Nat->Hp->Prop
def pH(X:Cx)(pins:C0)(H:Hp)(b:Addr):Prop:=
 H b=none/\b≠X.env.locals/\b∉X.fs/\(b∈X.ex\/X.s₀.heap.objs.size<=b)/\(∀x c,X.env.cells.lookup x=some c->c≠b)/\ ∀p∈X.pn++pins,p.1≠b
def Inv.fpOk{H':Hp}{s:ŉ}{b:Addr}(I:↑1)(a:↑0<=b)(d:H' b=none):pH X pins H' b:=by
 refine⟨d,ø (ç I.lt a),I.nofs a,.inr (õ I.sz a),λx c e z=>?_,λp h z=>?_⟩
 .obtain⟨v,q⟩:=I.cell x c e;exact absurd (ç q.lt (by rw[z];exact a)) (ı _)
 .exact absurd (ç (â (I.pin p h).1) (by rw[z];exact a)) (ı _)
abbrev Oo(X:Cx):Prop:=X.calm=true
structure TurnC(C:Cx->Prop)(P:Ō)(w:World)(K:C6)(tg:Expr)(J:It)(fp:B6)(it:Addr)(tn:Nat->Heap->Prop):Prop where
 mem:it∈fp
 obj: ∀i h,tn i h-> ∀b∈fp, ∃o,h.get? b=some o/\ ∀v,o.data≠.cell v
 keep: ∀i h h',tn i h->(∀b∈fp, ∀o,h.get? b=some o->h'.get? b=some o)->tn i h'
 item: ∀(X:Cx),X.prog=P->X.w=w->X.K=K->C X-> ∀(i:Nat)(pins:C0)(s:ŉ)(σ:St)(H:Hp)(E:VP),Inv X pins σ H s->(∀b∈fp,pH X pins H b)->tn i s.heap->J.go i H->
  wpAny (model P w) X.A (pyNext (.ref it)) (λr s1=> ∃u,r=some u/\
   wpAny (model P w) X.A (letOwnedTupleGo tg (.ref it) u) (λ_ s2=> ∃x H',Inv X pins σ H' s2/\RelV x u/\J.yld i H x H'/\tn (i+1) s2.heap/\ ∀b∈fp,H' b=none) E s1) E s
 done: ∀(X:Cx),X.prog=P->X.w=w->X.K=K->C X-> ∀(i:Nat)(pins:C0)(s:ŉ)(σ:St)(H:Hp)(E:VP),Inv X pins σ H s->(∀b∈fp,pH X pins H b)->tn i s.heap->J.stop i H->
  wpAny (model P w) X.A (pyNext (.ref it)) (λr s1=>r=none/\Inv X pins σ H s1) E s
 self: ∀(A:ŋ)(i:Nat)(s:ŉ)(Q:VP)(E:VP),tn i s.heap->Q (.ref it) s->wpAny (model P w) A (pyIter (.ref it)) Q E s
abbrev Turn:=TurnC Oo
abbrev TI:=St->Hp->(It->Hp->Prop)->Prop
def Wq(C:Cx->Prop)(X:Cx)(pins:C0)(σ:St)(tg:Expr)(R:It->Hp->Prop)(a:Ŋ)(d:ŉ):Prop:=
 ∃(it:Addr)(fp:B6)(c:Nat->Heap->Prop)(J:It)(H':Hp),a=.ref it/\Inv X pins σ H' d/\TurnC C X.prog X.w X.K tg J fp it c/\c 0 d.heap/\(∀b∈fp,pH X pins H' b)/\R J H'
abbrev PIE:=Wq Oo
def Wr(C:Cx->Prop)(X:Cx)(tg iter:Expr)(b:TI):Prop:=
 ∀(pins:C0)(s:ŉ)(σ:St)(H:Hp)(R:It->Hp->Prop),Inv X pins σ H s->b σ H R->
  wpAny (model X.prog X.w) X.A (eval iter X.env) (λv a=>wpAny (model X.prog X.w) X.A (pyIter v) (Wq C X pins σ tg R) X.xe a) X.xe s
abbrev PI:=Wr Oo
def ZR{M:Model}{A:ŋ}{s:ŉ}{it:Addr}{u:Ŋ}{o:Obj}{n:String}{vs:B0}{Q:Unit->ŉ->Prop}(ho:s.heap.get? it=some o)(a:o.cls=.type n)(hd:o.data=.fields vs)
  (hn:["enumerate","zip","dict_itemiterator","dict_reverseitemiterator","odict_iterator","itertools.zip_longest","itertools.pairwise"].contains n=false) (hQ:Q () s):wpAny M A (letOwnedTupleGo tg (.ref it) u) Q E s:=by
 cases tg<;>first
  |exact wP hQ
  |(cases u<;>first
    |exact wP hQ
    |(refine wB (wpAny_load ho ?_)
      rw[a,hd];show wpAny M A (if _=true then _ else _) Q E s;rw[iN (by intro h;rw[hn]at h;cases h)];exact wP hQ))
noncomputable def Zx(K:C6)(a:Addr):It:=
 ⟨λi H=> ∃xs x,SqL K H a xs/\xs[i]? =some x,λi H x H'=>H'=H/\ ∀xs,SqL K H a xs->xs[i]? =some x,λi H=> ∃xs,SqL K H a xs/\xs.length<=i⟩
noncomputable def Zy(K:C6)(a:Addr):It:=
 ⟨λi H=> ∃xs x,SqT K H a xs/\xs[i]? =some x,λi H x H'=>H'=H/\ ∀xs,SqT K H a xs->xs[i]? =some x,λi H=> ∃xs,SqT K H a xs/\xs.length<=i⟩
noncomputable def Zz(lo:Int)(n:Nat):It:=⟨λi _=>i<n,λi H x H'=>H'=H/\x=.int (lo+i),λi _=>n<=i⟩
theorem GX{P:Ō}{w:World}{K:C6}(a it:Addr):Turn P w K tg (Zx K a) [it] it (λi h=>h.IsListIter it a i) where
 mem:=by simp
 obj:=λi h st b hb=>by
  have e:=by simpa using hb
  subst e;obtain⟨o,e,c,d⟩:=st;exact⟨o,e,λv z=>by rw[d]at z;cases z⟩
 keep:=λi h h' st k=>st.at λo e=>k it (by simp) o e
 item:=by intro X hP hw hK hc i pins s σ H E I hf st hg;subst hP hw hK;obtain⟨xs,x,hq,hx⟩:=hg;obtain⟨its,rv,p,hz⟩:=I.list hq;obtain⟨u,hu,ru⟩:=rv.get hx;obtain⟨f0,f1,f2,f3,f4,f5⟩:=hf it (by simp);refine wpAny_pyNext_list_item st p.isList (by simpa using hu) λh' st' sb=>?_;have I1:Inv X pins σ H {s with heap:=h'}:=I.turned (λb o hb e=>(sb.2 b hb).trans e) f0 f1 f3 f4 f5;obtain⟨o,e,c,d⟩:=id st';exact⟨u,rfl,ZR e c d (by decide) ⟨x,H,I1,ru,⟨rfl,λys hy=>by rw[I.list_inj hy hq];exact hx⟩,st',λb hb=>(hf b hb).1⟩⟩
 done:=by intro X hP hw hK hc i pins s σ H E I hf st hg;subst hP hw hK;obtain⟨xs,hq,hx⟩:=hg;obtain⟨its,rv,p,hz⟩:=I.list hq;obtain⟨f0,f1,f2,f3,f4,f5⟩:=hf it (by simp);have hl:=rv.length;exact wpAny_pyNext_list_end (I.ok.hd hc) st p.isList (by simp;lia) λh' eb=>⟨rfl,I.turned (λb o hb e=>eb b o hb e) f0 f1 f3 f4 f5⟩
 self:=λ_ _ _ _ _ st h=>wpAny_pyIter_listiter st h
theorem DL{P:Ō}{w:World}{K:C6}(a it:Addr):Turn P w K tg (Zy K a) [it] it (λi h=>h.IsTupleIter it a i) where
 mem:=by simp
 obj:=λi h st b hb=>by
  have e:=by simpa using hb
  subst e;obtain⟨o,e,c,d⟩:=st;exact⟨o,e,λv z=>by rw[d]at z;cases z⟩
 keep:=λi h h' st k=>st.at λo e=>k it (by simp) o e
 item:=by intro X hP hw hK hc i pins s σ H E I hf st hg;subst hP hw hK;obtain⟨xs,x,hq,hx⟩:=hg;obtain⟨its,rv,p,hz⟩:=I.tuple hq;obtain⟨u,hu,ru⟩:=rv.get hx;obtain⟨f0,f1,f2,f3,f4,f5⟩:=hf it (by simp);refine wpAny_pyNext_tuple_item st p (by simpa using hu) λh' st' sb=>?_;have I1:Inv X pins σ H {s with heap:=h'}:=I.turned (λb o hb e=>(sb.2 b hb).trans e) f0 f1 f3 f4 f5;obtain⟨o,e,c,d⟩:=id st';exact⟨u,rfl,ZR e c d (by decide) ⟨x,H,I1,ru,⟨rfl,λys hy=>by rw[I.tuple_inj hy hq];exact hx⟩,st',λb hb=>(hf b hb).1⟩⟩
 done:=by intro X hP hw hK hc i pins s σ H E I hf st hg;subst hP hw hK;obtain⟨xs,hq,hx⟩:=hg;obtain⟨its,rv,p,hz⟩:=I.tuple hq;obtain⟨f0,f1,f2,f3,f4,f5⟩:=hf it (by simp);have hl:=rv.length;exact wpAny_pyNext_tuple_end (I.ok.hd hc) st p (by simp;lia) λh' eb=>⟨rfl,I.turned (λb o hb e=>eb b o hb e) f0 f1 f3 f4 f5⟩
 self:=λ_ _ _ _ _ st h=>wpAny_pyIter_tupleiter st h
theorem QM{P:Ō}{w:World}{K:C6}(it:Addr)(lo:Int)(n:Nat):Turn P w K tg (Zz lo n) [it] it (λi h=>IsRangeIter h it (lo+(i:Nat) * 1) ((n:Int) - (i:Nat)) 1) where
 mem:=by simp
 obj:=λi h st b hb=>by
  have e:=by simpa using hb
  subst e;exact⟨_,st,λv z=>by have z':=z;cases z'⟩
 keep:=λi h h' st k=>k it (by simp) _ st
 item:=by intro X hP hw hK hc i pins s σ H E I hf st hg;subst hP hw hK;obtain⟨f0,f1,f2,f3,f4,f5⟩:=hf it (by simp);have W:=Walks.range (prog:=X.prog) (w:=X.w) (I.ok.hd hc) it lo 1 n;refine W.item i s _ _ hg st λv h' tk hv st' kk=>?_;obtain⟨t,rfl⟩:=hv;have I1:Inv X pins σ H {s with heap:=h',toks:=tk}:=I.turned (λb o hb e=>kk b o (by simpa using hb) e) f0 f1 f3 f4 f5;refine⟨_,rfl,ZR st' rfl rfl (by decide) ⟨.int _,H,I1,⟨t,?_⟩,⟨rfl,rfl⟩,st',λb hb=>(hf b hb).1⟩⟩;rw[Int.mul_one]
 done:=by intro X hP hw hK hc i pins s σ H E I hf st hg;obtain⟨f0,f1,f2,f3,f4,f5⟩:=hf it (by simp);exact wpAny_pyNext_range_end (I.ok.hd hc) st (by have:n<=i:=hg;lia) λh' eb=>⟨rfl,I.turned (λb o hb e=>eb b o hb e) f0 f1 f3 f4 f5⟩
 self:=λ_ _ _ _ _ st h=>wpAny_pyIter_rangeiter st h
section
variable{X:Cx}{tg:Expr}
def Ws(K:C6)(tl:TE):TI:=λσ H R=>tl σ H λx H1=> ∃a,x=.ref a/\(∃xs,SqL K H1 a xs)/\R (Zx K a) H1
def iTup(K:C6)(tl:TE):TI:=λσ H R=>tl σ H λx H1=> ∃a,x=.ref a/\(∃xs,SqT K H1 a xs)/\R (Zy K a) H1
def Fy{l:Expr}{tl:TE}(d:PE X l tl):PI X tg l (Ws X.K tl):=by
 intro pins s σ H R I h;refine jB (d pins s σ H _ I h) λv n ⟨x,H1,I1,j,i⟩=>?_;obtain⟨a,e,⟨xs,k⟩,q⟩:=i;subst e;cases j;obtain⟨its,m,p,r⟩:=I1.list k;refine wpAny_pyIter_list p.isList ?_;refine⟨_,_,_,_,H1,rfl,I1.kept λb o e=>hP0 _ e,GX a _,⟨_,ã _ rfl,rfl,rfl⟩,λb c=>?_,q⟩;have e:=by simpa using c
 subst e;exact I1.fpOk (à _) (I1.hok.fresh (à _))
def Oq{l:Expr}{tl:TE}(d:PE X l tl):PI X tg l (iTup X.K tl):=by
 intro pins s σ H R I h;refine jB (d pins s σ H _ I h) λv n ⟨x,H1,I1,j,i⟩=>?_;obtain⟨a,e,⟨xs,k⟩,q⟩:=i;subst e;cases j;obtain⟨its,m,p,r⟩:=I1.tuple k;refine wpAny_pyIter_tuple p ?_;refine⟨_,_,_,_,H1,rfl,I1.kept λb o e=>hP0 _ e,DL a _,⟨_,ã _ rfl,rfl,rfl⟩,λb c=>?_,q⟩;have e:=by simpa using c
 subst e;exact I1.fpOk (à _) (I1.hok.fresh (à _))
theorem ZS{s:ŉ}{R:It->Hp->Prop}{lo hi:Int}{t u v:Tok}{a:Nat}(I:↑1)(h1: -(2 ^ 62)<=lo)(d:lo<2 ^ 62)(i: -(2 ^ 62)<=hi)(k:hi<2 ^ 62)
  (q:R (Zz lo (hi - lo).toNat) H):wpAny (model X.prog X.w) X.A (pyIter (.ref ↑0)) (PIE X pins σ tg R) E {s with heap:=s.heap.push {cls:=.type "range",data:=.fields #[.int lo t,.int hi u,.int 1 v]},toks:=a}:=by
 refine wpAny_pyIter_range (IsRange.new ..) (small_one h1 d i k) ?_;have I1:Inv X pins σ H {s with heap:=s.heap.push {cls:=.type "range",data:=.fields #[.int lo t,.int hi u,.int 1 v]},toks:=a}:=I.kept λb o e=>hP0 _ e
 refine⟨_,_,_,_,H,rfl,
  I1.kept λb o e=>hP0 _ e,QM _ lo (hi - lo).toNat,?_,λb c=>?_,q⟩
 .have j:lo+((0:Nat):Int) * 1=lo:=by simp
  have h:(((hi - lo).toNat:Nat):Int) - ((0:Nat):Int)=Builtin.Range.rangeSize lo hi 1:=by rw[rangeSize_one];split<;>lia
  show IsRangeIter _ _ _ _ 1;rw[j,h];exact ã _ rfl
 .have e:b=(s.heap.push {cls:=.type "range",data:=.fields #[.int lo t,.int hi u,.int 1 v]}).objs.size:=by simpa using c
  subst e;exact I1.fpOk (à _) (I1.hok.fresh (à _))
def Wt(ta:TA):TI:=λσ H R=>ta σ H λvs H1=> ∃j:Int,vs=[.int j]/\ -(2 ^ 62)<=j/\j<2 ^ 62/\R (Zz 0 j.toNat) H1
theorem WJ{a:Expr}{ta:TA}{p:Pos}(c:Gl X "range")(i:X.mg "range"=none)(d:PA X [a] ta)(hs:starEach [a] X.env=[(false,eval a X.env)]:=by rfl):PI X tg (.Call (.Name "range" p) [a] [] pos) (Wt ta):=by
 intro pins s σ H R I h;refine Call_ (mI I c i boot_range (Č (jB (d pos pins s σ H _ I h) λus n ⟨vs,H1,I1,k,b⟩=>?_) hs rfl));obtain⟨j,e,b,m,q⟩:=b;subst e
 cases k with
 |cons r rr=>
  cases rr;obtain⟨t,rfl⟩:=r;exact call_range_1 (ZS I1 #[0] #[0] b m (by simpa using q))
def tFor(e:TI)(g:TG)(tb:TS):TS:=λD σ H=>e σ H λJ H1=> ∃W:Nat->Nat->St->Hp->Prop,(∃m,W 0 m σ H1)/\ ∀i m σ H,W i m σ H->
 (J.stop i H/\D.nx σ H)\/(J.go i H/\ ∃N:St->Hp->Prop,(∀a H',N a H'-> ∃c,c<m/\W (i+1) c a H')/\ ∀x H',J.yld i H x H'->g x σ H' λb d=>tb {D with nx:=N,ct:=N,bk:=D.nx} b d)
noncomputable def rZ(fp:B6)(h:Heap):List (Addr×Obj):=fp.filterMap λb=>(h.get? b).map λo=>(b,o)
def sC{fp:B6}{h:Heap}{b:Addr}{o:Obj}(a:b∈fp)(e:h.get? b=some o):(b,o)∈rZ fp h:=mem_filterMap.mpr ⟨b,a,by rw[e];rfl⟩
def WK{fp:B6}{h:Heap}{p:Addr×Obj}(c:p∈rZ fp h):p.1∈fp/\h.get? p.1=some p.2:=by
 obtain⟨b,a,e⟩:=mem_filterMap.mp c
 cases q:h.get? b with
 |none=>rw[q]at e;cases e
 |some o=>
  rw[q]at e;have d:_=p:=ä e;subst d;exact⟨a,q⟩
def Inv.pinned{s:ŉ}{fp:B6}(I:↑1)(k: ∀b∈fp,pH X pins H b)(ho: ∀b∈fp, ∃o,s.heap.get? b=some o/\ ∀v,o.data≠.cell v):Inv X (pins++rZ fp s.heap) σ H s:=
 I.pins_of λp j=>(é.mp j).elim (λz=>I.pin p (ó _ z)) λz=>by obtain⟨a,e⟩:=WK z;obtain⟨h,m,i,_⟩:=k p.1 a;obtain⟨o,c,d⟩:=ho p.1 a;rw[e]at c;cases c;exact⟨e,h,m,i,d⟩
def Inv.unpinned{a:C0}{s:ŉ}(I:Inv X (pins++a) σ H s):Inv X pins σ H s:=I.pins_of λp b=>I.pin p (ó _ (ă _ b))
def Os{iter:Expr}{body:List Stmt}{Z:TI}{g:TG}{tb:TS}(K:PassesOwn (model X.prog X.w) X.A X.env X.xe)(hc:X.calm=true)(hi:PI X tg iter Z)(hg:PG X tg g)(y:PSs X body tb)
  (hs: ∀x,foldedSetIterable iter X.env x=pure x:=by intro _;rfl):PS X (.For tg iter body [] pos) (tFor Z g tb):=by
 intro pins s σ H D I h;refine wpAny_For (jB (hi pins s σ H _ I h) λv s1 h1=>jB h1 λaa s2 h2=>?_) hs;obtain⟨it,fp,tn,J,H2,e,I2,T,U,f2,W,⟨m0,w0⟩,G⟩:=h2;subst e;have p: ∀{H':Hp},(∀b∈fp,H' b=none)-> ∀b∈fp,pH X pins H' b:=λhn b y=>⟨hn b y,(f2 b y).2⟩
 refine codeAny_forLoop_any (λn s'=> ∃i q H',Inv X pins q H' s'/\tn i s'.heap/\(∀b∈fp,H' b=none)/\W i n q H') ?_ m0 ⟨0,σ,H2,I2,U,λb y=>(f2 b y).1,w0⟩;rintro n s3 ⟨i,k,L,Y,E,F,w3⟩;rcases G i n k L w3 with⟨stop,qn⟩|⟨go,N,hN,step⟩
 .refine wpAny_passesOwn K (jB (T.done X rfl rfl rfl hc i pins s3 k L X.xe Y (p F) E stop) λr s4 ⟨P,I4⟩=>?_);subst P;exact wpAny_execs_nil ⟨k,L,I4,qn⟩
 .refine wpAny_passesOwn K (jB (T.item X rfl rfl rfl hc i pins s3 k L X.xe Y (p F) E go) λr s4 ⟨u,P,h4⟩=>?_);subst P;refine wpAny_passesOwn K (jB h4 λ_ s5 ⟨x,H5,I5,r5,y5,B,Q⟩=>?_);have S:=I5.pinned (p Q) (T.obj _ _ B);refine wpAny_passesOwn K (jB (hg _ s5 k H5 x u _ S r5 (step x H5 y5)) λ_ s6 ⟨O,H6,I6,q6⟩=>?_);refine wpAny_passesOwn K (jB (y _ s6 O H6 _ I6 q6) λf M z=>?_);have c: ∀{a:St}{H7:Hp},Inv X _ a H7 M->N a H7-> ∃m,m<n/\ ∃i q H',Inv X pins q H' M/\tn i M.heap/\(∀b∈fp,H' b=none)/\W i m q H':=λ{a H7} j C=>by obtain⟨m',hm,w7⟩:=hN a H7 C;refine⟨m',hm,_,a,H7,j.unpinned,T.keep _ _ _ B λb y o e=>(j.pin (b,o) (ó _ (ó _ (sC y e)))).1,λb y=>?_,w7⟩;obtain⟨o,e,d⟩:=T.obj _ _ B b y;exact(j.pin (b,o) (ó _ (ó _ (sC y e)))).2.1
  cases f with
  |next=>obtain⟨a,H7,j,C⟩:=z;exact c j C
  |cont=>obtain⟨a,H7,j,C⟩:=z;exact c j C
  |brk=>obtain⟨a,H7,j,z⟩:=z;exact⟨a,H7,j.unpinned,z⟩
  |ret v=>obtain⟨x7,a,H7,j,r7,z⟩:=z;exact⟨x7,a,H7,j.unpinned,r7,z⟩
end
abbrev R2:=V->V->Hp->VK->Prop
def OpR(X:Cx)(f:Ŋ->Ŋ->Sem Ŋ)(r:R2):Prop:=
 ∀(pins:C0)(s:ŉ)(σ:St)(H:Hp)(x y:V)(v u:Ŋ)(Q:VK),Inv X pins σ H s->RelV x v->RelV y u->r x y H Q->
  wpAny (model X.prog X.w) X.A (f v u) (EP X pins σ Q) X.xe s
def UnR(X:Cx)(f:Ŋ->Sem Ŋ)(r:V->Hp->VK->Prop):Prop:=
 ∀(pins:C0)(s:ŉ)(σ:St)(H:Hp)(x:V)(v:Ŋ)(Q:VK),Inv X pins σ H s->RelV x v->r x H Q->
  wpAny (model X.prog X.w) X.A (f v) (EP X pins σ Q) X.xe s
def CallR(X:Cx)(f:Ŋ)(r:List V->Hp->VK->Prop):Prop:=
 ∀(pins:C0)(s:ŉ)(σ:St)(H:Hp)(xs:List V)(us:A0)(Q:VK),Inv X pins σ H s->Vals xs us->r xs H Q->
  wpAny (model X.prog X.w) X.A (call f us) (EP X pins σ Q) X.xe s
def TruR(X:Cx)(r:V->Hp->(Bool->Hp->Prop)->Prop):Prop:=
 ∀(pins:C0)(s:ŉ)(σ:St)(H:Hp)(x:V)(v:Ŋ)(Q:Bool->Hp->Prop),Inv X pins σ H s->RelV x v->r x H Q->
  wpAny (model X.prog X.w) X.A (truthy v) (TP X pins σ Q) X.xe s
def A3(r:R2)(ta tb:TE):TE:=λσ H Q=>ta σ H λx H1=>tb σ H1 λy a=>r x y a Q
def tUn(r:V->Hp->VK->Prop)(ta:TE):TE:=λσ H Q=>ta σ H λx H1=>r x H1 Q
def rI(C:Int->Int->Prop)(g:Int->Int->V):R2:=λx y H Q=> ∃i j,x=.int i/\y=.int j/\C i j/\Q (g i j) H
def Fz(g:Int->Int->V):R2:=λx y H Q=> ∃i j,x=.int i/\y=.int j/\Q (g i j) H
def rU(g:Int->V):V->Hp->VK->Prop:=λx H Q=> ∃i,x=.int i/\Q (g i) H
section
variable{X:Cx}{a b:Expr}{ta tb:TE}{pos:Pos}
def Ot(j:PE X a ta)(k:PE X b tb){s:ŉ}{R:V->V->Hp->Prop}(I:↑1)
  (h:ta σ H λx H1=>tb σ H1 λy c=>R x y c) {Q:VP} {f:Ŋ->Ŋ->Sem Ŋ}
  (hf: ∀v u e x y c,Inv X pins σ c e->RelV x v->RelV y u->R x y c->wpAny (model X.prog X.w) X.A (f v u) Q X.xe e):
  wpAny (model X.prog X.w) X.A (eval a X.env) (λv d=>wpAny (model X.prog X.w) X.A (eval b X.env) (λu s₂=>wpAny (model X.prog X.w) X.A (f v u) Q X.xe s₂) X.xe d) X.xe s:=by
 refine jB (j pins s σ H _ I h) λv o ⟨x,H1,I1,p,m⟩=>?_;refine jB (k pins o σ H1 _ I1 m) λu e ⟨y,c,n,i,q⟩=>?_;exact hf v u e x y c n p i q
def Wu{c:Operator}{r:R2}(ho:OpR X (binaryOp c) r)(e:PE X a ta)(i:PE X b tb):PE X (.BinOp a c b pos) (A3 r ta tb):=by intro pins s σ H Q I h;exact wpAny_BinOp (Ot e i I h λv u n x y d j k m q=>ho pins n σ d x y v u Q j k m q)
def Wv{b:UnaryOp}{r:V->Hp->VK->Prop}(ho:UnR X (unaryOp b) r)(i:PE X a ta):PE X (.UnaryOp b a pos) (tUn r ta):=by intro pins s σ H Q I h;exact UnaryOp_ (jB (i pins s σ H _ I h) λv c ⟨x,H1,I1,e,d⟩=>ho pins c σ H1 x v Q I1 e d)
def A4{f:Ŋ->Ŋ->Sem Ŋ}{C:Int->Int->Prop}{g:Int->Int->Int}
  (rule: ∀(i j:Int)(t u:Tok)(s:ŉ)(Q:VP)(E:VP),C i j->Q (.int (g i j) s.toks) {s with toks:=s.toks+1}->wpAny (model X.prog X.w) X.A (f (.int i t) (.int j u)) Q E s):
  OpR X f (rI C λi j=>.int (g i j)):=by
 intro pins s σ H x y v u Q I b c h;obtain⟨i,j,rfl,rfl,a,q⟩:=h;obtain⟨t,rfl⟩:=b;obtain⟨t',rfl⟩:=c;exact rule i j t t' s _ _ a ⟨.int _,H,I.tok _,⟨_,rfl⟩,q⟩
def Ga{f:Ŋ->Ŋ->Sem Ŋ}{g:Int->Int->Int}
  (rule: ∀(i j:Int)(t u:Tok)(s:ŉ)(Q:VP)(E:VP),Q (.int (g i j) s.toks) {s with toks:=s.toks+1}->wpAny (model X.prog X.w) X.A (f (.int i t) (.int j u)) Q E s):
  OpR X f (Fz λi j=>.int (g i j)):=by
 intro pins s σ H x y v u Q I a b h;obtain⟨i,j,rfl,rfl,q⟩:=h;obtain⟨t,rfl⟩:=a;obtain⟨t',rfl⟩:=b;exact rule i j t t' s _ _ ⟨.int _,H,I.tok _,⟨_,rfl⟩,q⟩
def opB0{f:Ŋ->Ŋ->Sem Ŋ}{g:Int->Int->Bool}
  (rule: ∀(i j:Int)(t u:Tok)(s:ŉ)(Q:VP)(E:VP),Q (.bool (g i j)) s->wpAny (model X.prog X.w) X.A (f (.int i t) (.int j u)) Q E s):
  OpR X f (Fz λi j=>.bl (g i j)):=by
 intro pins s σ H x y v u Q I a b h;obtain⟨i,j,rfl,rfl,q⟩:=h;obtain⟨t,rfl⟩:=a;obtain⟨t',rfl⟩:=b;exact rule i j t t' s _ _ ⟨.bl _,H,I,rfl,q⟩
def CMul(i j:Int):Prop:=(-(2 ^ 64)<i/\i<2 ^ 64)\/(-(2 ^ 64)<j/\j<2 ^ 64)
def CMul.ok{i j:Int}(h:CMul i j):IntMulOk i j:=by
 rcases h with⟨h1,h2⟩|⟨h1,h2⟩
 .exact .of_left (intBits_le_64 h1 h2)
 .exact .of_right (intBits_le_64 h1 h2)
def Ou:OpR X (binaryOp .Add) (Fz λi j=>.int (i+j)):=Ga λ_ _ _ _ _ _ _ q=>add_int q
def Ov:OpR X (binaryOp .Sub) (Fz λi j=>.int (i - j)):=Ga λ_ _ _ _ _ _ _ q=>sub_int q
theorem Ow:OpR X (binaryOp .Mod) (rI (λ_ j=>0<j) λi j=>.int (i % j)):=A4 λi j _ _ _ _ _ a q=>by have h1:_<j:=a;exact mod_int' #[0] (by rw[Int.fmod_eq_emod_of_nonneg i #[0]];exact q)
def Ox:OpR X (binaryOp .BitAnd) (Fz λi j=>.int (Builtin.bitAnd i j)):=Ga λ_ _ _ _ _ _ _ q=>and_int q
def Ww:OpR X (binaryOp .BitOr) (Fz λi j=>.int (Builtin.bitOr i j)):=Ga λ_ _ _ _ _ _ _ q=>or_int q
def unI{f:Ŋ->Sem Ŋ}{g:Int->Int}
  (rule: ∀(i:Int)(t:Tok)(s:ŉ)(Q:VP)(E:VP),Q (.int (g i) s.toks) {s with toks:=s.toks+1}->wpAny (model X.prog X.w) X.A (f (.int i t)) Q E s):
  UnR X f (rU λi=>.int (g i)):=by
 intro pins s σ H x v Q I a h;obtain⟨i,rfl,q⟩:=h;obtain⟨t,rfl⟩:=a;exact rule i t s _ _ ⟨.int (g i),H,I.tok _,⟨_,rfl⟩,q⟩
def Oy:UnR X (unaryOp .USub) (rU λi=>.int (-i)):=unI λ_ _ _ _ _ q=>neg_int q
end
section
variable{X:Cx}{a b:Expr}{ta tb:TE}{pos:Pos}
def QN{s:ŉ}{Q:VK}{k k':Bool}(I:↑1)(q:Q (.bl k) H)(e:k=k'):EP X pins σ Q (.bool k') s:=by subst e;exact⟨.bl k,H,I,rfl,q⟩
def Wx:OpR X (compareOp .Gt) (Fz λi j=>.bl (decide (j<i))):=opB0 λ_ _ _ _ _ _ _ q=>gt_int q
def WL:OpR X (compareOp .In) (λx y H Q=> ∃i j,x=.str i/\y=.str j/\Q (.bl (!(Builtin.Str.occurrences j i 0 j.length 1).isEmpty)) H):=by intro pins s σ H x y v u Q I a b h;obtain⟨i,j,rfl,rfl,q⟩:=h;obtain⟨t,rfl⟩:=a;obtain⟨t',rfl⟩:=b;exact in_str (QN I q rfl)
def Gb:OpR X (compareOp .IsNot) (λx y H Q=>y=.non/\Q (.bl (!decide (x=.non))) H):=by
 intro pins s σ H x y v u Q I a b h;obtain⟨rfl,q⟩:=h;cases b;refine isnot_none_gen (QN I q ?_)
 cases x<;>first
  |(cases a;rfl)
  |(obtain⟨t,rfl⟩:=a;rfl)
def JB:OpR X (compareOp .NotIn) (λx y H Q=> ∃i j,x=.str i/\y=.str j/\Q (.bl (!(!(Builtin.Str.occurrences j i 0 j.length 1).isEmpty))) H):=by intro pins s σ H x y v u Q I a b h;obtain⟨i,j,rfl,rfl,q⟩:=h;obtain⟨t,rfl⟩:=a;obtain⟨t',rfl⟩:=b;exact notIn_str (QN I q rfl)
def OpR.or{f:Ŋ->Ŋ->Sem Ŋ}{r b:R2}(h:OpR X f r)(h':OpR X f b):OpR X f (λx y H Q=>r x y H Q\/b x y H Q):=by
 intro pins s σ H x y v u Q I a c q;rcases q with q|q
 .exact h pins s σ H x y v u Q I a c q
 .exact h' pins s σ H x y v u Q I a c q
def ZT(b:Expr){a:CmpOp}(h:a≠.In:=by decide)(e:a≠.NotIn:=by decide):behindInMarks a b=false:=by
 have c:(a==CmpOp.In)=false:=by cases a<;>first |rfl|exact absurd rfl h
 have d:(a==CmpOp.NotIn)=false:=by cases a<;>first |rfl|exact absurd rfl e
 cases b<;>simp[behindInMarks,c,d]
def Gc{c:CmpOp}{r:R2}(ho:OpR X (compareOp c) r)(e:PE X a ta)(i:PE X b tb)(j:behindInMarks c b=false):PE X (.Compare a [c] [b] pos) (A3 r ta tb):=by intro pins s σ H Q I h;exact wpAny_Compare1 (Ot e i I h λv u o x y d k m n q=>ho pins o σ d x y v u Q k m n q) j
def Wy(t:TE):TT:=λσ H Q=>t σ H λx H'=> ∃k,x=.bl k/\Q k H'
def Gd{d:CmpOp}{r:R2}(ho:OpR X (compareOp d) r)(n:PE X a ta)(o:PE X b tb)(q:behindInMarks d b=false):PT X (.Compare a [d] [b] pos) (Wy (A3 r ta tb)):=by
 intro pins s σ H Q I h
 refine wpAny_isTrue_Compare1 (jB (n pins s σ H _ I h) λv B ⟨x,H1,I1,C,w⟩=>jB (o pins B σ H1 _ I1 w) λu E ⟨y,j,A,m,D⟩=>
  jB (ho pins E σ j x y v u _ A C m D) λc J ⟨z,F,p,i,k,e,G⟩=>?_) q
 subst e;cases i;exact Ķ ⟨F,p,G⟩
def Oz(K:C6)(x:V)(H:Hp)(k:Bool):Prop:=
 match x with
 |.non=>k=false
 |.bl b=>k=b
 |.int i=>k=(i !=0)
 |.str y=>y.length<=sizeLine/\k=((y.length:Int) !=0)
 |.byt y=>y.size<=sizeLine/\k=((y.size:Int) !=0)
 |.ref p=>(∃xs,SqL K H p xs/\k= !xs.isEmpty)\/(∃xs,SqT K H p xs/\k= !xs.isEmpty)\/ ∃kvs,H p=some (.dK kvs)/\k= !kvs.isEmpty
 |_=>False
theorem QO{a:Type}{kvs:List (a×V)}{vs:List (a×Ŋ)}(r:KV kvs vs):(!vs.isEmpty)= !kvs.isEmpty:=by cases r<;>rfl
def DM{xs:List V}{its:A0}(r:Vals xs its):(!its.toArray.isEmpty)= !xs.isEmpty:=by cases r<;>simp
def sD:(sizeLine:Nat)<2 ^ 63:=by rw[Ĕ];decide
theorem Pa:TruR X (λx H Q=> ∃k,Oz X.K x H k/\Q k H):=by
 intro pins s σ H x v Q I d h;obtain⟨k,e,q⟩:=h;have w:=sD;have hs:=Ĕ
 cases x with
 |non=>
  cases d;have a:=e;subst a;exact truthy_none ⟨H,I,q⟩
 |bl b=>
  cases d;have a:=e;subst a;exact Ķ ⟨H,I,q⟩
 |int i=>
  obtain⟨t,rfl⟩:=d;have a:k=_:=e;subst a;exact PySem.P.truthy_int ⟨H,I,q⟩
 |str y=>
  obtain⟨t,rfl⟩:=d;obtain⟨o,a⟩:y.length<=sizeLine/\k=_:=e;subst a;exact PySem.P.truthy_str #[0] ⟨H,I.tok _,q⟩
 |byt y=>
  obtain⟨t,rfl⟩:=d;obtain⟨o,a⟩:y.size<=sizeLine/\k=_:=e;subst a;exact PySem.W.truthy_bytes #[0] ⟨H,I.tok _,q⟩
 |ref p=>
  cases d;have a:_\/_\/ ∃kvs,H p=some (.dK kvs)/\k= !kvs.isEmpty:=e;rcases a with⟨xs,hx,a⟩|⟨xs,hx,a⟩|⟨kvs,hx,a⟩
  .subst a;obtain⟨its,r,j,n⟩:=I.list hx;have c:=r.length;exact wpAny_truthy_list j.isList (by simp only[sA0];lia) ⟨H,I.tok _,by rw[DM r];exact q⟩
  .subst a;obtain⟨its,r,j,n⟩:=I.tuple hx;have c:=r.length;exact truthy_tuple j (by simp only[sA0];lia) ⟨H,I.tok _,by rw[DM r];exact q⟩
  .subst a;obtain⟨n,u,vs,r,m⟩:kvs.length<=sizeLine/\_=false/\ ∃vs,KV kvs vs/\s.heap.DictOf _ p vs:=I.hok p _ hx;have c:kvs.length=vs.length:=Paired.length r;exact wpAny_truthy_dict u m #[0] ⟨H,I.tok _,by rw[QO r];exact q⟩
 |_=>exact e.elim
def ZU(c:PE X a ta)(e: ∀b,isTrue a X.env b=(do let v <-b;standAt a.pos;holding [v] (truthy v))):
  PT X a (λσ H Q=>ta σ H λx H'=> ∃k,Oz X.K x H' k/\Q k H'):=by
 intro pins s σ H Q I h;exact isTrue_plain (jB (c pins s σ H _ I h) λv i ⟨x,H1,I1,j,d⟩=>Pa pins i σ H1 x v Q I1 j d) (e _)
def QP:OpR X (binaryOp .Add) (λx y H Q=> ∃i j,x=.str i/\y=.str j/\i.length+j.length<=sizeLine/\Q (.str (i++j)) H):=by intro pins s σ H x y v u Q I b c h;obtain⟨i,j,rfl,rfl,a,q⟩:=h;obtain⟨t,rfl⟩:=b;obtain⟨t',rfl⟩:=c;exact add_str (λt' d=>⟨.str _,H,I.tok _,⟨_,rfl⟩,q⟩) a
def vals1{x:V}(r:Vals [x] us): ∃u,us=[u]/\RelV x u:=by
 cases r with
 |cons r1 r2=>cases r2;exact⟨_,rfl,r1⟩
def vals2{x y:V}(r:Vals [x,y] us): ∃u a,us=[u,a]/\RelV x u/\RelV y a:=by
 cases r with
 |cons r1 r2=>
  cases r2 with
  |cons r3 r4=>cases r4;exact⟨_,_,rfl,r1,r3⟩
def WM:CallR X (.type "int") (λxs H Q=>(∃i,xs=[.int i]/\Q (.int i) H)\/ ∃k,xs=[.bl k]/\Q (.int (if k then 1 else 0)) H):=by
 intro pins s σ H xs us Q I r h;rcases h with⟨i,rfl,q⟩|⟨k,rfl,q⟩
 .obtain⟨u,rfl,t,rfl⟩:=vals1 r;exact call_int_int ⟨.int i,H,I,⟨_,rfl⟩,q⟩
 .obtain⟨u,rfl,a⟩:=vals1 r;cases a;exact call_int_bool ⟨.int (if k then 1 else 0),H,I.tok _,⟨_,rfl⟩,q⟩
end
structure Cls(K:C6)(C:Addr):Prop where
 pg:PySem.W.plainGet K C Str.empty=true
 hd:PySem.W.hasDictIn K C=true
 po:PySem.W.plainOver K C=true
 sa:PySem.W.findIn K (.ref C) "__setattr__"=some (some (.builtin "object.__setattr__"))
section
variable{H:Hp}
inductive rF(K:C6)(H:Hp):V->Ŋ->Prop where
 |non:rF K H .non (.type "NoneType")
 |bl (x:Bool):rF K H (.bl x) (.type "bool")
 |int (i:Int):rF K H (.int i) (.type "int")
 |str (x:Str):rF K H (.str x) (.type "str")
 |flt (x:UInt64):rF K H (.flt x) (.type "float")
 |lst {a:Addr} {xs:List V} (e:H a=some (.lst xs)):rF K H (.ref a) (.type "list")
 |frz {a:Addr} {o:Obj} {xs:List V} (e:H a=some (.frz o (.lst xs))):rF K H (.ref a) (.type "list")
 |tup {a:Addr} {xs:List V} (e:H a=some (.tup xs)):rF K H (.ref a) (.type "tuple")
 |dK {a:Addr} {kvs:List (Key×V)} (e:H a=some (.dK kvs)):rF K H (.ref a) (.type "dict")
 |dT {a:Addr} {kvs:List (List Key×V)} (e:H a=some (.dT kvs)):rF K H (.ref a) (.type "dict")
 |ins {a C dx:Addr} {fs:List (Str×V)} (e:H a=some (.ins C dx fs)) (cl:Cls K C) (ha:PySem.W.findIn K (.ref C) "__class__"=some (some (.builtin "object.__class__")))
   (hn:PySem.W.specialIn K (.builtin "object.__class__") "__get__"=some (some (.builtin "getset_descriptor.__get__"))) (htk:PySem.W.takesIn K (.builtin "object.__class__")=some true)
   (hm:PySem.W.mroIn K C (.type "object")=some true):rF K H (.ref a) (.ref C)
end
structure Room(k:Nat)(A:ŋ):Prop where
 hd:A.handled=none
 dp:A.depth+3 * k+5<recursionLimit
 un:A.units+16 * k+200<cLine
theorem Room.mono{j k:Nat}{A:ŋ}(r:Room k A)(h:j<=k):Room j A:=⟨r.hd,by have:=r.dp;lia,by have:=r.un;lia⟩
theorem Room.deeper{k:Nat}{A:ŋ}(r:Room (k+1) A)(a:Env):Room k (A.deeper a):=
 ⟨r.hd,by have:=r.dp;show A.depth+1+3 * k+5<_;lia,by have:=r.un;show A.units+3+16 * k+200<_;lia⟩
theorem Room.in1{k:Nat}{A:ŋ}(r:Room (k+1) A):Room k A.in1:=
 ⟨r.hd,by have:=r.dp;show A.depth+3 * k+5<_;lia,by have:=r.un;show A.units+1+16 * k+200<_;lia⟩
def Room.depth{k:Nat}{A:ŋ}(r:Room k A):A.depth<recursionLimit:=by have:=r.dp;omega
def Room.units{k:Nat}{A:ŋ}(r:Room k A):A.units+64<cLine:=by have:=r.un;omega
def tNil:TA:=λ_ H Q=>Q [] H
def Wz(ta:TE)(tr:TA):TA:=λσ H Q=>ta σ H λx H1=>tr σ H1 λxs a=>Q (x::xs) a
section
variable{X:Cx}{e:Expr}{es:C5}{te:TE}{t:TA}{pos:Pos}
def Pb:PA X [] tNil:=λ_ _ _ _ H Q I h=>Calls.spliced_nil ⟨[],H,I,.nil,h⟩
abbrev q9(X:Cx)(e:Expr)(es:List Expr):Prop:=starEach (e::es) X.env=(false,eval e X.env)::starEach es X.env
def Ge(c:PE X e te)(n:PA X es t)(hs:q9 X e es:=by rfl):PA X (e::es) (Wz te t):=by intro pos pins s σ H Q I h;rw[hs];show wpAny _ _ _ _ _ s;refine Calls.spliced_cons (jB (c pins s σ H _ I h) λu j ⟨x,H1,I1,k,d⟩=>?_);exact jB (n pos pins j σ H1 _ I1 d) λus o ⟨xs,a,i,b,m⟩=>⟨_,a,i,.cons k b,m⟩
def tTup(t:TA):TE:=λσ H Q=>t σ H λxs H1=>xs.length<=sizeLine/\ ∀p,H1 p=none->Q (.ref p) (xR H1 p (.tup xs))
def tLst(t:TA):TE:=λσ H Q=>t σ H λxs H1=>xs.length<=sizeLine/\ ∀p,H1 p=none->Q (.ref p) (xR H1 p (.lst xs))
def Pc{x1}(h:PA X es t):PE X (.Tuple es x1 pos) (tTup t):=by intro pins s σ H Q I d;refine wpAny_Tuple_spliced (jB (h pos pins s σ H _ I d) λus a ⟨xs,H1,I1,r,z,q⟩=>⟨by rw[<-r.length];exact z,?_⟩);have c:=I1.hok.fresh (à _);refine⟨.ref a.heap.objs.size,_,I1.laid (λb u e=>hP0 _ e) (à _) ?_,rfl,q _ c⟩;exact⟨z,us,r,⟨_,ã _ rfl,rfl,_,rfl⟩⟩
def Pd(h:PA X es t):PE X (.List es pos) (tLst t):=by intro pins s σ H Q I d;refine wpAny_List_spliced (jB (h pos pins s σ H _ I d) λus a ⟨xs,H1,I1,r,z,q⟩=>⟨by rw[<-r.length];exact z,?_⟩);have c:=I1.hok.fresh (à _);refine⟨.ref a.heap.objs.size,_,I1.laid (λb u e=>hP0 _ e) (à _) ?_,rfl,q _ c⟩;exact⟨z,us,0,r,ã _ rfl⟩
end
abbrev Sp:=List V->Hp->VK->XK->Prop
abbrev WN:=List Env->Hp->Shared->XK->VP
structure Env0(P:Ō)(w:World)(K:C6)(mg:B8)(base:Heap)(A:ŋ)(outer:List Env)(s:ŉ)(H:Hp):Prop where
 frames:A.frames=some outer
 mod:Mod K mg base
 bs: ∀b o,base.get? b=some o->s.heap.get? b=some o/\H b=none
 bsz:base.objs.size<=↑0
 funs:s.heap.FunFrames base outer
 frf: ∀b∈WI outer,H b=none
 hok:HOk P w H s.heap
 bare:AllBare s.gens
def CE(a:List Env)(P:Ō)(w:World)(H:Hp)(s:ŉ)(Q:VK)(u:Ŋ)(s':ŉ):Prop:=
 ∃v H',s'.os=s.os/\AllBare s'.gens/\Un (WI a) [] H H' s.heap s'.heap/\HOk P w H' s'.heap/\RelV v u/\Q v H'
def CR(CX:WN)(a:List Env)(P:Ō)(w:World)(H:Hp)(s:ŉ)(Q:VK)(E:XK)(r:Result)(s':ŉ):Prop:=
 match r with
 |.ok (.ret u)=>CE a P w H s Q u s'
 |.ok _=>False
 |.error e=>CX a H s E e s'
structure FnOk(P:Ō)(w:World)(K:C6)(mg:B8)(base:Heap)(CX:WN)(k:Nat)(f:Addr)(fd:FuncData)(ps:B7)(sp:Sp):Prop where
 len: ∀vs H Q E,sp vs H Q E->vs.length=ps.length
 run: ∀(A:ŋ)(outer:List Env)(s:ŉ)(H:Hp)(args:Args)(us:A0)(vs:List V)(Q:VK)(E:XK),Room k A->Env0 P w K mg base A outer s H->BindsTo s fd args (ps.zip us)->Vals vs us->sp vs H Q E->
  codeAny (model P w) A (.call (.ref f) args) (CR CX outer P w H s Q E) s
def FnOk.imp{P:Ō}{w:World}{K:C6}{mg:B8}{base:Heap}{CX:WN}{k:Nat}{f:Addr}{fd:FuncData}{ps:B7}{sp c:Sp}(F:FnOk P w K mg base CX k f fd ps sp)
  (h: ∀vs H Q E,c vs H Q E->sp vs H Q E):FnOk P w K mg base CX k f fd ps c:=
 ⟨λvs H Q E q=>F.len vs H Q E (h _ _ _ _ q),λA a s H b us vs Q E i e d j hs=>F.run A a s H b us vs Q E i e d j (h _ _ _ _ hs)⟩
def Env0.in1{P:Ō}{w:World}{K:C6}{mg:B8}{base:Heap}{A:ŋ}{a:List Env}{s:ŉ}(e:Env0 P w K mg base A a s H):
  Env0 P w K mg base A.in1 a s H:=⟨e.frames,e.mod,e.bs,e.bsz,e.funs,e.frf,e.hok,e.bare⟩
section
variable{X:Cx}{pins:C0}{σ:St}{H:Hp}{s s':ŉ}
def Inv.env0(I:↑1):Env0 X.prog X.w X.K X.mg X.base X.A X.stack s H:=
 ⟨I.ok.frames,I.ok.mod,I.bs,õ I.ok.bsz I.sz,I.stack,I.stkFree,I.hok,I.bare⟩
def Inv.after{Q:VK}{u:Ŋ}(I:↑1)(h:CE X.stack X.prog X.w H s Q u s'):EP X pins σ Q u s':=by obtain⟨v,H',i,a,un,e,r,q⟩:=h;obtain⟨j,g,d,t,c⟩:=s';obtain rfl:c=s.os:=i;exact⟨v,H',I.call un e a (λb z=>absurd z (by simp)),r,q⟩
end
def Xa(sp:Sp)(dvs:List V)(E:XK)(t:TA):TE:=λσ H Q=>t σ H λvs H1=>sp (vs++dvs) H1 Q E
def Binds(K:C6)(fd:FuncData)(ps:B7)(ds:A0):Prop:=
 ∀(s:ŉ)(us:A0),K.In s.heap->(us++ds).length=ps.length->BindsTo s fd ⟨us,[]⟩ (ps.zip (us++ds))
def Binds.all{K:C6}{fd:FuncData}{ps:B7}(h: ∀us:List Ŋ,us.length=ps.length->bindArgs fd ⟨us,[]⟩=pure (ps.zip us)):Binds K fd ps []:=λs us _ a=>by rw[aN]at a ⊢;exact .of_eq (h us a)
def QQ(CX:WN)(X:Cx)(E:XK):Prop:= ∀(pins:C0)(σ:St)(H:Hp)(s:ŉ)(e:Ŋ)(s':ŉ),Inv X pins σ H s->CX X.stack H s E e s'->X.xe e s'
section
variable{X:Cx}{CX:WN}{k:Nat}{f:Addr}{fd:FuncData}{ps:B7}{sp:Sp}{dvs:List V}{ds:A0}{E:XK}{x:Str}{p pos:Pos}{e:Expr}{es:C5}{t:TA}
def Pe{s:ŉ}{Q:VK}{vs:List V}(F:FnOk X.prog X.w X.K X.mg X.base CX k f fd ps sp)(d:Room k X.A)(c:Binds X.K fd ps ds)(hd:Vals dvs ds)(j:QQ CX X E)
  (I:↑1) (r:Vals vs us) (h:sp (vs++dvs) H Q E):wpAny (model X.prog X.w) X.A (call (.ref f) us) (EP X pins σ Q) X.xe s:=by
 have b:Vals _ _:=r.append hd;have i:(us++ds).length=ps.length:=by rw[<-b.length];exact F.len _ _ _ _ h
 refine wpAny_call (codeAny_mono (F.run X.A X.stack s H ⟨us,[]⟩ _ _ Q E d I.env0 (c s us I.kIn i) b h) λr s' a=>?_)
 cases r with
 |error e=>exact j pins σ H s e s' I a
 |ok fl=>
  cases fl with
  |ret u=>exact I.after a
  |next=>exact False.elim a
  |brk=>exact False.elim a
  |cont=>exact False.elim a
abbrev Q0(X:Cx)(p:Pos)(es:List Expr):Prop:=(backTo p (starEach es X.env)).any (·.1)=false
def Gf(F:FnOk X.prog X.w X.K X.mg X.base CX k f fd ps sp)(i:Room k X.A)(a:Gl X x)(c:X.mg x=some (.ref f))(d:PySem.W.keepIn X.K (.ref f)=true)(b:Binds X.K fd ps ds)(hd:Vals dvs ds)(j:QQ CX X E)
  (ha:PA X (e::es) t) (hdb:(x==("__debug__":Str))=false:=by decide) (he:q9 X e es:=by rfl) (hpl:Q0 X pos es:=by rfl):
  PE X (.Call (.Name x p) (e::es) [] pos) (Xa sp dvs E t):=by
 intro pins s σ H Q I h;refine wpAny_Call_Name_kw (JA I a c ?_ hdb);refine PySem.W.callWith_K I.ok.mod.kin d (jB (ha pos pins s σ H _ I h) λus m ⟨vs,H1,I1,r,q⟩=>⟨I1.kIn,?_⟩) he hpl;exact Pe F i b hd j I1 r q
end
structure FnScope(N P:B7)(sc:Scope):Prop where
 kind:sc.kind=.function
 co:sc.isCoroutine=false
 gen:sc.isGenerator=false
 nd:N.Nodup
 pre:N.take P.length=P
 par: ∀x∈P,sc.names.lookup x=some .local\/sc.names.lookup x=some .cell
 nofree: ∀y∈sc.names,y.2≠.free
theorem GY{a:Str->Option NameKind}{x:Str}: ∀{binds:List (Str×Ŋ)}{m:B8},(∀v,(x,v)∉binds)->bindL a binds m x=m x
 |[],_,_=>rfl
 |(n,v)::r,m,h=>by
  unfold bindL;rw[GY λw hw=>h w (mO _ hw)];split
  .have:x≠n:=by rintro rfl;exact h v mF0
   simp[this]
  .rfl
theorem GZ{a:Str->Option NameKind}{x:Str}: ∀{binds:List (Str×Ŋ)}{m:B8},(∀v,(x,v)∉binds)->bindC a binds m x=m x
 |[],_,_=>rfl
 |(n,v)::r,m,h=>by
  unfold bindC;rw[GZ λw hw=>h w (mO _ hw)];split
  .rfl
  .have:x≠n:=by rintro rfl;exact h v mF0
   simp[this]
theorem HA{a:Str->Option NameKind}{x:Str}{v:Ŋ}: ∀{P:B7}{vs:A0}{i:Nat}{m:B8},P.Nodup->P[i]? =some x->vs[i]? =some v->a x=some .local->
  bindL a (P.zip vs) m x=some v
 |[],_,_,_,_,h,_,_=>by simp at h
 |_::_,[],_,_,_,_,h,_=>by simp at h
 |p::P,w::vs,0,m,nd,h1,h2,hk=>by simp at h1 h2;subst h1;subst h2;show bindL a (_::P.zip vs) m p=_;unfold bindL;rw[GY λv b=>(nodup_cons.mp nd).1 (of_mem_zip b).1,iP hk];simp
 |p::P,w::vs,i+1,m,nd,h1,h2,hk=>by show bindL a _ m x=_;unfold bindL;exact HA (nodup_cons.mp nd).2 (by simpa using h1) (by simpa using h2) hk
theorem HB{a:Str->Option NameKind}{x:Str}{v:Ŋ}: ∀{P:B7}{vs:A0}{i:Nat}{m:B8},P.Nodup->P[i]? =some x->vs[i]? =some v->a x≠some .local->
  bindC a (P.zip vs) m x=some v
 |[],_,_,_,_,h,_,_=>by simp at h
 |_::_,[],_,_,_,_,h,_=>by simp at h
 |p::P,w::vs,0,m,nd,h1,h2,hk=>by simp at h1 h2;subst h1;subst h2;show bindC a (_::P.zip vs) m p=_;unfold bindC;rw[GZ λv b=>(nodup_cons.mp nd).1 (of_mem_zip b).1,iN hk];simp
 |p::P,w::vs,i+1,m,nd,h1,h2,hk=>by show bindC a _ m x=_;unfold bindC;exact HB (nodup_cons.mp nd).2 (by simpa using h1) (by simpa using h2) hk
noncomputable def start(N:B7)(vs:List V):St:=vs.map some++List.replicate (N.length - vs.length) none
noncomputable def JC(CX:WN)(P:Ō)(w:World)(K:C6)(mg:B8)(base:Heap)(N:B7)(qual:Str)(scope:Scope)(f:Addr)(cd:Ŋ)(A:ŋ)(outer:List Env)(s:ŉ)(H:Hp)(E:XK):Cx where
 prog:=P
 w:=w
 K:=K
 mg:=mg
 base:=base
 A:=A.deeper (envOfC qual scope ↑0 f cd)
 N:=N
 s₀:=s
 H₀:=H
 env:=envOfC qual scope ↑0 f cd
 outer:=outer
 stack:=envOfC qual scope ↑0 f cd::outer
 ex:=[]
 calm:=true
 fn:=λ_=>true
 pn:=[]
 xe:=λe s'=>wpAny (model P w) (A.deeper (envOfC qual scope ↑0 f cd)) (leaving (envOfC qual scope ↑0 f cd) e) (λ_ s''=>CX outer H s E e s'') (λe' s''=>CX outer H s E e' s'') s'
def MW{sc:Scope}{n:Nat}{x:Str}(h:sc.names.lookup x=some .cell): ∃c,(cellsFrom n sc.names []).lookup x=some c:=by have q:=PySem.W.cellsFrom_some sc.names n [] (.inl h);exact ï.mp q
theorem WO{CX:WN}{P:Ō}{w:World}{K:C6}{mg:B8}{base:Heap}{N ps:B7}{qual:Str}{d:Scope}{f:Addr}{cd:Ŋ}{A:ŋ}{j:List Env}{s F:ŉ}{E:XK}{vs:List V}
  (S:FnScope N ps d) (hd:A.handled=none) (e0:Env0 P w K mg base A j s H) (hl:vs.length=ps.length) (r:Vals vs us)
  (x:InCallC s ↑0 (bindL (envOfC qual d ↑0 f cd).kindOf (ps.zip us) λ_=>none) (cellsFrom (↑0+1) d.names []) (bindC (envOfC qual d ↑0 f cd).kindOf (ps.zip us) λ_=>none) F):
  Inv (JC CX P w K mg base N qual d f cd A j s H E) [] (start N vs) H F:=by
 have L:=by have:=congrArg List.length S.pre;rw[lT]at this;omega
 obtain⟨h1,M,rfl,D⟩:=x.done;have o: ∀b:Addr,b∉(JC CX P w K mg base N qual d f cd A j s H E).ex:=λb z=>absurd (show b∈([]:B6)from z) (by simp)
 refine⟨⟨e0.mod,S.kind,rfl,rfl,à _,λy z c h1 m=>?_,λy n=>?_,λy c _ h=>?_,λ_=>hd,Around.frames_deeper e0.frames,.inr ⟨rfl,rfl⟩,λb z=>absurd z (o b),e0.bs,e0.bsz,λb _ _=>o b,λb z=>absurd z (o b),e0.funs,e0.frf⟩,
  rfl,e0.bare,Un.kept D,⟨_,x.toInCall.ns,λi y v h1 m O=>?_⟩,λy c h=>⟨_,x.cell y c h⟩,e0.hok.fresh (à _),λy c h=>?_,λp B=>absurd (show p∈([]:List _)from B) (by simp),e0.hok.kept D,?_⟩
 .exact name_of_addr x.apart (PySem.mem_of_lookup h1) (PySem.mem_of_lookup m)
 .have n:=n;rcases n with n|n
  .exact MW n
  .exact absurd rfl (S.nofree _ (PySem.mem_of_lookup n))
 .exact le_of_lt (x.above y c (PySem.mem_of_lookup h))
 .have hi:i<vs.length:=by
   unfold start at m;by_cases hi:i<vs.length
   .exact hi
   .rw[æ (by simpa using hi)]at m;rw[List.getElem?_replicate]at m;split at m<;>cases m
  have I:vs[i]? =some v:=by
   unfold start at m;rw[á (by simpa using hi),ö]at m
   cases e:vs[i]? with
   |none=>rw[e]at m;cases m
   |some a=>rw[e]at m;cases m;rfl
  obtain⟨u,G,J⟩:=r.get I;have B:ps[i]? =some y:=by rw[<-S.pre,Ī (by omega)];exact h1
  have C:ps.Nodup:=by rw[<-S.pre];exact S.nd.sublist (List.take_sublist _ _)
  refine⟨u,J,?_⟩;rcases S.par y (è B)with k|k
  .exact .inl ⟨k,HA C B G k⟩
  .obtain⟨c,e⟩:=MW k;refine .inr ⟨.inl k,c,e,?_⟩;have q:=x.cell y c e;rw[HB C B G (by show d.names.lookup y≠_;rw[k];decide)]at q;exact q
 .exact e0.hok.fresh (le_of_lt (x.above y c (PySem.mem_of_lookup h)))
 .unfold start;show _=N.length;rw[lA,lM,Ċ]
  lia
def fn_of{CX:WN}{P:Ō}{w:World}{K:C6}{mg:B8}{base:Heap}{k:Nat}{f:Addr}{name qual:Str}{h:Arguments}{body:List Stmt}{a:Scope}{G kV m M d ct X:Ŋ}{F od:Option Addr}
  {osl:Array (Option Ŋ)} {N ps:B7} {sp:Sp} (lk:K.lookup f=some ⟨X,od,.func (PySem.W.fnOf name qual h body a G kV m M F d ct),osl⟩) (hcd:PySem.W.codeIn K d qual=true) (S:FnScope N ps a)
  (len: ∀vs H Q E,sp vs H Q E->vs.length=ps.length)
  (hbody: ∀(A:ŋ)(c:List Env)(s:ŉ)(H:Hp)(vs:List V)(Q:VK)(E:XK),Room k (A.deeper (envOfC qual a ↑0 f d))->sp vs H Q E->
   ∃t,PSs (JC CX P w K mg base N qual a f d A c s H E) body t/\t {nx:=λ_ H'=>Q .non H',rt:=Q} (start N vs) H):
  FnOk P w K mg base CX (k+1) f (PySem.W.fnOf name qual h body a G kV m M F d ct) ps sp:=by
 refine⟨len,λA c s H L us vs Q E D p hb r z=>?_⟩;have U:=len _ _ _ _ z;have KX:=p.mod.kin.keeps λb o e=>(p.bs b o e).1;have C:=p.mod.nolimit.keeps λb o e=>(p.bs b o e).1
 have j: ∀y∈ps.zip us,a.names.lookup y.1=some .local\/(a.names.lookup y.1=some .cell/\((cellsFrom (↑0+1) a.names []).lookup y.1).isSome=true):=λ⟨n,v⟩ Y=>by
  rcases S.par n (of_mem_zip Y).1 with q|q
  .exact .inl q
  .exact .inr ⟨q,PySem.W.cellsFrom_some _ _ _ (.inl q)⟩
 refine codeAny_call_function D.depth (KX _ _ lk) rfl S.co S.gen rfl (PySem.W.codeRec_of KX hcd) (hb _ _ _ _ ?_);refine wpAny_newFunctionEnv_cells S.kind j λT he O x=>?_;subst he;refine⟨C.keeps x.toInCall.keep,codeAny_func ?_⟩;obtain⟨t,Z,hq⟩:=hbody A c s H vs Q E (D.deeper _) z;have I:Inv (JC CX P w K mg base N qual a f d A c s H E) [] _ H O:=WO S D.hd p U r x;refine û (Z [] O _ H _ I hq) (λfl s' hs=>?_) λe s' hs=>hs
 have fin: ∀{i:St}{H':Hp}{v:V}{u:Ŋ},Inv (JC CX P w K mg base N qual a f d A c s H E) [] i H' s'->RelV v u->Q v H'->CE c P w H s Q u s':=
  λ{i H' v u} J B q=>⟨v,H',J.os,J.bare,J.base,J.hok,B,q⟩
 cases fl with
 |ret u=>
  obtain⟨v,i,H',J,B,q⟩:=hs;exact fin J B q
 |next=>
  obtain⟨i,H',J,q⟩:=hs;exact fin (v:=V.non) J rfl q
 |brk=>
  obtain⟨_,_,_,q⟩:=hs;exact False.elim q
 |cont=>
  obtain⟨_,_,_,q⟩:=hs;exact False.elim q
section
variable{X:Cx}{x:Str}{p pos:Pos}{e:Expr}{es:C5}{t:TA}{id T:String}{r:List V->Hp->VK->Prop}
def tCB(r:List V->Hp->VK->Prop)(t:TA):TE:=λσ H Q=>t σ H λvs H1=>r vs H1 Q
def ZV(d:CallR X (.builtin id) r)(b:Gl X x)(i:X.mg x=none)(o:bootBuiltins x=some (.builtin id))(c:PA X (e::es) t)(k:x≠"__name__":=by decide)(a:(x==("__debug__":Str))=false:=by decide)
  (he:q9 X e es:=by rfl) (hpl:Q0 X pos es:=by rfl):PE X (.Call (.Name x p) (e::es) [] pos) (tCB r t):=by
 intro pins s σ H Q I h;refine wpAny_Call_Name_kw (mI I b i o ?_ k a);exact PyProof.Rows.callWith_builtin1 (jB (c pos pins s σ H _ I h) λus m ⟨vs,H1,I1,n,j⟩=>d pins m σ H1 vs us Q I1 n j) he hpl
def WP(d:CallR X (.type T) r)(b:Gl X x)(i:X.mg x=none)(o:bootBuiltins x=some (.type T))(c:PA X (e::es) t)(k:x≠"__name__":=by decide)(a:(x==("__debug__":Str))=false:=by decide)
  (he:q9 X e es:=by rfl) (hpl:Q0 X pos es:=by rfl):PE X (.Call (.Name x p) (e::es) [] pos) (tCB r t):=by
 intro pins s σ H Q I h;refine wpAny_Call_Name_kw (mI I b i o ?_ k a);exact Č (jB (c pos pins s σ H _ I h) λus m ⟨vs,H1,I1,n,j⟩=>d pins m σ H1 vs us Q I1 n j) he hpl
end
end L2
namespace HT
open PySem PyProof.Rows
section
variable{prog:Ō}{w:World}{A:ŋ}{E:VP}{s:ŉ}
def cat_tup{t b:Addr}{vs ws:A0}{Q:VP}(u:IsTup s.heap t vs.toArray)(r:IsTup s.heap b ws.toArray)(p:vs≠[])
  (h1:ws=[]->Q (.ref t) s) (h2:ws≠[]->Q (.ref ↑0) {s with heap:=s.heap.push {cls:=.type "tuple",data:=.seq (vs++ws).toArray}})
  (hsz:vs.length+ws.length<=sizeLine):wpAny (model prog w) A (binaryOp .Add (.ref t) (.ref b)) Q E s:=by
 obtain⟨⟨cls,k,data,sl⟩,h,q,n,hd⟩:=id u;obtain⟨⟨m,d,_,c⟩,a,j,o,i⟩:=id r;subst q hd j i;have e:vs.toArray++ws.toArray=(vs++ws).toArray:=by simp
 by_cases hw:ws=[]
 .exact concat_meets ⟨_,h,rfl⟩ ⟨_,a,rfl⟩ noFill_tuple_add seq_tuple_add PySem.F.slot_tuple_add PySem.F.entry_tuple_add (PySem.F.args_tuple_add_2 _ _)
   (tuple_addW1 t b vs.toArray ws.toArray n o k d sl c (by simpa using p) (by simp[hw])) ⟨h,a,h1 hw⟩
 .refine concat_meets ⟨_,h,rfl⟩ ⟨_,a,rfl⟩ noFill_tuple_add seq_tuple_add PySem.F.slot_tuple_add PySem.F.entry_tuple_add (PySem.F.args_tuple_add_2 _ _)
   (tuple_addW2 t b vs.toArray ws.toArray n o k d sl c (by simpa using p) (by simpa using hw) (by rw[sA0];exact hsz)) ⟨h,a,?_⟩
  rw[e];exact h2 hw
noncomputable def sIx(n d:Nat):Option Int->Nat
 |none=>d
 |some v=>if v<0 then(v+(n:Int)).toNat else min v.toNat n
theorem sIx_nat(n d k:Nat):sIx n d (some (k:Int))=min k n:=by show(if(k:Int)<0 then((k:Int)+(n:Int)).toNat else min (k:Int).toNat n)=min k n;rw[iN #[0],Ď]
theorem sIx_le(n d:Nat)(hd:d<=n)(o:C4):sIx n d o<=n:=by
 cases o with
 |none=>exact hd
 |some v=>
  show(if v<0 then(v+_).toNat else min v.toNat n)<=n;by_cases a:v<0
  .rw[iP a];lia
  .rw[iN a];exact Nat.min_le_right _ _
theorem SW(v:Int)(n d:Nat):(if v<0 then max (v+(n:Int)) 0 else min v (n:Int))=((sIx n d (some v):Nat):Int):=by
 show _=(((if v<0 then(v+_).toNat else min v.toNat n):Nat):Int)
 by_cases a:v<0
 .simp only[iP a];lia
 .simp only[iN a];lia
theorem QR(lo hi:C4)(n:Nat):Builtin.Slice.sliceAdjust lo hi 1 (n:Int)=(((sIx n 0 lo:Nat):Int),((sIx n n hi:Nat):Int)):=by
 have h1: ¬((1:Int)<0):=by lia
 unfold Builtin.Slice.sliceAdjust;refine Prod.ext ?_ ?_
 .cases lo with
  |none=>rfl
  |some v=>exact SW v n 0
 .cases hi with
  |none=>rfl
  |some v=>exact SW v n n
theorem QS(i j:Nat):Builtin.Slice.slicePlaces (i:Int) (j:Int) 1=j - i:=by
 unfold Builtin.Slice.slicePlaces;have h1:(1:Int)>0:=by lia
 split<;>lia
def DO{v:Ŋ}{o:C4}{Q:Option Int->ŉ->Prop}(p:IsPart v o)(h:Q o s):wpAny (model prog w) A (Builtin.Slice.slicePartIndex v) Q E s:=by
 cases p with
 |none=>exact slicePart_none h
 |int i t=>exact slicePart_int h
def sliceApplied_gen{sl:Addr}{c d:Ŋ}{lo hi:C4}{n:Nat}{Q:Int×Int×Nat->ŉ->Prop}(hs:s.heap.IsSliceOf sl c d .none)(e:IsPart c lo)(j:IsPart d hi)
  (h:Q (((sIx n 0 lo:Nat):Int),1,sIx n n hi - sIx n 0 lo) s):wpAny (model prog w) A (Builtin.Slice.sliceApplied (.ref sl) (pure (n:Int))) Q E s:=by
 obtain⟨k,a,i,b⟩:=id hs;refine wB (wB (ñ a b rfl (wB (ñ a b rfl (wB (ñ a b rfl (wP ?_)))))));refine wB (slicePart_none ?_);show wpAny _ _ _ _ _ s;refine wB (DO e (wB (DO j (wB (wP ?_)))));show wpAny _ _ (match Builtin.Slice.sliceAdjust lo hi 1 _ with |(lo,hi)=>pure (lo,_,Builtin.Slice.slicePlaces lo hi 1)) _ _ s;rw[QR lo hi n];show wpAny _ _ (pure _) _ _ s;rw[QS];exact wP h
theorem ZW(xs:B0)(i k:Nat):((List.range k).filterMap λ(m:Nat)=>xs[((i:Int)+(m:Int) * 1).toNat]?).toArray=((xs.toList.drop i).take k).toArray:=by
 have e:(λ(m:Nat)=>xs[((i:Int)+(m:Int) * 1).toNat]?)=λm=>xs[i+m]? :=by
  funext m;have:((i:Int)+(m:Int) * 1).toNat=i+m:=by lia
  rw[this]
 rw[e];have:=pick_run xs i k;rw[List.filterMap_map]at this;have a:((λx=>xs[x]?)∘λx=>i+x)=λm=>xs[i+m]? :=rfl;rw[a]at this;rw[this]
def getItem_tuple_cut{t sl:Addr}{items:B0}{j k:Ŋ}{lo hi:C4}{Q:VP}(b:IsTup s.heap t items)(hs:s.heap.IsSliceOf sl j k .none)(p:IsPart j lo)(n:IsPart k hi)
  (hw: ¬(sIx items.size 0 lo=0/\sIx items.size items.size hi=items.size))
  (h:Q (.ref ↑0) {s with heap:=s.heap.push {cls:=.type "tuple",data:=.seq ((items.toList.drop (sIx items.size 0 lo)).take (sIx items.size items.size hi - sIx items.size 0 lo)).toArray}})
  (hsz:items.size<=sizeLine):wpAny (model prog w) A (getItem (.ref t) (.ref sl)) Q E s:=by
 have a:sizeOk (.seq ((items.toList.drop (sIx items.size 0 lo)).take (sIx items.size items.size hi - sIx items.size 0 lo)).toArray):=by show((items.toList.drop (sIx items.size 0 lo)).take _).toArray.size<=sizeLine;rw[sA0,lT,þ,í];omega
 have v:sIx items.size items.size hi<=items.size:=sIx_le _ _ (à _) hi;obtain⟨m,i,e,o⟩:=id hs;have c:s.TypeIs (.ref sl) "slice":=⟨m,i,e⟩
 unfold getItem
 try with_reducible refine ù ?_
 first |refine wB (wP ?_)|skip
 refine wB (wpAny_sequenceKey b.typeIs (by decide) ?_)
 refine wB (î b.typeIs ġ
  (ì ġ b.typeIs entry_tuple_getitem ?_ (args_tuple_getitem _ _)))
 show wpAny _ _ (Builtin.Tuple.tupleItemsOf (.ref t) >>= _) _ _ s;refine wB (tupleItemsOf_ b ?_);refine wB (ĝ c ?_);rw[iP (by decide)];refine wB (sliceApplied_gen hs p n ?_);have d: ¬((((sIx items.size 0 lo:Nat):Int)==0&&(1:Int)==1&&(sIx items.size items.size hi - sIx items.size 0 lo)==items.size)=true):=by intro q;rw[aE,aE]at q;have r:((sIx items.size 0 lo:Nat):Int)=0:=eq_of_beq q.1.1;have u:sIx items.size items.size hi - sIx items.size 0 lo=items.size:=eq_of_beq q.2;exact hw ⟨by omega,by omega⟩
 show wpAny _ _ (if _=true then _ else _) _ _ s;rw[iN d,ZW]
 first
  |exact wB (ć (wP ⟨_,rfl,wP h⟩) a)
  |exact wB _
  |exact wB _
  |exact wB _
end
end HT
namespace L2
open PySem PySem.Spec PyProof.Rows
variable{xs:List V}{α:Type}
abbrev TO:=St->Hp->(Option Int->Hp->Prop)->Prop
def PO(X:Cx)(e:Option Expr)(t:TO):Prop:=
 ∀(pins:C0)(s:ŉ)(σ:St)(H:Hp)(Q:Option Int->Hp->Prop),Inv X pins σ H s->t σ H Q->
  wpAny (model X.prog X.w) X.A (evalPart e X.env) (λu s'=> ∃o H',Inv X pins σ H' s'/\IsPart u o/\Q o H') X.xe s
def Gg:TO:=λ_ H Q=>Q none H
def Xb(t:TE):TO:=λσ H Q=>t σ H λx H1=> ∃i,x=.int i/\Q (some i) H1
section
variable{X:Cx}{e:Expr}{te:TE}{lo hi:Option Expr}{tl th:TO}{pos p2:Pos}
def Gh:PO X none Gg:=by intro pins s σ H Q I h;exact wP ⟨none,H,I,.none,h⟩
def Gi(h:PE X e te):PO X (some e) (Xb te):=by intro pins s σ H Q I hw;refine jB (h pins s σ H _ I hw) λu c ⟨x,H1,I1,b,a⟩=>?_;obtain⟨i,rfl,q⟩:=a;obtain⟨t,rfl⟩:=b;exact⟨_,H1,I1,.int i t,q⟩
def SlR(X:Cx)(r:V->Option Int->Option Int->Hp->VK->Prop):Prop:=
 ∀(pins:C0)(s:ŉ)(σ:St)(H:Hp)(x:V)(v a b:Ŋ)(lo hi:C4)(sl:Addr)(Q:VK),Inv X pins σ H s->RelV x v->s.heap.IsSliceOf sl a b .none->IsPart a lo->IsPart b hi->r x lo hi H Q->
  ∃T id,typeLookup (.type T) "__getitem__"=pure (some (.builtin id))/\s.TypeIs v T/\wpAny (model X.prog X.w) X.A (getItem v (.ref sl)) (EP X pins σ Q) X.xe s
def SlR.or{r d:V->Option Int->Option Int->Hp->VK->Prop}(h:SlR X r)(h':SlR X d):SlR X (λx lo hi H Q=>r x lo hi H Q\/d x lo hi H Q):=by
 intro pins s σ H x v a e lo hi sl Q I c hs i b q;rcases q with q|q
 .exact h pins s σ H x v a e lo hi sl Q I c hs i b q
 .exact h' pins s σ H x v a e lo hi sl Q I c hs i b q
def tSl(r:V->Option Int->Option Int->Hp->VK->Prop)(te:TE)(tl th:TO):TE:=λσ H Q=>te σ H λx H1=>tl σ H1 λl a=>th σ a λu b=>r x l u b Q
def ZX{r:V->Option Int->Option Int->Hp->VK->Prop}(z:SlR X r)(J:PE X e te)(m:PO X lo tl)(L:PO X hi th):PE X (.Subscript e (.Slice lo hi none p2) pos) (tSl r te tl th):=by intro pins s σ H Q I h;refine Subscript_ (jB (J pins s σ H _ I h) λv K ⟨x,H1,I1,p,E⟩=>?_);refine wpAny_Slice (jB (m pins K σ H1 _ I1 E) λc M ⟨l,k,F,y,w⟩=>jB (L pins M σ k _ F w) λd a ⟨u,i,D,n,C⟩=>?_);refine wP ?_;have B:Inv X pins σ i {a with heap:=a.heap.push {cls:=.type "slice",data:=.fields #[c,d,.none]}}:=D.kept λb N q=>hP0 _ q;obtain⟨T,id,G,o,j⟩:=z pins {a with heap:=a.heap.push {cls:=.type "slice",data:=.fields #[c,d,.none]}} σ i x v c d l u a.heap.objs.size Q B p (Heap.IsSliceOf.new ..) y n C;show wpAny _ X.A _ _ X.xe {a with heap:=a.heap.push {cls:=.type "slice",data:=.fields #[c,d,.none]}};exact tail_any o G j (by with_unfolding_all rfl)
def WQ(xs:List V)(lo hi:C4):List V:=(xs.drop (HT.sIx xs.length 0 lo)).take (HT.sIx xs.length xs.length hi - HT.sIx xs.length 0 lo)
theorem AU(xs:List V)(lo hi:C4):(WQ xs lo hi).length<=xs.length:=by
 unfold WQ;rw[lT,þ]
 lia
def rSlT(K:C6):V->Option Int->Option Int->Hp->VK->Prop:=λx lo hi H Q=> ∃a xs,x=.ref a/\SqT K H a xs/\
 ¬(HT.sIx xs.length 0 lo=0/\HT.sIx xs.length xs.length hi=xs.length)/\ ∀p,H p=none->Q (.ref p) (xR H p (.tup (WQ xs lo hi)))
def Pf:SlR X (rSlT X.K):=by
 intro pins s σ H x v n p lo hi sl Q I j hs k i h;obtain⟨a,xs,rfl,m,hw,q⟩:=h;cases j;obtain⟨its,r,d,e⟩:=I.tuple m;have c:its.toArray.size=xs.length:=by rw[sA0];exact r.length.symm
 refine⟨_,_,PyProof.Rows.slot_tuple_getitem.lookup,d.typeIs,?_⟩;refine HT.getItem_tuple_cut d hs k i (by rw[c];exact hw) ?_ (by rw[c];exact e);rw[c];refine⟨.ref ↑0,_,I.laid (λb o q=>hP0 _ q) (à _) ?_,rfl,q _ (I.hok.fresh (à _))⟩;exact⟨õ (AU xs lo hi) e,_,(r.drop _).take _,IsTup.new _ _⟩
def Xc(K:C6):R2:=λx y H Q=> ∃a b xs ys,x=.ref a/\y=.ref b/\SqT K H a xs/\SqT K H b ys/\xs≠[]/\xs.length+ys.length<=sizeLine/\
 (ys=[]->Q (.ref a) H)/\(ys≠[]-> ∀p,H p=none->Q (.ref p) (xR H p (.tup (xs++ys))))
def Vals.nil_iff{us:A0}(r:Vals xs us):us=[]↔xs=[]:=by
 cases r with
 |nil=>simp
 |cons _ _=>simp
def Gj:OpR X (binaryOp .Add) (Xc X.K):=by intro pins s σ H x y v u Q I p m h;obtain⟨a,b,xs,ys,rfl,rfl,j,n,r,i,o,k⟩:=h;cases p;cases m;obtain⟨its,d,p1,_⟩:=I.tuple j;obtain⟨e,c,p2,_⟩:=I.tuple n;refine HT.cat_tup p1 p2 (λz=>r (d.nil_iff.mp z)) (λz=>⟨.ref a,H,I,rfl,o (c.nil_iff.mp z)⟩) (λz=>?_) (by rw[<-d.length, <-c.length];exact i);refine⟨.ref ↑0,_,I.laid (λb A q=>hP0 _ q) (à _) ?_,rfl,k (λw=>z (c.nil_iff.mpr w)) _ (I.hok.fresh (à _))⟩;exact⟨by rw[lA];exact i,_,d.append c,IsTup.new _ _⟩
end
noncomputable def JD(n:Nat)(i:Int):Option Nat:=if 0<=i then(if i<n then some i.toNat else none)else if -(n:Int)<=i then some (i+n).toNat else none
def tE(xs:List α)(i:Int):Option α:=(JD xs.length i).bind λj=>xs[j]?
theorem JE{n:Nat}{i:Int}{j:Nat}(h:JD n i=some j):seqIndex? i n=some j/\j<n/\ -(n:Int)<=i/\i<n:=by
 unfold JD at h;by_cases a:0<=i
 .rw[iP a]at h;by_cases h1:i<n
  .rw[iP h1]at h;have e:=ä h;exact⟨by rw[seqIndex_of a h1,e],by lia,by lia,h1⟩
  .rw[iN h1]at h;cases h
 .rw[iN a]at h;by_cases h1: -(n:Int)<=i
  .rw[iP h1]at h;have e:=ä h;exact⟨by rw[seqIndex_neg #[0] h1,e],by lia,h1,by lia⟩
  .rw[iN h1]at h;cases h
def JF{xs:List α}{i:Int}{v:α}(h:tE xs i=some v): ∃j,seqIndex? i xs.length=some j/\xs[j]? =some v/\j<xs.length/\ -(xs.length:Int)<=i/\i<xs.length:=by
 unfold tE at h
 cases e:JD xs.length i with
 |none=>rw[e]at h;cases h
 |some j=>
  rw[e]at h;obtain⟨h1,b,c,a⟩:=JE e;exact⟨j,h1,h,b,c,a⟩
theorem atI_nat{xs:List α}{j:Nat}{v:α}(h:xs[j]? =some v):tE xs (j:Int)=some v:=by
 have a:=(gS.mp h).1;have e:JD xs.length (j:Int)=some j:=by unfold JD;rw[iP #[0],iP #[0]];simp
 unfold tE;rw[e];exact h
def CL(b:Expr):Prop:= ∀o i,subscripted b false o i=operate [o,i] (getItem o i)
def IxR(X:Cx)(r:R2):Prop:=
 ∀(b a:Expr)(pins:C0)(s:ŉ)(σ:St)(H:Hp)(x y:V)(v u:Ŋ)(Q:VK),Inv X pins σ H s->RelV x v->RelV y u->r x y H Q->
  subscripted a false v u=operate [v,u] (getItem v u)->wpAny (model X.prog X.w) X.A (subscriptTail b a v u) (EP X pins σ Q) X.xe s
def Gk(X:Cx)(id:String)(r:V->List V->Hp->VK->Prop):Prop:=
 ∀(pins:C0)(s:ŉ)(σ:St)(H:Hp)(x:V)(xs:List V)(v:Ŋ)(us:A0)(Q:VK),Inv X pins σ H s->RelV x v->Vals xs us->r x xs H Q->
  wpAny (model X.prog X.w) X.A (call (.builtin id) (v::us)) (EP X pins σ Q) X.xe s
section
variable{X:Cx}{a b:Expr}{ta tb:TE}{pos:Pos}
def IxR.or{r d:R2}(h:IxR X r)(h':IxR X d):IxR X (λx y H Q=>r x y H Q\/d x y H Q):=by
 intro b a pins s σ H x y v u Q I c e q hs;rcases q with q|q
 .exact h b a pins s σ H x y v u Q I c e q hs
 .exact h' b a pins s σ H x y v u Q I c e q hs
def Xd{r:R2}(k:IxR X r)(d:PE X a ta)(e:PE X b tb)(hs:CL b):PE X (.Subscript a b pos) (A3 r ta tb):=by intro pins s σ H Q I h;exact Subscript_ (Ot d e I h λv u n x y c i j m q=>k a b pins n σ c x y v u Q i j m q (hs _ _))
def Xe(K:C6):R2:=λx y H Q=> ∃p xs i v,x=.ref p/\y=.int i/\SqL K H p xs/\tE xs i=some v/\Q v H
def Xf(K:C6):R2:=λx y H Q=> ∃p xs i v,x=.ref p/\y=.int i/\SqT K H p xs/\tE xs i=some v/\Q v H
def Xg:R2:=λx y H Q=> ∃z i c,x=.str z/\y=.int i/\z.length<=sizeLine/\tE z.cps.toList i=some c/\Q (.str ⟨#[c]⟩) H
theorem Gn:IxR X (Xe X.K):=by
 intro e c pins s σ H x y v u Q I F A h hs;obtain⟨p,xs,i,z,rfl,rfl,B,E,q⟩:=h;cases F;obtain⟨t,rfl⟩:=A;obtain⟨its,r,a,L⟩:=I.list B;obtain⟨j,h1,C,G,o,D⟩:=JF E;obtain⟨w,k,d⟩:=r.get C;have n:=r.length;have J:=sD;have fin:EP X pins σ Q w s:=⟨z,H,I,d,q⟩
 by_cases m:0<=i
 .have b:=by rw[seqIndex_of m D]at h1;exact ä h1
  exact item_listR a.isList m #[0] (by rw[b];simpa using k) fin hs
 .have b:(i+(its.toArray.size:Int)).toNat=j:=by rw[seqIndex_neg #[0] o]at h1;rw[sA0, <-n];exact ä h1
  exact subscriptTail_builtinR a.isList.typeIs slot_list_getitem.lookup
   (wpAny_getItem_list_neg a.isList #[0] (by rw[sA0]<;>lia) #[0] (by rw[b];simpa using k) ⟨rfl,fin⟩) hs
theorem Pg:IxR X (Xf X.K):=by
 intro c a pins s σ H x y v u Q I B m h hs;obtain⟨p,xs,i,z,rfl,rfl,n,A,q⟩:=h;cases B;obtain⟨t,rfl⟩:=m;obtain⟨its,r,d,G⟩:=I.tuple n;obtain⟨j,h1,o,E,C,D⟩:=JF A;obtain⟨w,k,b⟩:=r.get o;have e:=r.length;have F:=sD;have fin:EP X pins σ Q w s:=⟨z,H,I,b,q⟩
 exact subscriptTail_builtinR d.typeIs slot_tuple_getitem.lookup
  (getItem_tuple d #[0] #[0] (by rw[sA0, <-e];exact h1) (by simpa using k) ⟨rfl,fin⟩) hs
theorem ix_str:IxR X Xg:=by
 intro b a pins s σ H x y v u Q I w k h hs;obtain⟨z,i,c,rfl,rfl,C,p,q⟩:=h;obtain⟨t,rfl⟩:=w;obtain⟨t',rfl⟩:=k;obtain⟨j,h1,m,A,e,n⟩:=JF p;have d:z.cps.toList.length=z.length:=by simp[Str.length]
 rw[d]at h1 e n;have B:=sD;exact tail_any (typeIs_str s z t) slot_str_getitem.lookup (getItem_str (by have r:decide (i< -(2 ^ 63:Int))=false:=dF0 #[0];have o:decide (i>=2 ^ 63)=false:=dF0 #[0];rw[r,o,Bool.or_false]) (by rw[h1];simpa using m) ⟨.str ⟨#[c]⟩,H,I.tok _,⟨_,rfl⟩,q⟩) hs
def rIx(K:C6):R2:=λx y H Q=>Xe K x y H Q\/Xf K x y H Q\/Xg x y H Q
def Ph:IxR X (rIx X.K):=Gn.or (Pg.or ix_str)
def QT(its:A0)(n j:Nat)(u:Ŋ):Obj.mapSeq (·.setIfInBounds j u) {cls:=.type "list",data:=.seq its.toArray n}={cls:=.type "list",data:=.seq (its.set j u).toArray n}:=by simp[Obj.mapSeq]
def Inv.lst{pins:C0}{σ:St}{H:Hp}{s:ŉ}{p:Addr}(I:↑1)(h:H p=some (.lst xs)):
  ∃(its:A0)(n:Nat),Vals xs its/\s.heap.get? p=some {cls:=.type "list",data:=.seq its.toArray n}/\xs.length<=sizeLine:=by
 obtain⟨z,its,n,r,e⟩:=I.hok p _ h;exact⟨its,n,r,e,z⟩
def Inv.lstUpd{pins:C0}{σ:St}{H:Hp}{s:ŉ}{p:Addr}{ys:List V}{its its':A0}{n a:Nat}{f:Obj->Obj}(I:↑1)(h:H p=some (.lst xs))
  (ho:s.heap.get? p=some {cls:=.type "list",data:=.seq its.toArray n}) (hf:f {cls:=.type "list",data:=.seq its.toArray n}={cls:=.type "list",data:=.seq its'.toArray a}) (r:Vals ys its') (hz:ys.length<=sizeLine) (t:Nat):
  Inv X pins σ (xR H p (.lst ys)) {s with heap:=s.heap.update p f,toks:=t}:=by
 have e:(s.heap.update p f).get? p=some {cls:=.type "list",data:=.seq its'.toArray a}:=by rw[Heap.get?_update_self f ho (by rw[hf]<;>rfl),hf]
 refine I.write (by rw[h];trivial) (.inl rfl) (λb u c q=>(ý _ _ (Ne.symm c)).trans q) ⟨_,e⟩ ?_;exact⟨hz,its',a,r,e⟩
def Xh:V->V->V->Hp->(Hp->Prop)->Prop:=λo i v H Q=> ∃p xs k j,o=.ref p/\i=.int k/\H p=some (.lst xs)/\JD xs.length k=some j/\Q (xR H p (.lst (xs.set j v)))
theorem set_list:Fx X Xh:=by
 intro pins s σ H o i v ov E u Q I B D z h;obtain⟨p,xs,k,j,rfl,rfl,y,A,q⟩:=h;cases B;obtain⟨t,rfl⟩:=D;obtain⟨its,n,r,b,C⟩:=I.lst y;obtain⟨h1,F,m,d⟩:=JE A;have a:=r.length;have G:=sD
 have w:Inv X pins σ _ {s with heap:=s.heap.update p _}:=
  I.lstUpd y b (QT its n j u) (r.set z j) (by rw[Ą];exact C) s.toks
 by_cases e:0<=k
 .have c:=by rw[seqIndex_of e d]at h1;exact ä h1
  exact PySem.W.ki_setAt b e #[0] (by rw[sA0, <-a];exact d) (by rw[c];exact⟨_,w,q⟩)
 .have c:(k+(its.toArray.size:Int)).toNat=j:=by rw[seqIndex_neg #[0] m]at h1;rw[sA0, <-a];exact ä h1
  exact PySem.W.ki_setBack b #[0] (by rw[sA0, <-a];exact m) #[0] (by rw[c];exact⟨_,w,q⟩)
theorem JG(lo hi:C4)(n:Nat):(sliceBounds lo hi none n).1=((HT.sIx n 0 lo:Nat):Int)/\(sliceBounds lo hi none n).2.1=((HT.sIx n n hi:Nat):Int)/\(sliceBounds lo hi none n).2.2=1:=by
 refine⟨?_,?_,rfl⟩
 .cases lo with
  |none=>simp[sliceBounds,HT.sIx]
  |some i=>
   simp only[sliceBounds,HT.sIx,Option.getD_none,if_true];by_cases h:i<0
   .simp only[h,if_true]<;>lia
   .simp only[h,iF]<;>lia
 .cases hi with
  |none=>simp[sliceBounds,HT.sIx]
  |some i=>
   simp only[sliceBounds,HT.sIx,Option.getD_none,if_true];by_cases h:i<0
   .simp only[h,if_true]<;>lia
   .simp only[h,iF]<;>lia
theorem FZ(its:A0)(lo hi:C4):slicePick its.toArray lo hi none=((its.drop (HT.sIx its.length 0 lo)).take (HT.sIx its.length its.length hi - HT.sIx its.length 0 lo)).toArray:=by obtain⟨h1,b,a⟩:=JG lo hi its.toArray.size;unfold slicePick;rw[h1,b,a];simp only[sliceRange_one,pick_run]<;>rfl
def rSlL(K:C6):V->Option Int->Option Int->Hp->VK->Prop:=λx lo hi H Q=> ∃a xs,x=.ref a/\SqL K H a xs/\ ∀p,H p=none->Q (.ref p) (xR H p (.lst (WQ xs lo hi)))
theorem Gp:SlR X (rSlL X.K):=by intro pins s σ H x v n p lo hi sl Q I j hs k e h;obtain⟨a,xs,rfl,m,q⟩:=h;cases j;obtain⟨its,r,d,i⟩:=I.list m;have c:=r.length;refine⟨_,_,slot_list_getitem.lookup,d.isList.typeIs,?_⟩;refine wpAny_getItem_list_slice d.isList hs k e .none (by simp) ?_ (by rw[sA0]<;>lia);rw[FZ, <-c];refine⟨.ref ↑0,_,I.laid (λb o q=>hP0 _ q) (à _) ?_,rfl,q _ (I.hok.fresh (à _))⟩;exact⟨õ (AU xs lo hi) i,_,0,(r.drop _).take _,ã _ rfl⟩
noncomputable def lP:V->Bool
 |.non=>true
 |.bl _=>true
 |.int _=>true
 |.str _=>true
 |_=>false
noncomputable def Gq:V->V->Bool
 |.non,.non=>true
 |.bl a,.bl b=>a==b
 |.bl a,.int b=>(if a then 1 else 0)==b
 |.int a,.bl b=>a==(if b then 1 else 0)
 |.int a,.int b=>a==b
 |.str a,.str b=>a==b
 |_,_=>false
def Pi{A:ŋ}{s:ŉ}{y x:V}{u v:Ŋ}(e:RelV y u)(c:RelV x v)(h:lP y=true)(d:lP x=true):SeqAt.EqAt A s u v (Gq y x):=by
 cases y with
 |non=>
  cases e
  cases x with
  |non=>cases c;exact SeqAt.EqAt.same _
  |bl b=>cases c;exact SeqAt.EqAt.none_bool b
  |int b=>obtain⟨t,rfl⟩:=c;exact SeqAt.EqAt.none_int b t
  |str b=>obtain⟨t,rfl⟩:=c;exact SeqAt.EqAt.none_str b t
  |_=>exact absurd d xF0
 |bl a=>
  cases e
  cases x with
  |non=>cases c;exact SeqAt.EqAt.bool_none a
  |bl b=>cases c;exact SeqAt.EqAt.bool_bool a b
  |int b=>obtain⟨t,rfl⟩:=c;exact SeqAt.EqAt.bool_int a b t
  |str b=>obtain⟨t,rfl⟩:=c;exact SeqAt.EqAt.bool_str a b t
  |_=>exact absurd d xF0
 |int a=>
  obtain⟨t',rfl⟩:=e
  cases x with
  |non=>cases c;exact SeqAt.EqAt.int_none a t'
  |bl b=>cases c;exact SeqAt.EqAt.int_bool a t' b
  |int b=>obtain⟨t,rfl⟩:=c;exact SeqAt.EqAt.int_int a t' b t
  |str b=>obtain⟨t,rfl⟩:=c;exact SeqAt.EqAt.int_str a t' b t
  |_=>exact absurd d xF0
 |str a=>
  obtain⟨t',rfl⟩:=e
  cases x with
  |non=>cases c;exact SeqAt.EqAt.str_none a t'
  |bl b=>cases c;exact SeqAt.EqAt.str_bool a t' b
  |int b=>obtain⟨t,rfl⟩:=c;exact SeqAt.EqAt.str_int a t' b t
  |str b=>obtain⟨t,rfl⟩:=c;exact SeqAt.EqAt.str_str a t' b t
  |_=>exact absurd d xF0
 |_=>exact absurd h xF0
theorem JH:CallR X (.builtin "len") (λxs H Q=> ∃p ys,xs=[.ref p]/\(SqL X.K H p ys\/SqT X.K H p ys)/\Q (.int ys.length) H):=by
 intro pins s σ H xs us Q I r h;obtain⟨p,ys,rfl,b,q⟩:=h;obtain⟨u,rfl,i⟩:=vals1 r;cases i;have j:=sD;rcases b with b|b
 .obtain⟨its,c,d,e⟩:=I.list b;have a:=c.length;exact Calls.call_len_list d.isList (by simp only[sA0]<;>lia) ⟨.int ys.length,H,I.tok _,⟨_,by rw[sA0,a]⟩,q⟩
 .obtain⟨its,c,d,e⟩:=I.tuple b;have a:=c.length;exact len_tuple d (by simp only[sA0]<;>lia) ⟨.int ys.length,H,I.tok _,⟨_,by rw[sA0,a]⟩,q⟩
theorem JK:CallR X (.builtin "len") (λxs H Q=> ∃z,xs=[.str z]/\z.length<=sizeLine/\Q (.int z.length) H):=by intro pins s σ H xs us Q I r h;obtain⟨z,rfl,b,q⟩:=h;obtain⟨u,rfl,t,rfl⟩:=vals1 r;have a:=sD;exact len_str #[0] ⟨.int z.length,H,I.tok _,⟨_,rfl⟩,q⟩
def CallR.or{f:Ŋ}{r a:List V->Hp->VK->Prop}(h:CallR X f r)(h':CallR X f a):CallR X f (λxs H Q=>r xs H Q\/a xs H Q):=by
 intro pins s σ H xs us Q I rs q;rcases q with q|q
 .exact h pins s σ H xs us Q I rs q
 .exact h' pins s σ H xs us Q I rs q
theorem JL:CallR X (.type "list") (λxs H Q=> ∃p ys,xs=[.ref p]/\(SqL X.K H p ys\/SqT X.K H p ys)/\ ∀l,H l=none->Q (.ref l) (xR H l (.lst ys))):=by
 intro pins s σ H xs us Q I r h;obtain⟨p,ys,rfl,d,q⟩:=h;obtain⟨u,rfl,y⟩:=vals1 r;cases y
 have fin: ∀(its:A0),Vals ys its->ys.length<=sizeLine-> ∀(h':Heap)(b:Nat),_->
   h'.get? ↑0=some {cls:=.type "list",dict:=none,data:=.seq its.toArray b,slots:=#[]}->EP X pins σ Q _ {s with heap:=h'}:=λits a i h' b c e=>
  ⟨.ref ↑0,_,I.laid c (à _) (show ObjOk X.prog X.w _ h' _ (.lst ys)from⟨i,its,b,a,e⟩),rfl,q _ (I.hok.fresh (à _))⟩
 rcases d with d|d
 .obtain⟨its,a,k,i⟩:=I.list d;have j:=a.length;obtain⟨o,m,v,n,hd⟩:=k.isList;exact call_list_seq p (.inl rfl) m v hd (λh' b c e=>fin its a i h' b c e) (by simp only[sA0]<;>lia)
 .obtain⟨its,a,k,i⟩:=I.tuple d;have j:=a.length;obtain⟨o,m,v,n,hd⟩:=k;exact call_list_seq p (.inr rfl) m v hd (λh' b c e=>fin its a i h' b c e) (by simp only[sA0]<;>lia)
theorem GA:CallR X (.type "tuple") (λxs H Q=> ∃p ys,xs=[.ref p]/\((SqL X.K H p ys/\ ∀l,H l=none->Q (.ref l) (xR H l (.tup ys)))\/(SqT X.K H p ys/\Q (.ref p) H))):=by
 intro pins s σ H xs us Q I r h;obtain⟨p,ys,rfl,h⟩:=h;obtain⟨u,rfl,k⟩:=vals1 r;cases k;rcases h with⟨hq,q⟩|⟨hq,q⟩
 .obtain⟨its,a,c,d⟩:=I.list hq;have i:=a.length;refine call_tuple_list c.isList (λh' m=>?_) (by simp only[sA0]<;>lia);have I1:Inv X pins σ H {s with heap:=h'}:=I.kept m
  have j:Inv X pins σ (xR H h'.objs.size (.tup ys)) {s with heap:=h'.push {cls:=.type "tuple",data:=.seq its.toArray}}:=
   I1.laid (λb o e=>hP0 _ e) (à _) (⟨d,its,a,IsTup.new _ _⟩)
  exact⟨.ref h'.objs.size,_,j,rfl,q _ (I1.hok.fresh (à _))⟩
 .obtain⟨its,a,c,d⟩:=I.tuple hq;exact call_tuple_same c ⟨.ref p,H,I,rfl,q⟩
def tyV(K:C6)(T:String)(x:V)(H:Hp):Prop:=match x with
 |.str _=>T="str"
 |.int _=>T="int"
 |.ref p=>(T="list"/\ ∃xs,SqL K H p xs)\/(T="tuple"/\ ∃o,K.lookup p=some o/\o.cls=.type "tuple"/\o.dict=none)\/
   (T="dict"/\((∃kvs,H p=some (.dK kvs))\/ ∃kvs,H p=some (.dT kvs)))\/(T="set"/\ ∃S n,H p=some (.set S n))
 |_=>False
def Pj{pins:C0}{σ:St}{H:Hp}{s:ŉ}{T:String}{x:V}{v:Ŋ}(I:↑1)(r:RelV x v)(b:tyV X.K T x H):
  s.TypeIs v T/\ ∀a,v=.ref a-> ∃h,s.heap.get? a=some h/\h.dict=none:=by
 cases x with
 |str z=>
  obtain⟨t,rfl⟩:=r;cases b;exact⟨typeIs_str s z t,λ_ e=>nomatch e⟩
 |int i=>
  obtain⟨t,rfl⟩:=r;cases b;exact⟨typeIs_int s i t,λ_ e=>nomatch e⟩
 |ref p=>
  cases r;rcases b with⟨rfl,xs,hq⟩|⟨rfl,o,hk,hc,hd⟩|⟨rfl,hk⟩|⟨rfl,S,n,hk⟩
  .obtain⟨its,_,j,_⟩:=I.list hq;refine⟨j.isList.typeIs,λa e=>?_⟩;cases e;obtain⟨o,n,e,c,hd,_⟩:=j;exact⟨o,e,hd⟩
  .refine⟨⟨o,I.kIn p o hk,hc⟩,λa e=>?_⟩;cases e;exact⟨o,I.kIn _ o hk,hd⟩
  .have z: ∃o,s.heap.get? p=some o/\o.ExactDict:=by
    rcases hk with⟨kvs,hk⟩|⟨kvs,hk⟩
    .obtain⟨_,_,_,_,o,_,_,e,ex,_⟩:=I.hok p _ hk;exact⟨o,e,ex⟩
    .obtain⟨_,_,_,_,o,_,_,e,ex,_⟩:=I.hok p _ hk;exact⟨o,e,ex⟩
   obtain⟨o,e,ex⟩:=z;refine⟨⟨o,e,ex.1⟩,λa d=>?_⟩;cases d;exact⟨o,e,ex.2.1⟩
  .obtain⟨o,_,_,_,e,ex,_⟩:=I.hok p _ hk;refine⟨⟨o,e,ex.1⟩,λa d=>?_⟩;cases d;exact⟨o,e,ex.2.1⟩
 |_=>exact False.elim b
def tBM(K:C6)(T:String)(r:V->List V->Hp->VK->Prop)(to:TE)(t:TA):TE:=λσ H Q=>to σ H λx H1=>tyV K T x H1/\t σ H1 λxs a=>r x xs a Q
variable{o e:Expr}{es:C5}{to:TE}{t:TA}{name:Str}{apos cpos:Pos}{T id:String}{r:V->List V->Hp->VK->Prop}
def Xi(m:PlainAttrs T)(a:Slot T name id)(b:typeOf (.builtin id)=pure (.type "method_descriptor"))(p:Gk X id r)(ho:PE X o to)(k:PA X (e::es) t)
  (hbase:attributeBase o name X.env (eval o X.env)=eval o X.env:=by rfl)
  (hfew:((backTo cpos (starEach (e::es) X.env)).all (λx=>!x.1)&&(backToKw cpos (keywordEach [] X.env)).all (λx=>x.1.isSome)
   &&decide ((e::es).length+([]:List Keyword).length+(if([]:List Keyword).isEmpty then 0 else 1)<30))=true:=by rfl)
  (hline:(apos.endLine==cpos.line)=true:=by rfl) (hs:q9 X e es:=by rfl) (hplain:(backTo cpos (starEach es X.env)).any (·.1)=false:=by rfl):
  PE X (.Call (.Attribute o name apos) (e::es) [] cpos) (tBM X.K T r to t):=by
 intro pins s σ H Q I h;refine wpAny_Call_method_late hbase hfew hline rfl (jB (ho pins s σ H _ I h) λv w ⟨x,H1,I1,d,y,q⟩=>?_);obtain⟨h1,n⟩:=Pj I1 d y;refine⟨T,id,m,a,b,h1,n,?_⟩;have c:=k cpos pins w σ H1 _ I1 q;rw[hs]at c ⊢;refine Calls.callWith_builtin (by show(false || (backTo cpos _).any (·.1))=false;rw[hplain]<;>rfl) (Calls.evalArgs_plain ?_);exact jB c λus A ⟨vs,i,u,j,z⟩=>p pins A σ i x vs v us Q u d j z
end
def MtM(X:Cx)(id:String)(r:V->List V->Hp->VK->Prop):Prop:=
 ∀(pins:C0)(s:ŉ)(σ:St)(H:Hp)(x:V)(xs:List V)(v:Ŋ)(us:A0)(Q:VK),Inv X pins σ H s->RelV x v->Vals xs us->r x xs H Q->
  wpAny (model X.prog X.w) X.A (call (.builtin id) (v::us)) (EP X pins σ Q) X.xe s
def Vals.one: ∀{x:V}{us:A0},Vals [x] us-> ∃u,us=[u]/\RelV x u
 |_,_,.cons r .nil=>⟨_,rfl,r⟩
theorem Vals.zero: ∀{us:A0},Vals [] us->us=[]
 |_,.nil=>rfl
theorem Vals.eraseIdx: ∀{xs:List V}{us:A0}(i:Nat),Vals xs us->Vals (xs.eraseIdx i) (us.eraseIdx i)
 |_,_,_,.nil=>.nil
 |_,_,0,.cons _ t=>t
 |_,_,i+1,.cons r t=>.cons r (Vals.eraseIdx i t)
theorem Vals.rep{us:A0}(h:Vals xs us): ∀k:Nat,Vals (List.replicate k xs).flatten (List.replicate k us).flatten
 |0=>.nil
 |k+1=>by exact Vals.append h (Vals.rep h k)
theorem HC{α:Type}: ∀(l:List α)(i:Nat),(l.eraseIdx i).length<=l.length
 |[],_=>à _
 |_::_,0=>le_succ _
 |_::r,i+1=>Nat.succ_le_succ (HC r i)
theorem foldl_rep(its:A0): ∀(k:Nat)(a:A0),
  List.foldl (λd b=>d++b) a.toArray (List.replicate k its.toArray)=(a++(List.replicate k its).flatten).toArray
 |0,a=>by simp
 |k+1,a=>by
  have e:a.toArray++its.toArray=(a++its).toArray:=by simp
  have c:(a++its)++(List.replicate k its).flatten=a++(List.replicate (k+1) its).flatten:=by rw[ĭ,flatten_cons,aA]
  rw[<-c, <-foldl_rep its k _, <-e,ĭ,ě]
section
variable{X:Cx}{pins:C0}{σ:St}{H:Hp}{s:ŉ}{l:Addr}{xs ys:List V}
def Inv.lset{its its':A0}{n:Nat}{f:Array Ŋ->Array Ŋ}{t':Nat}(I:↑1)(c:H l=some (.lst xs))
  (e:s.heap.get? l=some {cls:=.type "list",data:=.seq its.toArray n}) (hf:f its.toArray=its'.toArray) (hv:Vals ys its') (hz:ys.length<=sizeLine):
  Inv X pins σ (xR H l (.lst ys)) {s with heap:=s.heap.update l (Obj.mapSeq f),toks:=t'}:=by
 have q:=PySem.IsL.update e f;rw[hf]at q;refine I.write (by rw[c];exact trivial) (.inl rfl) (λd u b a=>(ý s.heap _ (Ne.symm b)).trans a) ⟨_,q⟩ ?_;exact⟨hz,its',_,hv,q⟩
def Inv.lnew{its:A0}{t':Nat}(I:↑1)(a:Vals ys its)(hz:ys.length<=sizeLine):
  Inv X pins σ (xR H ↑0 (.lst ys)) {s with heap:=s.heap.push {cls:=.type "list",data:=.seq its.toArray},toks:=t'}:=
 I.laid (λ_ _ q=>hP0 _ q) (à _) ⟨hz,its,0,a,ã _ rfl⟩
def Inv.fresh(I:↑1):H ↑0=none:=I.hok.fresh (à _)
def Inv.lstM(I:↑1)(a:H l=some (.lst xs)):xs.length<=sizeLine/\ ∃(its:A0)(n:Nat),Vals xs its/\xs.length=its.length/\s.heap.get? l=some {cls:=.type "list",data:=.seq its.toArray n}:=by obtain⟨z,its,n,r,e⟩:=I.hok l _ a;exact⟨z,its,n,r,r.length,e⟩
theorem MX{n:Nat}(h:n<=sizeLine):Builtin.List.listTooLong n=false:=by exact dF0 #[0]
end
section
variable{X:Cx}
def SX:V->List V->Hp->VK->Prop:=λx vs H Q=> ∃l xs y,x=.ref l/\vs=[y]/\H l=some (.lst xs)/\xs.length<sizeLine/\Q .non (xR H l (.lst (xs++[y])))
theorem WR:MtM X "list.append" SX:=by
 intro pins s σ H x vs v us Q I c b h;obtain⟨l,xs,y,rfl,rfl,a,j,q⟩:=h;cases c;obtain⟨u,rfl,d⟩:=b.one;obtain⟨z,its,n,r,i,e⟩:=I.lstM a;refine Ĺ F.slot_list_append ⟨_,e,rfl⟩ F.entry_list_append (F.args_list_append_2 _ _) (PySem.list_append l its.toArray n u (by rw[sA0];lia)) ⟨e,?_⟩;refine⟨.non,_,I.lset a e (by simp) (r.append (.cons d .nil)) ?_,rfl,q⟩;rw[lA,lS]
 lia
def SY:V->List V->Hp->VK->Prop:=λx vs H Q=> ∃l b xs a,x=.ref l/\vs=[.ref b]/\H l=some (.lst xs)/\H b=some (.lst a)/\xs.length+a.length<=sizeLine/\Q .non (xR H l (.lst (xs++a)))
theorem WS:MtM X "list.extend" SY:=by
 intro pins s σ H x vs v us Q I y m h;obtain⟨l,b,xs,C,rfl,rfl,i,j,E,q⟩:=h;cases y;obtain⟨u,rfl,o⟩:=m.one;cases o;obtain⟨z,its,n,r,B,e⟩:=I.lstM i;obtain⟨D,a,A,p,k,w⟩:=I.lstM j;have d:its.toArray.size+a.toArray.size<=sizeLine:=by rw[sA0,sA0];lia
 have c: ¬(!its.toArray.isEmpty&&Builtin.List.listTooLong (its.toArray.size+a.toArray.size))=true:=by rw[MX d,Bool.and_false];exact xF0
 refine Ĺ F.slot_list_extend ⟨_,e,rfl⟩ F.entry_list_extend (F.args_list_extend_2 _ _)
  (AutoSeq1.list_extend_list_list_0 l its.toArray n b a.toArray A c (by rw[sA0];lia) #[0]) ⟨e,w,?_⟩
 refine⟨.non,_,I.lset i e (by simp) (r.append p) ?_,rfl,q⟩;rw[lA]
 lia
def ZY:V->List V->Hp->VK->Prop:=λx vs H Q=> ∃l xs i k y,x=.ref l/\vs=[.int i]/\H l=some (.lst xs)/\ -(2 ^ 63)<=i/\i<2 ^ 63/\seqIndex? i xs.length=some k/\xs[k]? =some y/\Q y (xR H l (.lst (xs.eraseIdx k)))
def ZZ:MtM X "list.pop" ZY:=by
 intro pins s σ H x vs v us Q I A j h;obtain⟨l,xs,i,k,y,rfl,rfl,b,h1,o,p,d,q⟩:=h;cases A;obtain⟨u,rfl,m⟩:=j.one;obtain⟨t,rfl⟩:=m;obtain⟨z,its,n,r,c,e⟩:=I.lstM b;obtain⟨w,hw,a⟩:=r.get d
 refine Ĺ F.slot_list_pop ⟨_,e,rfl⟩ F.entry_list_pop (F.args_list_pop_2 _ _)
  (MeetsSeq.list_pop_at l its.toArray n i t k w (fitsIndex_both h1 o) (by rw[sA0, <-c];exact p) (by rw[<-ò];exact hw) (by rw[sA0];omega)) ⟨e,?_⟩
 refine⟨y,_,I.lset (its':=its.eraseIdx k) b e ?_ (r.eraseIdx k) ?_,a,q⟩
 .show its.toArray.eraseIdxIfInBounds k=(its.eraseIdx k).toArray;rw[List.eraseIdxIfInBounds_toArray]
 .have:=HC xs k;omega
def rCat:R2:=λx y H Q=> ∃l b xs a,x=.ref l/\y=.ref b/\H l=some (.lst xs)/\H b=some (.lst a)/\xs.length+a.length<=sizeLine/\ ∀p,H p=none->Q (.ref p) (xR H p (.lst (xs++a)))
theorem Pk:OpR X (binaryOp .Add) rCat:=by
 intro pins s σ H x y v u Q I o i h;obtain⟨l,b,xs,A,rfl,rfl,j,c,C,q⟩:=h;cases o;cases i;obtain⟨z,its,n,r,w,e⟩:=I.lstM j;obtain⟨B,a,D,k,d,m⟩:=I.lstM c;refine PySem.P.add_list e m ?_ (by rw[sA0,sA0];lia);have p:its.toArray++a.toArray=(its++a).toArray:=by simp
 rw[p];exact⟨.ref _,_,I.lnew (r.append k) (by rw[lA];lia),rfl,q _ I.fresh⟩
def rRep:R2:=λx y H Q=> ∃l k xs,x=.ref l/\y=.int k/\H l=some (.lst xs)/\ -(2 ^ 63)<=k/\k<2 ^ 63/\xs.length * k.toNat<=sizeLine/\
 ∀p,H p=none->Q (.ref p) (xR H p (.lst (List.replicate k.toNat xs).flatten))
def len_rep(xs:List α)(k:Nat):(List.replicate k xs).flatten.length=k * xs.length:=by
 induction k with
 |zero=>simp
 |succ k ih=>rw[ĭ,flatten_cons,lA,ih,Nat.succ_mul,Nat.add_comm]
theorem Pl:OpR X (binaryOp .Mult) rRep:=by
 intro pins s σ H x y v u Q I G C h;obtain⟨l,k,xs,rfl,rfl,D,h1,E,w,q⟩:=h;cases G;obtain⟨t,rfl⟩:=C;obtain⟨z,its,n,r,A,e⟩:=I.lstM D;have j:its.toArray.size * k.toNat<=sizeLine:=by rw[sA0, <-A];exact w
 have i: ¬its.toArray.size * k.toNat>(2 ^ 63 - 1) / 8:=by
  have:(sizeLine:Nat)<=(2 ^ 63 - 1) / 8:=by decide
  lia
 have c: ¬(!Builtin.List.listFitsIndex k)=true:=by rw[fitsIndex_both h1 E];exact xF0
 have b: ¬Builtin.List.listTooLong (its.toArray.size * k.toNat)=true:=by rw[MX j];exact xF0
 have d:List.foldl (λp o=>p++o) #[] (List.replicate (if its.toArray.isEmpty=true then 0 else k.toNat) its.toArray)=(List.replicate k.toNat its).flatten.toArray:=by
  have B: ∀m:Nat,List.foldl (λp o=>p++o) #[] _=(List.replicate m its).flatten.toArray:=λm=>by have:=foldl_rep its m [];exact this
  rw[B]
  cases its with
  |nil=>simp
  |cons a r'=>rw[iN (by simp)]
 refine wpAny_binaryOp_repeat_ref (by decide) ⟨_,e,rfl⟩ (λs'=>typeIs_int s' k t) noFill_list_mul F.fills_int_mul F.slot_int_rmul repeat_list F.slot_int_index.lookup
  (Ĺ F.slot_int_rmul (typeIs_int s k t) F.entry_int_rmul (F.args_int_rmul_2 _ _) (int___rmul___int_list k t l its.toArray n)
   ⟨e,rfl,⟨_,e,rfl⟩,Ĺ F.slot_list_mul ⟨_,e,rfl⟩ F.entry_list_mul (F.args_list_mul_2 _ _) (AutoListH.list___mul___list_int_3 l its.toArray n k t c i b) ⟨e,?_⟩⟩)
 rw[d];exact⟨.ref _,_,I.lnew (r.rep k.toNat) (by rw[len_rep,Nat.mul_comm];exact w),rfl,q _ I.fresh⟩
end
end L2
namespace Att
open PySem PySem.W PySem.Calls PyProof.Rows
def CF{P:Params}{h:Heap}: ∀(c:Za)(vs:A0),WellAll P h vs (c.map WData.int)->IntsAre vs c:=by
 intro c
 induction c with
 |nil=>
  intro vs w;cases w;exact .nil
 |cons n c ih=>
  intro vs w
  cases w with
  |cons a b=>
   cases a;exact .cons _ _ (ih _ b)
theorem WT{l:OpenLaw}{n:Nat}(u:l.most=some n){P:Params}{h:Heap}{args:List WData}{b:A0}
  (hpre:l.row.toRowW.claim.pre args=true) (hwl:WellAll P h b args):
  ∃a vs c,b=[Value.ref a]/\args=[WData.list (c.map WData.int)]/\h.get? a=some {cls:=.type "list",data:=.seq vs.toArray}/\IntsAre vs c/\c.length<=n:=by
 have j:=(pre_splitW hpre).1;have o:l.pre.holds [] {args:=args}=true:=(pre_splitW hpre).2;obtain⟨d,r,rfl,h1,p⟩:=hasAllW_cons j;obtain rfl:=hasAllW_nil p;obtain⟨xs,rfl,s⟩:=hasW_list h1;obtain⟨c,rfl⟩:=items_int s
 have e:c.length<=n:=by
  have i:=by have i:=(holds_andW o).1;rw[u]at i;exact i
  have k:=condW_of i (w_not (w_lt w_lit (w_len_list (w_arg rfl))));refine Nat.le_of_not_lt λq=>?_;have m:=by omega
  first
   |(rw[dT0 m]at k;exact absurd k (by decide))
   |(simp at k;lia)
 cases hwl with
 |cons w1 w2=>
  cases w2
  cases w1 with
  |list ho hall=>exact⟨_,_,c,rfl,rfl,ho,CF c _ hall,e⟩
theorem WU(l:OpenLaw)(args:List WData):l.row.toRowW.claim.post args (.bool true) args=true:=
 postW_of
  (by first |rfl|decide|simp[WShape.has,WShape.arms,WShape.armsAll])
  (w_eq_bool (w_res rfl) w_lit) rfl
def attach_call{l:OpenLaw}{n:Nat}{q:Ō}{e:B7}{E:(Str->Option Ŋ)->Heap->Prop}{F:World->Heap->Prop}{d:DefRec}
  (hn:l.most=some n) (hdf:d.params.defaults=[])
  (call: ∀(w:World)(c b:ŉ)(mg v:B8)(fa:Addr)(o:Obj)(y cd h:Ŋ)(a:Addr)(vs:A0)(p:Za),
   Ground q e [] E w c mg v b.heap->F w b.heap->
   b.heap.get? fa=some o->o.data=.func (docDef d.name d.params d.body d.scope y cd h)->b.heap.CodeRec cd d.name->mg d.name=some (.ref fa)->
   b.heap.get? a=some {cls:=.type "list",data:=.seq vs.toArray}->IntsAre vs p->p.length<=n->b.gens=#[]->
   codeAny (model l.prog w) callerA (.call (.ref fa) ⟨[.ref a],[]⟩) (λr s'=>r=.ok (.ret (.bool true))/\OldK b.heap s'.heap/\s'.os=b.os/\AllBare s'.gens) b):
  WalkO q e E F l.row.toRowW d [] (λf vs=>PySem.call f vs):=by
 intro w c b mg v G Y fa o y cd h N kV L hd z B u H D A as k C K s Q;obtain rfl:N=.none:=Dflts.none B hdf;obtain rfl:kV=.none:=Dflts.noKw B;obtain⟨a,vs,p,rfl,rfl,j,i,m⟩:=WT hn k s;refine enter_call (codeAny_mono (call w c b mg v fa o y cd h a vs p G Y L (fd_plain hd) z u j i m H) λr s' M=>?_);obtain⟨rfl,O,P,J⟩:=M;exact⟨.inl ⟨_,_,[],rfl,λ_=>rfl,.bool true,WU l _,λ_=>⟨List.Pairwise.nil,λ_ I=>(nomatch I)⟩⟩,O,P,J⟩
end Att
namespace L2
open PySem PySem.Spec PyProof.Rows
theorem HD: ∀{vs:A0}{a:Za},IntsAre vs a->Vals (a.map V.int) vs
 |_,_,.nil=>.nil
 |_,_,.cons n t h=>.cons ⟨t,rfl⟩ (HD h)
def Aa(H:Hp):Prop:= ∀b,H b=none\/ ∃o xs,H b=some (.frz o (.lst xs))
def Ab{P:Ō}{w:World}{K:C6}{mg N:B8}{CX:WN}{k:Nat}{fa a:Addr}{fd:FuncData}{x:Str}{sp:Sp}{c:ŉ}{vs:A0}{I:Za}
  (KX:K.In c.heap) (hns:c.heap.Ns mainGlobals mg) (j:c.heap.Ns builtinsNs N) (hbb: ∀x:Str,x≠"__name__"->N x=bootBuiltins x) (hlim:c.heap.NoLimit) (hg:c.gens=#[])
  (ha:c.heap.get? a=some {cls:=.type "list",data:=.seq vs.toArray}) (hi:IntsAre vs I) (hl:I.length<=sizeLine) (hr:Room k callerA)
  (F: ∀base:Heap,K.In base->base.Ns mainGlobals mg->FnOk P w K mg base CX k fa fd [x] sp) (hbind: ∀(s:ŉ)(u:Ŋ),BindsTo s fd ⟨[u],[]⟩ [(x,u)])
  (hsp: ∀H:Hp,Aa H->SqL K H a (I.map V.int)->sp [.ref a] H (λv _=>v=.bl true) λ_ _ _=>False)
  (hCX: ∀H e s',CX [] H c (λ_ _ _=>False) e s'->False):
  codeAny (model P w) callerA (.call (.ref fa) ⟨[.ref a],[]⟩) (λr s'=>r=.ok (.ret (.bool true))/\OldK c.heap s'.heap/\s'.os=c.os/\AllBare s'.gens) c:=by
 have Q:=HD hi;have C:=hi.length
 have y: ∀H:Hp,Aa H->SqL K H a (I.map V.int)->HOk P w H c.heap->(∀b,H b≠none->b=a)->(H a≠none->K.lookup a=none)->
   codeAny (model P w) callerA (.call (.ref fa) ⟨[.ref a],[]⟩) (λr s'=>r=.ok (.ret (.bool true))/\OldK c.heap s'.heap/\s'.os=c.os/\AllBare s'.gens) c:=by
  intro H T Z E O hK;have i: ∀{b:Addr}{o:Obj},c.heap.get? b=some o->H b=none->(WG c.heap H).get? b=some o:=λe n=>ZL e n
  have J: ∀{b:Addr}{o:Obj}{es:Array DictEntry}{ep:Nat},c.heap.get? b=some o->o.data=.dict es ep->H b=none:=λ{b o es ep} e d=>by
   cases q:H b with
   |none=>rfl
   |some u=>
    have M:b=a:=O b (by rw[q];simp);subst M;rw[ha]at e;cases e;have d':Data.seq vs.toArray _=Data.dict es ep:=d;cases d'
  have p: ∀{b:Addr}{m:B8},c.heap.Ns b m->(WG c.heap H).Ns b m:=λ{b m} ⟨o,es,ep,e,d,r⟩=>⟨o,es,ep,i e (J e d),d,r⟩
  have D:K.In _:=λb o e=>i (KX b o e) (by
   cases q:H b with
   |none=>rfl
   |some u=>
    have M:b=a:=O b (by rw[q];simp);subst M;rw[hK (by rw[q];simp)]at e;cases e)
  have X:Mod K mg _:=⟨D,p hns,⟨N,p j,hbb⟩,let ⟨mc,h1,h2⟩:=hlim;⟨mc,p h1,h2⟩⟩
  have e0:Env0 P w K mg _ callerA [] c H:=⟨rfl,X,λb o e=>Fn e,le_of_eq (WH _ _),trivial,λb j=>absurd (show b∈([]:B6)from j) (by simp),E,.of_eq hg⟩
  refine codeAny_mono ((F _ D (p hns)).run callerA [] c H ⟨_,[]⟩ [.ref a] [.ref a] _ _ hr e0 (hbind c (.ref a)) (.cons rfl .nil) (hsp H T Z)) λr s' h=>?_
  cases r with
  |error e=>exact(hCX H e s' h).elim
  |ok fl=>
   cases fl with
   |next=>exact False.elim h
   |brk=>exact False.elim h
   |cont=>exact False.elim h
   |ret u=>
    obtain⟨v,H',W,B,un,A,Y,q⟩:=h;have U:v=.bl true:=q;subst U;obtain rfl:u=Value.bool true:=Y;refine⟨rfl,OldK.of_keep λb o e=>?_,W,B⟩
    cases q:H b with
    |none=>exact un.keep b o e q (by intro z;exact absurd (show b∈([]:B6)from z) (by simp)) (by simp)
    |some u=>
     rcases T b with z|⟨ob,xs,z⟩
     .rw[q]at z;cases z
     .have z2:=un.frzs b ob _ z;obtain⟨S,_⟩:=E b _ z;obtain⟨e2,_⟩:=A b _ z2;rw[e]at S;cases S;exact e2
 cases L:K.lookup a with
 |some o=>
  have e:=KX a o L;rw[ha]at e;cases e;refine y (λ_=>none) (λ_=>.inl rfl) (.inr ⟨_,_,_,L,rfl,rfl,rfl,by rw[sA0,C];exact hl,by simpa using Q⟩) (λb u z=>by have G:_=some u:=z;cases G) (λb z=>absurd rfl z) λz=>absurd rfl z
 |none=>
  refine y (λb=>if b=a then some _ else none) (λb=>?_) (.inl (.inr ⟨{cls:=.type "list",data:=.seq vs.toArray},iP rfl⟩)) (λb u z=>?_) (λb z=>?_) λ_=>L
  .by_cases j:b=a
   .exact .inr ⟨_,_,iP j⟩
   .exact .inl (iN j)
  .by_cases j:b=a
   .have G:=(iP j).symm.trans z;cases G;subst j;exact⟨ha,by rw[lM];exact hl,vs,_,Q,ha⟩
   .have G:=(iN j).symm.trans z;cases G
  .by_cases j:b=a
   .exact j
   .exact absurd (iN j) z
def walk_of{l:PySem.W.OpenLaw}{n k:Nat}{q:Ō}{i:B7}{J:(Str->Option Ŋ)->Heap->Prop}{z:World->Heap->Prop}{d:DefRec}{K:Params->PySem.W.Frag}{CX:World->WN}{sp:World->Sp}{x:Str}
  (hn:l.most=some n) (hn2:n<=sizeLine) (hdf:d.params.defaults=[]) (hr:Room k callerA)
  (hY: ∀(w:World)(h:Heap),z w h->(K w.params).In h)
  (F: ∀(w:World)(mg:B8)(fa:Addr)(h:Heap),(K w.params).In h->h.Ns mainGlobals mg->mg d.name=some (.ref fa)->
   ∃fd:FuncData,(∀(s:ŉ)(u:Ŋ),BindsTo s fd ⟨[u],[]⟩ [(x,u)])/\
    ∀base:Heap,(K w.params).In base->base.Ns mainGlobals mg->FnOk l.prog w (K w.params) mg base (CX w) k fa fd [x] (sp w))
  (hsp: ∀(w:World)(H:Hp)(a:Addr)(r:Za),r.length<=n->Aa H->SqL (K w.params) H a (r.map V.int)->sp w [.ref a] H (λv _=>v=.bl true) λ_ _ _=>False)
  (hCX: ∀(w:World)(H:Hp)(s:ŉ)(e:Ŋ)(s':ŉ),CX w [] H s (λ_ _ _=>False) e s'->False):
  PySem.W.WalkO q i J z l.row.toRowW d [] (λf vs=>PySem.call f vs):=by
 refine Att.attach_call hn hdf λw A p mg P fa o O cd C a vs r G Y N hd L y m j c B=>?_;have KX:=hY w _ Y;obtain⟨fd,I,E⟩:=F w mg fa _ KX G.T.g y;exact Ab KX G.T.g G.T.b G.T.builtins G.T.nolimit B m j (õ c hn2) hr E I (λH M D=>hsp w H a r c M D) λH e s'=>hCX w H p e s'
noncomputable def mK(s:Stmt):Arguments:=match s with
 |.FunctionDef _ a _ _ _ _ _ _ _ _=>a
 |_=>{posonlyargs:=[],args:=[],vararg:=none,kwonlyargs:=[],kw_defaults:=[],kwarg:=none,defaults:=[]}
noncomputable def gC(s:Stmt):List Stmt:=match s with
 |.FunctionDef _ _ b _ _ _ _ _ _ _=>b
 |_=>[]
noncomputable def zP(s:Stmt):Scope:=match s with
 |.FunctionDef _ _ _ _ _ _ sc _ _ _=>sc
 |_=>{kind:=.function,names:=[],isGenerator:=false,isCoroutine:=false}
abbrev DP:WN:=λ_ _ _ _ _ _=>False
abbrev E0:XK:=λ_ _ _=>False
def Xj{X:Cx}:QQ DP X E0:=λ_ _ _ _ _ _ _ h=>h.elim
structure Fun(K:C6)(x qual:Str)(st:Stmt)(f:Addr)(fd:FuncData):Prop where
 ex: ∃(oc:Ŋ)(od:Option Addr)(kV doc pm:Ŋ)(an:Option Addr)(cdv ct:Ŋ)(osl:Array (Option Ŋ)),
  fd=PySem.W.fnOf x qual (mK st) (gC st) (zP st) .none kV doc pm an cdv ct/\K.lookup f=some ⟨oc,od,.func fd,osl⟩/\PySem.W.codeIn K cdv qual=true
 kp:PySem.W.keepIn K (.ref f)=true
section
variable{P:Ō}{w:World}{K:C6}{mg:B8}{base:Heap}
def Fun.ok{x qual:Str}{st:Stmt}{f:Addr}{fd:FuncData}{N ps:B7}{k:Nat}{sp:Sp}(F:Fun K x qual st f fd)(S:FnScope N ps (zP st))(len: ∀vs H Q E,sp vs H Q E->vs.length=ps.length)
  (hbody: ∀(b:Ŋ)(A:ŋ)(a:List Env)(s:ŉ)(H:Hp)(vs:List V)(Q:VK)(E:XK),Room k (A.deeper (envOfC qual (zP st) ↑0 f b))->sp vs H Q E->
   ∃t,PSs (JC DP P w K mg base N qual (zP st) f b A a s H E).nox (gC st) t/\t {nx:=λ_ H'=>Q .non H',rt:=Q} (start N vs) H):FnOk P w K mg base DP (k+1) f fd ps sp:=by
 obtain⟨o,od,kV,e,n,p,b,r,i,rfl,j,d⟩:=F.ex;refine fn_of j d S len λA a s H vs Q E m c=>?_;obtain⟨t,h,q⟩:=hbody b A a s H vs Q E m c;exact⟨t,h.nox,q⟩
def Fun.binds{x qual:Str}{st:Stmt}{f:Addr}{fd:FuncData}{ps:B7}(F:Fun K x qual st f fd)
  (h: ∀(kV a c:Ŋ)(d:Option Addr)(b ct:Ŋ)(us:A0),us.length=ps.length->bindArgs (PySem.W.fnOf x qual (mK st) (gC st) (zP st) .none kV a c d b ct) ⟨us,[]⟩=pure (ps.zip us)):Binds K fd ps []:=by
 obtain⟨j,od,kV,a,c,d,b,ct,e,rfl,k,i⟩:=F.ex;exact .all (h kV a c d b ct)
def Pm{x qual:Str}{st:Stmt}{f:Addr}{i:Ŋ}{od e:Option Addr}{d:Array (Option Ŋ)}{kV b h a ct:Ŋ}(l:K.lookup f=some ⟨i,od,.func (PySem.W.fnOf x qual (mK st) (gC st) (zP st) .none kV b h e a ct),d⟩)
  (c:PySem.W.codeIn K a qual=true) (k:PySem.W.keepIn K (.ref f)=true):Fun K x qual st f (PySem.W.fnOf x qual (mK st) (gC st) (zP st) .none kV b h e a ct):=⟨⟨i,od,kV,b,h,e,a,ct,d,rfl,l,c⟩,k⟩
end
section
variable{X:Cx}
def pv(i:Nat){x:Str}{pos:Pos}(a:X.N[i]? =some x:=by rfl)(b:Wg X.env.scope x:=by first |exact Or.inl rfl|exact Or.inr (Or.inl rfl)|exact Or.inr (Or.inr rfl))(hd:(x==("__debug__":Str))=false:=by decide)
  (hcd:(x==("__classdict__":Str))=false:=by decide):PE X (.Name x pos) (Wh i):=Oc a b hd hcd
end
end L2
set_option maxHeartbeats 4000000
namespace L2
open PySem PySem.Spec PyProof.Rows
variable{sc:Scope}{elt iter:Expr}{ifs:C5}{pos:Pos}
noncomputable def pO(a:Env)(l:List (Str×NameKind))(cs:List (Str×Addr)):List (Str×Addr):=
 l.foldl (λc y=>if y.2==.free then(y.1,(a.cells.lookup y.1).getD 0)::c else c) cs
def JM{α β:Type}{l:List α}{f:α->β->Sem (ForInStep β)}{g:β->α->β}: ∀(c:β),(∀x∈l, ∀c,f x c=pure (.yield (g c x)))->
  forIn l c f=pure (l.foldl g c):=by
 induction l with
 |nil=>intro c _;rfl
 |cons x l ih=>
  intro c h;rw[forIn_cons,h x mF0];exact ih _ λy a=>h y (mO _ a)
def GB{b:Scope}{d:Env}(h: ∀y∈b.names,y.2=.free-> ∃c,d.cells.lookup y.1=some c):closureFor b d=pure (pO d b.names []):=by
 unfold closureFor pO;dsimp only;rw[JM [] ?_]
 .rfl
 .intro y o c;obtain⟨n,k⟩:=y;by_cases j:k=.free
  .subst j;obtain⟨a,m⟩:=h _ o rfl;have i:=m;simp[cellOf,i]
  .have e:=by simpa using j
   simp[e]
theorem AV{a:Env}: ∀(l:List (Str×NameKind))(cs:List (Str×Addr)),(∀y∈l,y.2=.free-> ∃c,a.cells.lookup y.1=some c)->(∀p∈cs,a.cells.lookup p.1=some p.2)->
  ∀p∈pO a l cs,a.cells.lookup p.1=some p.2
 |[],_,_,h=>h
 |(n,k)::l,cs,hl,h=>by
  refine AV l _ (λy m=>hl y (mO _ m)) λp d=>?_;by_cases i:k=.free
  .subst i;obtain⟨c,j⟩:=hl _ mF0 rfl;have e:=j;have b:p∈_::cs:=d;rcases mC.mp b with rfl|d
   .show a.cells.lookup n=some _;rw[e];rfl
   .exact h p d
  .have b:p∈(if _=true then _::cs else cs):=d;rw[iN (by simpa using i)]at b;exact h p b
theorem DQ{a:Env}: ∀(l:List (Str×NameKind))(cs:List (Str×Addr))(p:Str×Addr),p∈cs->p∈pO a l cs
 |[],_,_,h=>h
 |_::l,cs,p,h=>by
  refine DQ l _ p ?_;show p∈(if _=true then _::cs else cs);split
  .exact mO _ h
  .exact h
theorem pP{a:Env}: ∀(l:List (Str×NameKind))(cs:List (Str×Addr))(n:Str),(n,NameKind.free)∈l-> ∃c,(n,c)∈pO a l cs
 |[],_,_,h=>nomatch h
 |(m,k)::l,cs,n,h=>by
  rcases mC.mp h with e|h
  .have b:=congrArg Prod.fst e;have d:=congrArg Prod.snd e;subst b d;exact⟨_,DQ l _ _ mF0⟩
  .exact pP l _ n h
theorem jC{β:Type}: ∀{l:List (Str×β)}{n:Str},(∃c,(n,c)∈l)-> ∃c,l.lookup n=some c
 |[],_,h=>let ⟨_,z⟩:=h;nomatch z
 |(m,b)::l,n,h=>by
  by_cases e:n=m
  .subst e;exact⟨b,by simp[Ň]⟩
  .obtain⟨c,d⟩:=h;rcases mC.mp d with z|z
   .cases z;exact absurd rfl e
   .obtain⟨a,h'⟩:=jC ⟨c,z⟩;refine⟨a,?_⟩;have i:(n==m)=false:=by simpa using e
    simp[Ň,i,h']
noncomputable def Ac(a b:Scope):List (Str×NameKind):=a.names.map λ(n,k)=>if(k==.free&&b.kind==.function&&b.names.lookup n==some .cell)then(n,.cell)else(n,k)
noncomputable def rL(a:Scope)(N:B7)(sc:Scope)(idx:Db):Bool:=
 decide (sc.kind=.function)&&sc.names.all (λy=>decide (sc.names.lookup y.1=some y.2))&&
 sc.names.all (λy=>decide (y.2≠.free) || decide (a.names.lookup y.1=some .cell) || decide (a.names.lookup y.1=some .free))&&
 idx.all (λi=>match N[i]? with
  |some y=>(decide (a.names.lookup y=some .cell) || decide (a.names.lookup y=some .free))&&decide (sc.names.lookup y=some .free)
  |none=>false)
abbrev ZI(a:Env)(sc:Scope)(C:Addr):List (Str×Addr):=cellsFrom (C+1) sc.names (pO a sc.names [])
theorem xH: ∀(l:List (Str×NameKind))(n:Nat)(a:List (Str×Addr)),cellsFrom n l a=cellsFrom n l []++a
 |[],n,a=>rfl
 |_::l,n,a=>by
  unfold cellsFrom;split
  .rw[xH l _ _,xH l _ [_],aA];rfl
  .exact xH l n a
theorem tG: ∀(l:List (Str×NameKind))(n:Nat){x:Str}{c:Addr},(x,c)∈cellsFrom n l []->(x,NameKind.cell)∈l/\n<=c
 |[],n,x,c,h=>nomatch h
 |(y,k)::l,n,x,c,h=>by
  unfold cellsFrom at h;split at h
  .rename_i d;rw[xH]at h;rcases é.mp h with h|h
   .obtain⟨h1,b⟩:=tG l _ h;exact⟨mO _ h1,by lia⟩
   .have e:=mS.mp h;cases e;have a:=by simpa using d
    subst a;exact⟨mF0,à _⟩
  .obtain⟨h1,b⟩:=tG l n h;exact⟨mO _ h1,b⟩
def sE{l:List (Str×NameKind)}{C:Nat}{x:Str}{c:Addr}(h:(x,c)∈cellsFrom (C+1) l []){n:Nat}(a:n<=C):n<c:=ň a (tG l _ h).2
theorem qN: ∀(l:List (Str×NameKind))(n:Nat){x:Str},(x,NameKind.cell)∈l-> ∃c,(x,c)∈cellsFrom n l []
 |[],n,x,h=>nomatch h
 |(y,k)::l,n,x,h=>by
  unfold cellsFrom;rcases mC.mp h with e|h
  .cases e;rw[xH];exact⟨n,ó _ mF0⟩
  .split
   .obtain⟨c,a⟩:=qN l _ h;rw[xH];exact⟨c,ă _ a⟩
   .exact qN l n h
theorem own_apart: ∀(l:List (Str×NameKind))(n:Nat),(cellsFrom n l []).Pairwise λx y=>x.2≠y.2
 |[],n=>List.Pairwise.nil
 |_::l,n=>by
  unfold cellsFrom;split
  .rw[xH];refine ê.mpr ⟨own_apart l _,List.pairwise_singleton _ _,λa c b d e=>?_⟩;rw[mS.mp d]at e;have:=(tG l _ c).2;exact ø this e
  .exact own_apart l n
theorem mL{β:Type}(x:Str): ∀(l m:List (Str×β)),(l++m).lookup x=(l.lookup x).or (m.lookup x)
 |[],m=>rfl
 |(y,b)::l,m=>by
  rw[Į,Ň,Ň]
  cases x==y with
  |true=>rfl
  |false=>exact mL x l m
theorem HE{β:Type}{x:Str}: ∀{l:List (Str×β)},(∀c,(x,c)∉l)->l.lookup x=none
 |[],_=>rfl
 |(y,b)::l,h=>by
  rw[Ň]
  cases e:x==y with
  |true=>rw[beq_iff_eq.mp e]at h;exact absurd mF0 (h b)
  |false=>exact HE λc a=>h c (mO _ a)
def aS{a:Env}{C:Addr}{x:Str}{c:Addr}(e:(ZI a sc C).lookup x=some c):(x,c)∈cellsFrom (C+1) sc.names []\/(pO a sc.names []).lookup x=some c:=by
 unfold ZI at e;rw[xH,mL]at e
 cases z:(cellsFrom _ sc.names []).lookup x with
 |some c'=>rw[z]at e;cases e;exact .inl (PySem.mem_of_lookup z)
 |none=>rw[z]at e;exact .inr e
def Pn{a:Env}{C:Addr}{x:Str}{c:Addr}(h:(x,NameKind.cell)∈sc.names)(e:(ZI a sc C).lookup x=some c):(x,c)∈cellsFrom (C+1) sc.names []:=by unfold ZI at e;rw[xH,mL]at e;obtain⟨b,h'⟩:=jC (qN sc.names _ h);rw[h']at e;cases e;exact PySem.mem_of_lookup h'
theorem Gr{a:Env}{C:Addr}{x:Str}(h:(x,NameKind.cell)∉sc.names):(ZI a sc C).lookup x=(pO a sc.names []).lookup x:=by unfold ZI;rw[xH,mL,HE λc b=>h (tG _ _ b).1];rfl
noncomputable def vG(σ:St)(idx:Db):St:=idx.map λi=>(σ[i]?).join
def fV(σ:St)(idx:Db):(vG σ idx).length=idx.length:=by unfold vG;rw[lM]
def zM(X:Cx)(sc:Scope)(T:B7)(idx:Db)(C:Addr)(s₂:ŉ)(H1:Hp)(fp:B6):Cx where
 prog:=X.prog
 w:=X.w
 K:=X.K
 mg:=X.mg
 base:=X.base
 A:=X.A
 N:=T++idx.map λi=>(X.N[i]?).getD Str.empty
 s₀:=s₂
 H₀:=H1
 env:=compEnvC sc (ZI X.env sc C) C X.env
 outer:=X.stack
 stack:=X.stack
 ex:=fp
 fn:=λx=>sc.names.lookup x==some .cell
 calm:=X.calm
 pn:=[]
 xe:=λ_ _=>False
def Ad(n:TI)(g:TG)(k:Addr->ŉ->Hp->List Addr->TT)(te:Addr->ŉ->Hp->List Addr->TE)(nt:Nat)(idx:Db):TE:=λσ H Q=>n σ H λJ H1=> ∃W:Nat->Nat->List V->Hp->Prop,(∃m,W 0 m [] H1)/\ ∀i m ys c,W i m ys c->ys.length<=sizeLine/\
 ((J.stop i c/\ ∀D,c D=none->Q (.ref D) (xR c D (.lst ys)))\/
   (J.go i c/\ys.length<sizeLine/\ ∀x h,J.yld i c x h-> ∀τ:St,τ.length=nt->g x (τ++vG σ idx) h λa j=>(∃d,a=d++vG σ idx/\d.length=nt)/\
    ∀C s₂ fp,k C s₂ H1 fp a j λb H5=>if b=true then te C s₂ H1 fp a H5 λy H6=> ∃e,e<m/\W (i+1) e (ys++[y]) H6 else∃e,e<m/\W (i+1) e ys H5))
section
variable{prog:Ō}{w:World}{A:ŋ}{R:Result->ŉ->Prop}{s:ŉ}
def JN{a:Expr}{u:Scope}{it B:Ŋ}{b:Env}(I:Nat->ŉ->Prop)
  (turn: ∀n s,I n s->wpAny (model prog w) A (pyNext it) (λr e=>match r with
   |none=>R (.ok .next) e
   |some v=>wpAny (model prog w) A (letOwnedTupleGo a it v) (λ_ i=>wpAny (model prog w) A (assign a b v) (λ_ s₂=>
     wpAny (model prog w) A (forIn ifs true λc r=>if r=true then do let ok <-isTrue c b (eval c b);pure (ForInStep.yield ok)else pure (ForInStep.yield r)) (λok d=>
      if ok=true then wpAny (model prog w) A (eval elt b) (λx o=>
       wpAny (model prog w) A (call (.builtin "list.append") [B,x]) (λ_ j=> ∃m,m<n/\I m j) (λ_ _=>False) o) (λ_ _=>False) d
      else∃m,m<n/\I m d) (λ_ _=>False) s₂) (λ_ _=>False) i) (λ_ _=>False) e) (λ_ _=>False) s)
  (n:Nat) (h:I n s):codeAny (model prog w) A (.compLoop (.ListComp elt [⟨a,iter,ifs,0⟩] u pos) 0 it B b) R s:=by
 refine codeAny_loop rfl I (λn s F=>?_) n h;show wpAny _ A _ _ _ s;refine wpAny_noted ?_;have y: ∀{G:VP}(v:Ŋ)(s':ŉ),False->G v s':=λ_ _ z=>z.elim;refine wB (wpAny_standAt (wB (û (turn n s F) (λr e k=>?_) (y))))
 cases r with
 |none=>exact wP k
 |some v=>
  refine wB (û k (λ_ i q=>wB (û q (λ_ s₂ C=>wB (û C (λok d p=>?_) y)) y)) y)
  cases ok with
  |false=>exact wP ⟨rfl,p⟩
  |true=>
   exact wB (wB (û p (λx o E=>wB (û E (λ_ j D=>wP (wP ⟨rfl,D⟩)) y)) y))
end
def WV(X:Cx)(ifs:C5)(t:TT):Prop:=
 ∀(pins:C0)(s:ŉ)(σ:St)(H:Hp)(Q:Bool->Hp->Prop),Inv X pins σ H s->t σ H Q->
  wpAny (model X.prog X.w) X.A (forIn ifs true λc r=>if r=true then do let ok <-isTrue c X.env (eval c X.env);pure (ForInStep.yield ok)else pure (ForInStep.yield r)) (TP X pins σ Q) X.xe s
def Xk:TT:=λ_ H Q=>Q true H
def Ae{X:Cx}:WV X [] Xk:=λ_ _ _ H _ I h=>wpAny_tests_nil ⟨H,I,h⟩
def Af{X:Cx}{c:Expr}{t:TT}(h:PT X c t):WV X [c] t:=λpins s σ H Q I q=>wpAny_tests_one (h pins s σ H Q I q)
structure CompF(osc:Scope)(N:B7)(sc:Scope)(idx:Db):Prop where
 kind:sc.kind=.function
 uni: ∀y∈sc.names,sc.names.lookup y.1=some y.2
 frees: ∀y∈sc.names,y.2=.free->osc.names.lookup y.1=some .cell\/osc.names.lookup y.1=some .free
 cap: ∀i∈idx, ∃y,N[i]? =some y/\(osc.names.lookup y=some .cell\/osc.names.lookup y=some .free)/\sc.names.lookup y=some .free
def CompF.locs{a:Scope}{N:B7}{idx:Db}(F:CompF a N sc idx): ∀y∈sc.names,y.2=.local->sc.names.lookup y.1=some .local:=λy b e=>by rw[F.uni y b,e]
def Gu{a:Scope}{N:B7}{idx:Db}(h:rL a N sc idx=true):CompF a N sc idx:=by
 unfold rL at h;simp only[aE,ą,decide_eq_true_eq,Bool.or_eq_true]at h;obtain⟨⟨⟨h1,d⟩,c⟩,j⟩:=h;refine⟨h1,λy b=>d y b,λy b e=>?_,λi hi=>?_⟩
 .rcases c y b with(z|z)|z
  .exact absurd e z
  .exact .inl z
  .exact .inr z
 .have q:=j i hi
  cases e:N[i]? with
  |none=>rw[e]at q;cases q
  |some y=>
   rw[e]at q;simp only[aE,decide_eq_true_eq,Bool.or_eq_true]at q;exact⟨y,rfl,q.1,q.2⟩
def Ag{a:Scope}{x:Str}(h:(Ac sc a).lookup x=some .cell\/(Ac sc a).lookup x=some .free):(x,NameKind.free)∈sc.names\/(x,NameKind.cell)∈sc.names:=by
 have b: ∀c,(c=.cell\/c=.free)->(x,c)∈Ac sc a->(x,NameKind.free)∈sc.names\/(x,NameKind.cell)∈sc.names:=by
  intro c d m;obtain⟨⟨n,k⟩,i,e⟩:=mM.mp m;dsimp only at e;split at e
  .rename_i j;cases e;rw[aE,aE]at j;have:=by simpa using j.1.1
   subst this;exact .inl i
  .cases e;rcases d with rfl|rfl
   .exact .inr i
   .exact .inl i
 rcases h with h|h
 .exact b _ (.inl rfl) (PySem.mem_of_lookup h)
 .exact b _ (.inr rfl) (PySem.mem_of_lookup h)
theorem HF{a:Scope}{x:Str}: ∀{l:List (Str×NameKind)},l.lookup x=some .free->(l.map λ(n,k)=>if(k==NameKind.free&&a.kind==.function&&a.names.lookup n==some .cell)then(n,NameKind.cell)else(n,k)).lookup x=some .cell\/(l.map λ(n,k)=>if(k==NameKind.free&&a.kind==.function&&a.names.lookup n==some .cell)then(n,NameKind.cell)else(n,k)).lookup x=some .free
 |[],h=>by simp at h
 |(n,k)::l,h=>by
  have c:=@HF a x l;rw[Ň]at h;rw[å];by_cases d:(k==NameKind.free&&a.kind==.function&&a.names.lookup n==some .cell)=true
  .dsimp only;rw[iP d,Ň]
   cases b:x==n with
   |true=>exact .inl rfl
   |false=>rw[b]at h;exact c h
  .dsimp only;rw[iN d,Ň]
   cases b:x==n with
   |true=>rw[b]at h;exact .inr h
   |false=>rw[b]at h;exact c h
section
variable{X:Cx}{pins:C0}{σ:St}{H1:Hp}{s₂:ŉ}{sc:Scope}{T:B7}{idx:Db}{C:Addr}{fp:B6}
def MY(I:Inv X pins σ H1 s₂)(F:CompF X.env.scope X.N sc idx): ∀y∈sc.names,y.2=.free-> ∃c,X.env.cells.lookup y.1=some c:=
 λy a e=>I.ok.has y.1 (F.frees y a e)
def kP(I:Inv X pins σ H1 s₂)(F:CompF X.env.scope X.N sc idx){x:Str}{c:Addr}(e:(pO X.env sc.names []).lookup x=some c):X.env.cells.lookup x=some c:=
 AV sc.names [] (MY I F) (λ_ z=>nomatch z) _ (PySem.mem_of_lookup e)
def Gv(I:Inv X pins σ H1 s₂)(F:CompF X.env.scope X.N sc idx){x:Str}{c:Addr}(a:(x,NameKind.free)∈sc.names)(e:X.env.cells.lookup x=some c):(pO X.env sc.names []).lookup x=some c:=by obtain⟨b,h'⟩:=jC (pP sc.names [] x a);rw[h'];rw[kP I F h']at e;exact e
def WW(I:Inv X pins σ H1 s₂)(F:CompF X.env.scope X.N sc idx)(hC:s₂.heap.objs.size<=C)(hfp: ∀b∈fp,pH X pins H1 b)(hlt: ∀b∈fp,b<s₂.heap.objs.size):(zM X sc T idx C s₂ H1 fp).Ok where
 mod:=I.ok.mod
 kind:=F.kind
 glob:=I.ok.glob
 blt:=I.ok.blt
 above:=hC
 inj:=λx y c h1 h2=>by
  have low: ∀z,(pO X.env sc.names []).lookup z=some c->c<s₂.heap.objs.size:=λz h=>let ⟨v,q⟩:=I.cell z c (kP I F h);q.lt;rcases aS h1 with z1|z1<;>rcases aS h2 with z2|z2
  .exact PySem.name_of_addr (own_apart sc.names (C+1)) z1 z2
  .exact absurd (low y z2) (Nat.not_lt.mpr (le_of_lt (sE z1 hC)))
  .exact absurd (low x z1) (Nat.not_lt.mpr (le_of_lt (sE z2 hC)))
  .exact I.ok.inj x y c (kP I F z1) (kP I F z2)
 has:=λx hx=>by
  have hx':(Ac sc X.env.scope).lookup x=some .cell\/(Ac sc X.env.scope).lookup x=some .free:=hx;show∃c,(ZI X.env sc C).lookup x=some c;unfold ZI;rw[xH];rcases Ag hx' with z|z
  .obtain⟨c,hc⟩:=pP sc.names [] x z;exact jC ⟨c,ó _ hc⟩
  .obtain⟨c,hc⟩:=qN sc.names (C+1) z;exact jC ⟨c,ă _ hc⟩
 cab:=λx c h e=>by have h':sc.names.lookup x=some .cell:=beq_iff_eq.mp h;exact le_of_lt (sE (Pn (PySem.mem_of_lookup h') e) hC)
 hd:=I.ok.hd
 frames:=I.ok.frames
 stk:=.inl rfl
 exf:=λb hb=>⟨ë (ç (hlt b hb) hC),λx c e=>by
  rcases aS e with z|z
  .exact ø (lt_trans (hlt b hb) (sE z hC))
  .exact(hfp b hb).2.2.2.2.1 x c (kP I F z)⟩
 bs:=I.bs
 bsz:=õ I.ok.bsz I.sz
 noex:=λb o e hb=>by
  rcases (hfp b hb).2.2.2.1 with z|z
  .exact I.ok.noex b o e z
  .exact absurd (ç (â e) (õ I.ok.bsz z)) (ı _)
 exfs:=λb hb z=>by
  rcases mC.mp (I.stkSub b z)with e|e
  .exact(hfp b hb).2.1 e
  .exact(hfp b hb).2.2.1 e
 funs:=I.stack
 frf:=I.stkFree
theorem QU{d:ŉ}{m:B8}(I:Inv X pins σ H1 s₂)(F:CompF X.env.scope X.N sc idx)(B:s₂.heap.objs.size<=C)(w: ∀b∈fp,pH X pins H1 b)(E: ∀b∈fp,b<s₂.heap.objs.size)
  (kp: ∀b o,s₂.heap.get? b=some o->d.heap.get? b=some o) (ho:d.os=s₂.os) (hg:d.gens=s₂.gens) (hn:d.heap.Ns C m) (hcl: ∀x c,(x,c)∈cellsFrom (C+1) sc.names []->d.heap.IsCell c none):
  Inv (zM X sc T idx C s₂ H1 fp) [] (T.map (λ_=>none)++vG σ idx) H1 d:=by
 have k: ∀c v,s₂.heap.IsCell c v->d.heap.IsCell c v:=λc v ⟨o,h1,P⟩=>⟨o,kp c o h1,P⟩
 refine⟨WW I F B w E,ho,by rw[hg];exact I.bare,Un.kept kp,⟨m,hn,λi x v Q h W=>?_⟩,λx c e=>?_,I.hok.fresh B,λx c e=>?_,λp S=>absurd (show p∈([]:List _)from S) (by simp),I.hok.kept kp,?_⟩
 .have n:(T++idx.map λi=>(X.N[i]?).getD Str.empty)[i]? =some x:=Q;by_cases hi:i<T.length
  .rw[á (by simpa using hi),ö]at h
   cases z:T[i]? with
   |none=>rw[z]at h;cases h
   |some y=>rw[z]at h;cases h
  .rw[æ (by simpa using hi)]at h;rw[æ #[0]]at n;rw[lM]at h;unfold vG at h;rw[ö]at n h
   cases z:idx[i - T.length]? with
   |none=>rw[z]at h;cases h
   |some j=>
    rw[z]at n h;have M:=è z;obtain⟨y,G,k1,k2⟩:=F.cap j M;have ex:=by have q:(X.N[j]?).getD Str.empty=x:=ä n;rw[G]at q;exact q
    subst ex
    have L:σ[j]? =some (some v):=by
     have q:(σ[j]?).join=some v:=ä h
     cases H:σ[j]? with
     |none=>rw[H]at q;cases q
     |some a=>rw[H]at q;have J:a=some v:=q;rw[J]
    obtain⟨U,O,D⟩:=I.loc;have A:Wg X.env.scope y:=k1.elim (λz=>.inr (.inl z)) λz=>.inr (.inr z);obtain⟨u,r,l⟩:=D j y v G L A;refine⟨u,r,?_⟩;rcases l with⟨kl,_⟩|⟨_,c,hc,q⟩
    .have s:X.env.scope.names.lookup y=some .local:=kl;rcases k1 with z|z<;>rw[z]at s<;>cases s
    .have K:(y,NameKind.cell)∉sc.names:=λz=>by have:=F.uni _ z;rw[k2]at this;cases this
     refine .inr ⟨HF k2,c,?_,k c _ q⟩;show(ZI X.env sc C).lookup y=some c;rw[Gr K];exact Gv I F (PySem.mem_of_lookup k2) hc
 .rcases aS e with z|z
  .exact⟨none,hcl x c z⟩
  .obtain⟨v,q⟩:=I.cell x c (kP I F z);exact⟨v,k c v q⟩
 .rcases aS e with z|z
  .exact I.hok.fresh (le_of_lt (sE z B))
  .exact I.freeC x c (kP I F z)
 .show(T.map (λ_=>_)++vG σ idx).length=(T++idx.map λi=>(X.N[i]?).getD Str.empty).length;rw[lA,lA,lM,lM,fV]
def QV{m:St}{H':Hp}{s':ŉ}{h':Heap}{D:Addr}{ys:List V}{its:A0}{n:Nat}(I:Inv X pins σ H1 s₂)(w:s₂.heap.objs.size<=C)(h: ∀b∈fp,pH X pins H1 b)
  (J:Inv (zM X sc T idx C s₂ H1 fp) [] m H' s') (hs:Heap.SameBut C s'.heap h') (hD:s₂.heap.objs.size<=D) (hDC:D≠C) (eD:s'.heap.get? D=some {cls:=.type "list",data:=.seq its.toArray n}) (nD:H' D=none) (r:Vals ys its) (hz:ys.length<=sizeLine):
  Inv X pins σ (xR H' D (.lst ys)) {s' with heap:=h'}:=by
 have old: ∀b o,s₂.heap.get? b=some o->b≠C/\b≠D:=λb o e=>⟨ë (ç (â e) w),ë (ç (â e) hD)⟩
 have d: ∀b u,H1 b=some u->b≠D:=λb u e=>ë (ç (I.hok.lt e) hD);have p:=J.free;have B:Un _ fp H1 H' s₂.heap s'.heap:=J.base;have j: ∀b o,b≠C->s'.heap.get? b=some o->h'.get? b=some o:=λb o a e=>(hs.2 b a).trans e;refine I.call' J.os ⟨λb o e q a i=>?_,λb o e q a i=>?_,λb o e q i=>?_,λb o e i=>?_,λb xs e=>?_,λb o u e=>?_,λb ps e=>?_⟩ ?_ J.bare λb a=>⟨(h b a).2.2.2.1,(h b a).2.1,(h b a).2.2.2.2.1,(h b a).2.2.2.2.2⟩
 .exact j b o (old b o e).1 (B.keep b o e q a i)
 .obtain⟨sl,z⟩:=B.slot b o e q a i;exact⟨sl,j b _ (old b o e).1 z⟩
 .rw[zG (old b o e).2];exact B.free b o e q i
 .obtain⟨o',z⟩:=B.there b o e i;exact⟨o',j b o' (old b o e).1 z⟩
 .rw[zG (d b _ e)];exact B.tups b xs e
 .rw[zG (d b _ e)];exact B.frzs b o u e
 .obtain⟨k,z⟩:=B.tbls b ps e;exact⟨k,by rw[zG (d b _ e)];exact z⟩
 .intro b u e;by_cases a:b=D
  .subst a;rw[zS]at e;cases e;exact⟨hz,its,n,r,j b _ hDC eD⟩
  .rw[zG a]at e;refine(J.hok b u e).stay (λc v s q=>j c v ?_ q) (λc q=>by rw[zG (zO q nD)];exact q) λc xs q=>by rw[zG (zO q nD)];exact q
   rcases s with z|z
   .rw[z];exact zO e p
   .exact zO z p
end
section
variable{X:Cx}
def GC{M:Model}{A:ŋ}{E:VP}{s:ŉ}{a:Scope}{b:Addr}{c:List (Str×Addr)}{qual:Str}{d:Env}{Q:Env->ŉ->Prop}
  (hQ:Q (newEnv a ↑0 b (cellsFrom (↑0+1) a.names c) qual none .none (some d) builtinsNs) {s with heap:=pushCells (s.heap.push {cls:=.type "dict",data:=.dict #[]}) a.names}):
  wpAny M A (newFunctionEnv a b c [] qual none .none (some d)) Q E s:=by
 simp only[newFunctionEnv,Option.isSome_some,if_true];refine wB (wpAny_alloc ?_);refine wB (wpAny_layCells _ (λname kind e=>by cases h:kind==NameKind.cell<;>simp[h]) _ _ _ _ ?_);rw[show({s with heap:=s.heap.push {cls:=.type "dict",data:=.dict #[]}}:ŉ).heap.objs.size=↑0+1 from į ..];exact wB (wP (wP hQ))
theorem MZ{C:Cx->Prop}{tg:Expr}{wi:TI}{g:TG}{tc:Addr->ŉ->Hp->List Addr->TT}{te:Addr->ŉ->Hp->List Addr->TE}(T:B7)(idx:Db)
  (hi:Wr C X tg iter wi) (hCx: ∀c s₂ B fp pins σ,Inv X pins σ B s₂->C (zM X sc T idx c s₂ B fp)) (hB:rL X.env.scope X.N sc idx=true)
  (hg: ∀C s₂ H1 fp,PG (zM X sc T idx C s₂ H1 fp) tg g)
  (hc: ∀C s₂ H1 fp,WV (zM X sc T idx C s₂ H1 fp) ifs (tc C s₂ H1 fp))
  (he: ∀C s₂ H1 fp,PE (zM X sc T idx C s₂ H1 fp) elt (te C s₂ H1 fp))
  (hs: ∀x,foldedSetIterable iter X.env x=pure x:=by intro _;rfl)
  {pins:C0} {s:ŉ} {σ:St} {H:Hp} {Q:VK} {use:Option (Ŋ->Sem Unit)} {Q':VP} (I:↑1) (h:Ad wi g tc te T.length idx σ H Q)
  (fin: ∀(D C:Addr)(G:ŉ)(H':Hp)(r:_),(∀h',Heap.SameBut C G.heap h'->Inv X pins σ H' {G with heap:=h'})->pH X pins H' C->(∃m,G.heap.Ns C m)->Q (.ref D) H'->
   compPost (model X.prog X.w) X.A X.xe use Q' (.ref D) C (.ok r) G):
  wpAny (model X.prog X.w) X.A (comprehension (.ListComp elt [⟨tg,iter,ifs,0⟩] sc pos) sc X.env (firstIterPos [⟨tg,iter,ifs,0⟩] pos) (newList []) false (eval iter X.env) use) Q' X.xe s:=by
 have cf:=Gu hB;refine wpAny_comprehension_free rfl hs (GB (MY I cf)) cf.kind cf.locs ?_;refine jB (hi pins s σ H _ I h) λv s1 h1=>jB h1 λa9 a h2=>?_;obtain⟨it,fp,tn,J,B,e,P,M,ah,f2,W,⟨m0,w0⟩,ao⟩:=h2;subst e;have aj: ∀b∈fp,b<a.heap.objs.size:=λb j=>let ⟨o,e,_⟩:=M.obj _ _ ah b j;â e;refine ć (GC ?_);dsimp only;generalize ai:a.heap.push {cls:=.type "list",dict:=none,data:=.seq ([]:A0).toArray}=HH;generalize ae:pushCells (HH.push {cls:=.type "dict",data:=.dict #[]}) sc.names=h₁;have U:h₁.Ns HH.objs.size (λ_=>none):=ae▸(Heap.Ns.new HH (.type "dict")).keeps (pushCells_keeps _ _);have hC:HH.objs.size=a.heap.objs.size+1:=by rw[<-ai,į]
 have S:a.heap.objs.size≠HH.objs.size:=by rw[hC];exact ë (Nat.lt_succ_self _)
 have E:a.heap.objs.size<=HH.objs.size:=by rw[hC];exact le_succ _
 have ar: ∀b o,HH.get? b=some o->h₁.get? b=some o:=λb o e=>ae▸pushCells_keeps _ _ b o (hP0 _ e);have old: ∀b o,a.heap.get? b=some o->h₁.get? b=some o:=λb o e=>ar b o (ai▸hP0 _ e);have az:h₁.get? a.heap.objs.size=some {cls:=.type "list",data:=.seq ([]:A0).toArray 0}:=ar _ _ (ai▸ã _ rfl);have a3: ∀x c,(x,c)∈cellsFrom (HH.objs.size+1) sc.names []->h₁.IsCell c none:=λx c hm=>by have ok:=cellsFrom_ok sc.names (HH.push {cls:=.type "dict",data:=.dict #[]}) 0 [] ⟨λ_ _ hm=>(nomatch hm),List.Pairwise.nil⟩ (zero_le _);rw[į,ae]at ok;exact(ok.empty x c hm).1
 have a5:B a.heap.objs.size=none:=P.hok.fresh (à _)
 have cD: ∀x c,(ZI X.env sc HH.objs.size).lookup x=some c->c≠a.heap.objs.size:=λx c e=>by
  rcases aS e with z|z
  .exact ø (sE z E)
  .obtain⟨v,q⟩:=P.cell x c (kP P cf z);exact ë q.lt
 have Y: ∀G:ŉ,G={a with heap:=h₁}->
   codeAny (model X.prog X.w) X.A (.compLoop (.ListComp elt [⟨tg,iter,ifs,0⟩] sc pos) 0 (.ref it) (.ref a.heap.objs.size) (compEnvC sc (ZI X.env sc HH.objs.size) HH.objs.size X.env))
    (compPost (model X.prog X.w) X.A X.xe use Q' (.ref a.heap.objs.size) HH.objs.size) G:=by
  rintro G rfl
  have J0:Inv (zM X sc T idx HH.objs.size a B fp) [] (T.map (λ_=>none)++vG σ idx) B {a with heap:=h₁}:=
   QU P cf E f2 aj old rfl rfl U a3
  refine JN (λk s'=> ∃(i:Nat)(ys:List V)(its:A0)(n:Nat)(H':Hp)(τ:St),Inv (zM X sc T idx HH.objs.size a B fp) [] (τ++vG σ idx) H' s'/\τ.length=T.length/\tn i s'.heap/\(∀b∈fp,H' b=none)/\
   s'.heap.get? a.heap.objs.size=some {cls:=.type "list",data:=.seq its.toArray n}/\H' a.heap.objs.size=none/\Vals ys its/\W i k ys H') ?_ m0
   ⟨0,[],[],0,B,_,J0,by rw[lM],M.keep _ _ _ ah λb _ o e=>old b o e,λb j=>(f2 b j).1,az,a5,.nil,w0⟩
  rintro k s3 ⟨i,ys,its,n,H3,τ,I3,aM,aq,ak,a0,ag,r3,w3⟩;obtain⟨hz,a6⟩:=ao i k ys H3 w3;have av:a.heap.objs.size∉(zM X sc T idx HH.objs.size a B fp).fs:=λz=>by obtain⟨_,o,ho,_⟩:=P.stack.mem (show a.heap.objs.size∈WI X.stack from z);exact absurd (â ho) (ı _)
  have aw: ∀{H':Hp}{s':ŉ},s'.heap.get? a.heap.objs.size=some {cls:=.type "list",data:=.seq its.toArray n}->H' a.heap.objs.size=none->
    ∀p∈[(a.heap.objs.size,({cls:=.type "list",data:=.seq its.toArray n}:Obj))],s'.heap.get? p.1=some p.2/\H' p.1=none/\p.1≠(zM X sc T idx HH.objs.size a B fp).env.locals/\p.1∉(zM X sc T idx HH.objs.size a B fp).fs/\ ∀v,p.2.data≠.cell v:=
   λ{H' s'} e1 e2 p O=>by
    have ep:p=(a.heap.objs.size,{cls:=.type "list",data:=.seq its.toArray n}):=by simpa using O
    subst ep;exact⟨e1,e2,S,av,λv z=>by cases z⟩
  have P3:Inv (zM X sc T idx HH.objs.size a B fp) [_] (τ++vG σ idx) H3 s3:=I3.pins_of (aw a0 ag)
  have K: ∀{H':Hp},(∀b∈fp,H' b=none)-> ∀b∈fp,pH (zM X sc T idx HH.objs.size a B fp) [_] H' b:=λ{H'} hn b j=>by
   have aa:=aj b j;refine⟨hn b j,ë (ç aa E),I3.ok.exfs b j,.inl j,λx c e=>?_,λp O=>?_⟩
   .rcases aS e with z|z
    .exact ø (lt_trans aa (sE z E))
    .exact(f2 b j).2.2.2.2.1 x c (kP P cf z)
   have ep:p=(a.heap.objs.size,({cls:=.type "list",data:=.seq its.toArray n}:Obj)):=by simpa [zM]using O
   subst ep;exact ø aa
  rcases a6 with⟨stop,q⟩|⟨go,hl2,step⟩
  .refine jB (M.done (zM X sc T idx HH.objs.size a B fp) rfl rfl rfl (hCx _ _ _ _ _ _ P) i _ s3 _ H3 (λ_ _=>False) P3 (K ak) aq stop) λr G ⟨hr,I4⟩=>?_;subst hr;obtain⟨m,hn,_⟩:=id I4.loc;have ax:=(I4.pin (a.heap.objs.size,{cls:=.type "list",data:=.seq its.toArray n}) (by simp)).1;exact fin _ _ G _ _ (λh' a4=>QV P E f2 (I4.pins_of (λp O=>nomatch O)) a4 (à _) S ax ag r3 hz) (P.fpOk E (by rw[zG (Ne.symm S)];exact I4.free)) ⟨m,hn⟩ (q _ ag)
  .refine jB (M.item (zM X sc T idx HH.objs.size a B fp) rfl rfl rfl (hCx _ _ _ _ _ _ P) i _ s3 _ H3 (λ_ _=>False) P3 (K ak) aq go) λr G ⟨u,hr,h4⟩=>?_;subst hr;refine jB h4 λ_ s5 ⟨x,H5,I5,r5,y5,L,ay⟩=>?_;have a7:=I5.pinned (K ay) (M.obj _ _ L);refine jB (hg HH.objs.size a B fp _ s5 _ H5 x u _ a7 r5 (step x H5 y5 τ aM)) λ_ s6 ⟨a8,H6,I6,⟨Z,e6,l6⟩,q6⟩=>?_;subst e6;refine jB (hc HH.objs.size a B fp _ s6 _ H6 _ I6 (q6 HH.objs.size a fp)) λok s7 ⟨H7,I7,q7⟩=>?_
   have mD:(a.heap.objs.size,({cls:=.type "list",data:=.seq its.toArray n}:Obj))∈(zM X sc T idx HH.objs.size a B fp).pn++([(a.heap.objs.size,{cls:=.type "list",data:=.seq its.toArray n})]++rZ fp s5.heap):=
    ó _ (ă _ (by simp))
   have mF: ∀b∈fp, ∀o,s5.heap.get? b=some o->(b,o)∈(zM X sc T idx HH.objs.size a B fp).pn++([(a.heap.objs.size,{cls:=.type "list",data:=.seq its.toArray n})]++rZ fp s5.heap):=λb j o e=>
    ó _ (ó _ (sC j e))
   cases ok with
   |false=>
    rw[iN xF0]at q7 ⊢;obtain⟨m',ab,w7⟩:=q7;refine⟨m',ab,i+1,ys,its,n,H7,Z,I7.pins_of (λp O=>nomatch O),l6,M.keep _ _ _ L λb j o e=>(I7.pin _ (mF b j o e)).1,λb j=>?_,(I7.pin _ mD).1,(I7.pin _ mD).2.1,r3,w7⟩;obtain⟨o,e,d⟩:=M.obj _ _ L b j;exact(I7.pin _ (mF b j o e)).2.1
   |true=>
    rw[iP rfl]at q7 ⊢;refine jB (he HH.objs.size a B fp _ s7 _ H7 _ I7 q7) λy s8 ⟨yv,H8,I8,r8,m',ab,w8⟩=>?_;have af:=(I8.pin _ mD).1;have au:=(I8.pin _ mD).2.1;have hl:=r3.length;have q:=PySem.IsL.update af (λz=>z.push y);rw[show its.toArray.push y=(its++[y]).toArray by simp]at q;refine Ĺ PySem.F.slot_list_append ⟨_,af,rfl⟩ PySem.F.entry_list_append (PySem.F.args_list_append_2 _ _) (PySem.list_append a.heap.objs.size its.toArray n y (by rw[sA0];lia)) ⟨af,?_⟩;have I9:Inv (zM X sc T idx HH.objs.size a B fp) [] (Z++vG σ idx) H8 s8:=I8.pins_of (λp O=>nomatch O);have up: ∀b o,b≠a.heap.objs.size->s8.heap.get? b=some o->(s8.heap.update a.heap.objs.size (Obj.mapSeq λz=>z.push y)).get? b=some o:=λb o j e=>(ý s8.heap _ (Ne.symm j)).trans e;refine⟨m',ab,i+1,_,_,_,H8,Z,I9.turned up au S (.inr (à _)) cD (λp O=>nomatch O),l6,?_,λb j=>?_,q,au,r3.append (.cons r8 .nil),w8⟩
    .exact M.keep _ _ _ L λb j o e=>up b o (ë (aj b j)) (I8.pin _ (mF b j o e)).1
    .obtain⟨o,e,d⟩:=M.obj _ _ L b j;exact(I8.pin _ (mF b j o e)).2.1
 exact codeAny_compStart_list (Y _ rfl) (M.self X.A 0 _ _ _ (M.keep _ _ _ ah λb _ o e=>old b o e) (Y _ rfl))
def Gw{C:Cx->Prop}{tg:Expr}{e:TI}{g:TG}{d:Addr->ŉ->Hp->List Addr->TT}{te:Addr->ŉ->Hp->List Addr->TE}(T:B7)(idx:Db)
  (hi:Wr C X tg iter e) (hCx: ∀c s₂ b fp pins σ,Inv X pins σ b s₂->C (zM X sc T idx c s₂ b fp)) (hB:rL X.env.scope X.N sc idx=true)
  (hg: ∀C s₂ H1 fp,PG (zM X sc T idx C s₂ H1 fp) tg g)
  (hc: ∀C s₂ H1 fp,WV (zM X sc T idx C s₂ H1 fp) ifs (d C s₂ H1 fp))
  (he: ∀C s₂ H1 fp,PE (zM X sc T idx C s₂ H1 fp) elt (te C s₂ H1 fp))
  (hs: ∀x,foldedSetIterable iter X.env x=pure x:=by intro _;rfl):
  PE X (.ListComp elt [⟨tg,iter,ifs,0⟩] sc pos) (Ad e g d te T.length idx):=by
 intro pins s σ H Q I h;exact MZ T idx hi hCx hB hg hc he hs I h λD C j H' r J _ ⟨m,i⟩ q=>⟨m,i,λh' a=>⟨.ref D,H',J h' a,rfl,q⟩⟩
end
noncomputable def fR(x:Db):Str:=⟨x.toArray⟩
def gF(x:Db):(fR x).length=x.length:=by simp[fR,Str.length]
def Gx(x:Db):(fR x).cps.toList=x:=by simp[fR]
def tH{x y:Db}(h:fR x=fR y):x=y:=by have:=congrArg (λs=>s.cps.toList) h;simpa [fR]using this
def Gy(x y:Db):fR x++fR y=fR (x++y):=by show Str.append _ _=_;simp[Str.append,fR]
theorem Gz(c:Nat):(⟨#[c]⟩:Str)=fR [c]:=rfl
def fS{α:Type}(xs:List α)(lo hi:C4):List α:=(xs.drop (HT.sIx xs.length 0 lo)).take (HT.sIx xs.length xs.length hi - HT.sIx xs.length 0 lo)
theorem strIdx(lo hi:C4)(n:Nat):Builtin.Str.strSliceIndices lo hi 1 n=(List.range (HT.sIx n n hi - HT.sIx n 0 lo)).map (HT.sIx n 0 lo+·):=by
 have a:(match lo with |none=>(if(1:Int)>0 then(0:Int)else(n:Int) - 1)|some i=>if(1:Int)>0 then max 0 (min (if i<0 then i+(n:Int)else i) (n:Int))else max (-1) (min (if i<0 then i+(n:Int)else i) ((n:Int) - 1)))=((HT.sIx n 0 lo:Nat):Int):=by
  cases lo with
  |none=>simp[HT.sIx]
  |some i=>
   simp only[HT.sIx,show(1:Int)>0 by decide,if_true];by_cases h:i<0
   .simp only[h,if_true];lia
   .simp only[h,iF];lia
 have b:(match hi with |none=>(if(1:Int)>0 then(n:Int)else -1)|some i=>if(1:Int)>0 then max 0 (min (if i<0 then i+(n:Int)else i) (n:Int))else max (-1) (min (if i<0 then i+(n:Int)else i) ((n:Int) - 1)))=((HT.sIx n n hi:Nat):Int):=by
  cases hi with
  |none=>simp[HT.sIx]
  |some i=>
   simp only[HT.sIx,show(1:Int)>0 by decide,if_true];by_cases h:i<0
   .simp only[h,if_true];lia
   .simp only[h,iF];lia
 rw[<-sliceRange_one];unfold Builtin.Str.strSliceIndices;rw[<-a, <-b];cases lo<;>cases hi<;>rfl
theorem WX(x:Db)(lo hi:C4):Txt.slice (fR x) lo hi=fR (fS x lo hi):=by
 unfold Txt.slice;rw[strIdx,gF];have b:=by have:=pick_run (fR x).cps (HT.sIx x.length 0 lo) (HT.sIx x.length x.length hi - HT.sIx x.length 0 lo);exact this
 rw[b];split
 .rename_i a;rw[aE]at a;have c:=by simpa using a.2
  have d:HT.sIx x.length x.length hi<=x.length:=HT.sIx_le _ _ (à _) _;have h:HT.sIx x.length 0 lo<=x.length:=HT.sIx_le _ _ (zero_le _) _;have e:HT.sIx x.length 0 lo=0:=by lia
  unfold fS;rw[c,e];simp
 .rfl
section
variable{X:Cx}
def rSlS:V->Option Int->Option Int->Hp->VK->Prop:=λx lo hi H Q=> ∃a,x=.str (fR a)/\a.length<=sizeLine/\Q (.str (fR (fS a lo hi))) H
def Po:SlR X rSlS:=by
 intro pins s σ H x v r w lo hi sl Q I n hs p d h;obtain⟨e,rfl,m,q⟩:=h;obtain⟨t,rfl⟩:=n;have b:(Txt.slice (fR e) lo hi).length<=sizeLine:=õ (Txt.slice_le _ _ _) (by rw[gF];exact m);rw[<-WX]at q;refine⟨"str",_,slot_str_getitem.lookup,typeIs_str _ _ _,?_⟩;obtain⟨o,c,a,hd⟩:=hs
 cases p with
 |none=>
  cases d with
  |none=>exact ł (l:=none) (u:=none) (st:=none) ⟨o,c,a,hd⟩ rfl (post_val_or_str ⟨b,λt' k=>⟨.str _,H,I.tok _,⟨_,rfl⟩,q⟩⟩)
  |int j uj=>exact ł (l:=none) (u:=some (j,uj)) (st:=none) ⟨o,c,a,hd⟩ rfl (post_val_or_str ⟨b,λt' k=>⟨.str _,H,I.tok _,⟨_,rfl⟩,q⟩⟩)
 |int i ui=>
  cases d with
  |none=>exact ł (l:=some (i,ui)) (u:=none) (st:=none) ⟨o,c,a,hd⟩ rfl (post_val_or_str ⟨b,λt' k=>⟨.str _,H,I.tok _,⟨_,rfl⟩,q⟩⟩)
  |int j uj=>exact ł (l:=some (i,ui)) (u:=some (j,uj)) (st:=none) ⟨o,c,a,hd⟩ rfl (post_val_or_str ⟨b,λt' k=>⟨.str _,H,I.tok _,⟨_,rfl⟩,q⟩⟩)
noncomputable def GD(cs:Db)(k:Int):List Nat:=(List.replicate k.toNat cs).flatten
theorem vH(cs:Db): ∀(k:Nat)(a:Db),List.foldl (λc b=>c++b) a.toArray (List.replicate k cs.toArray)=(a++(List.replicate k cs).flatten).toArray
 |0,a=>by simp
 |k+1,a=>by rw[ĭ,ĭ,flatten_cons, <-aA, <-vH cs k _];simp
theorem QW:OpR X (binaryOp .Mult) (λx y H Q=> ∃a k,x=.str (fR a)/\y=.int k/\0<=k/\k<1000/\a.length<=1000/\Q (.str (fR (GD a k))) H):=by
 intro pins s σ H x y v u Q I C w h;obtain⟨a,k,rfl,rfl,E,h1,A,q⟩:=h;obtain⟨t,rfl⟩:=C;obtain⟨t',rfl⟩:=w;have hs:=Ĕ;have n:a.length * k.toNat<=1000 * 1000:=mul_le_mul A #[0];have e: ∀b,Q (.str b) H->b=fR (GD a k)->True:=λ_ _ _=>trivial;refine PySem.P.mul_str (by rw[dF0 #[0],dF0 #[0]];rfl) (λF _=>?_) (λ_ _=>?_) ?_
 .rw[gF];have o:1<=k:=by lia
  have:(1000:Int)<=(2 ^ 63 - 1) / k:=by
   rw[Int.le_ediv_iff_mul_le #[0]]
   lia
  lia
 .rw[gF];unfold PySem.Builtin.Str.tooLong;exact dF0 #[0]
 .have d: ∀(z:Str),z=fR _->z.length<=sizeLine->(Made.str z).post (EP X pins σ Q) s:=λz D B=>⟨B,by rw[D];exact⟨.str _,H,I.tok _,⟨_,rfl⟩,q⟩⟩
  have i:(GD a k).length=k.toNat * a.length:=by unfold GD;rw[len_rep]
  by_cases p:k<1
  .rw[iP p];have o:k.toNat=0:=by lia
   refine d _ ?_ (by decide);unfold GD;rw[o];rfl
  .rw[iN p];by_cases c:(k==1 || (fR a).length==0)=true
   .rw[iP c];refine⟨.str _,H,I,⟨_,rfl⟩,?_⟩
    have:GD a k=a:=by
     unfold GD;rw[Bool.or_eq_true]at c;rcases c with c|c
     .have:k=1:=by simpa using c
      subst this;simp
     .rw[gF]at c;have:a=[]:=by cases a with |nil=>rfl|cons _ _=>simp at c
      subst this;simp
    rw[this]at q;exact q
   .rw[iN c];refine d _ ?_ ?_
    .unfold GD fR;have:=vH a k.toNat [];rw[ģ]at this;exact congrArg Str.mk this
    .have r:(List.foldl (λm j=>m++j) #[] (List.replicate k.toNat (fR a).cps))=(GD a k).toArray:=by have:=vH a k.toNat [];rw[ģ]at this;exact this
     show(List.foldl (λm j=>m++j) #[] _).size<=sizeLine;rw[r,sA0,i,Nat.mul_comm]
     lia
end
section
variable{X:Cx}
def PU(X:Cx)(e:Expr)(t:TE):Prop:= ∀(i:Nat)(x:Str)(a pos:Pos),X.N.Nodup->X.N[i]? =some x->Loc X.env.scope x->(X.fn x=true\/X.env.scope.names.lookup x=some .local)->
 swapsWith e (some (.Name x a)) pos.line X.env=pure true->PS X (.Assign [.Name x a] e pos) (Ol t (ZP i))
def Ha{C:Cx->Prop}{tg:Expr}{B:TI}{g:TG}{A:Addr->ŉ->Hp->List Addr->TT}{te:Addr->ŉ->Hp->List Addr->TE}(T:B7)(idx:Db)
  (hi:Wr C X tg iter B) (hCx: ∀c s₂ w fp pins σ,Inv X pins σ w s₂->C (zM X sc T idx c s₂ w fp)) (hB:rL X.env.scope X.N sc idx=true)
  (hg: ∀C s₂ H1 fp,PG (zM X sc T idx C s₂ H1 fp) tg g)
  (hc: ∀C s₂ H1 fp,WV (zM X sc T idx C s₂ H1 fp) ifs (A C s₂ H1 fp))
  (he: ∀C s₂ H1 fp,PE (zM X sc T idx C s₂ H1 fp) elt (te C s₂ H1 fp))
  (hs: ∀x,foldedSetIterable iter X.env x=pure x:=by intro _;rfl):
  PU X (.ListComp elt [⟨tg,iter,ifs,0⟩] sc pos) (Ad B g A te T.length idx):=by
 intro i x z y J r Q P v pins s σ H D I h;rw[exec_Assign_Name_used _ _ _ _ v];refine wB (wpAny_standAt (wB ?_));refine wB (jB (MZ T idx hi hCx hB hg hc he hs I h λO C E H' _ K d n q=>?_) λ_ s' F=>wP (wP F));have G:=K E.heap (Heap.SameBut.refl _ _);refine wpAny_assign_Name (GW G J r Q (show RelV (.ref O) _ from rfl) (λs' M ⟨a,p,j⟩=>?_) P);obtain⟨m,n⟩:=n
 have u:C≠a:=by
  rintro rfl;rcases j with j|j
  .exact d.2.1 j
  .exact d.2.2.2.2.1 x _ j rfl
 refine⟨m,n.sameBut p u,λh' k=>⟨_,H',?_,q⟩⟩;exact M.turned (λb o L e=>(k.2 b L).trans e) d.1 d.2.1 d.2.2.2.1 d.2.2.2.2.1 d.2.2.2.2.2
end
end L2
namespace L2
namespace M
open PySem PySem.Spec PyProof.Rows
variable{v:Ŋ}
def Ah{A:ŋ}{s:ŉ}{y x:V}{u:Ŋ}(e:RelV y u)(c:RelV x v)(h:lP y=true)(d:lP x=true):SeqAt.RcAt A s u v (Gq y x)/\SeqAt.RcNeAt A s u v (!Gq y x):=by
 cases y with
 |non=>
  cases e
  cases x with
  |non=>cases c;exact⟨.none_none,.none_none⟩
  |bl b=>cases c;exact⟨.none_bool b,.none_bool b⟩
  |int b=>obtain⟨t,rfl⟩:=c;exact⟨.none_int b t,.none_int b t⟩
  |str b=>obtain⟨t,rfl⟩:=c;exact⟨.none_str b t,.none_str b t⟩
  |_=>cases d
 |bl a=>
  cases e
  cases x with
  |non=>cases c;exact⟨.bool_none a,.bool_none a⟩
  |bl b=>cases c;exact⟨.bool_bool a b,.bool_bool a b⟩
  |int b=>obtain⟨t,rfl⟩:=c;exact⟨.bool_int a b t,.bool_int a b t⟩
  |str b=>obtain⟨t,rfl⟩:=c;exact⟨.bool_str a b t,.bool_str a b t⟩
  |_=>cases d
 |int a=>
  obtain⟨t',rfl⟩:=e
  cases x with
  |non=>cases c;exact⟨.int_none a t',.int_none a t'⟩
  |bl b=>cases c;exact⟨.int_bool a t' b,.int_bool a t' b⟩
  |int b=>obtain⟨t,rfl⟩:=c;exact⟨.int_int a t' b t,.int_int a t' b t⟩
  |str b=>obtain⟨t,rfl⟩:=c;exact⟨.int_str a t' b t,.int_str a t' b t⟩
  |_=>cases d
 |str a=>
  obtain⟨t',rfl⟩:=e
  cases x with
  |non=>cases c;exact⟨.str_none a t',.str_none a t'⟩
  |bl b=>cases c;exact⟨.str_bool a t' b,.str_bool a t' b⟩
  |int b=>obtain⟨t,rfl⟩:=c;exact⟨.str_int a t' b t,.str_int a t' b t⟩
  |str b=>obtain⟨t,rfl⟩:=c;exact⟨.str_str a t' b t,.str_str a t' b t⟩
  |_=>cases d
 |_=>cases h
abbrev Six(A:Around)(s:Shared)(u v:Value):Prop:=SeqAt.EqAt A s u v false/\SeqAt.EqAt A s v u false/\SeqAt.RcAt A s u v false/\SeqAt.RcAt A s v u false/\SeqAt.RcNeAt A s u v true/\SeqAt.RcNeAt A s v u true
def HG{A:ŋ}{s:ŉ}{x:V}{l:Addr}{items:B0}(d:RelV x v)(e:lP x=true)(c:s.heap.IsList l items)(a:A.units<cLine):Six A s (.ref l) v:=by
 cases x with
 |non=>cases d;exact⟨.list_none c a,.none_list c a,.list_none c a,.none_list c a,.list_none c a,.none_list c a⟩
 |bl b=>cases d;exact⟨.list_bool b c a,.bool_list b c a,.list_bool b c a,.bool_list b c a,.list_bool b c a,.bool_list b c a⟩
 |int b=>obtain⟨t,rfl⟩:=d;exact⟨.list_int b t c a,.int_list b t c a,.list_int b t c a,.int_list b t c a,.list_int b t c a,.int_list b t c a⟩
 |str b=>obtain⟨t,rfl⟩:=d;exact⟨.list_str b t c a,.str_list b t c a,.list_str b t c a,.str_list b t c a,.list_str b t c a,.str_list b t c a⟩
 |_=>cases e
def AW{A:ŋ}{s:ŉ}{x:V}{l:Addr}{items:B0}(d:RelV x v)(e:lP x=true)(c:s.heap.IsTuple l items)(a:A.units<cLine):Six A s (.ref l) v:=by
 cases x with
 |non=>cases d;exact⟨.tuple_none c a,.none_tuple c a,.tuple_none c a,.none_tuple c a,.tuple_none c a,.none_tuple c a⟩
 |bl b=>cases d;exact⟨.tuple_bool b c a,.bool_tuple b c a,.tuple_bool b c a,.bool_tuple b c a,.tuple_bool b c a,.bool_tuple b c a⟩
 |int b=>obtain⟨t,rfl⟩:=d;exact⟨.tuple_int b t c a,.int_tuple b t c a,.tuple_int b t c a,.int_tuple b t c a,.tuple_int b t c a,.int_tuple b t c a⟩
 |str b=>obtain⟨t,rfl⟩:=d;exact⟨.tuple_str b t c a,.str_tuple b t c a,.tuple_str b t c a,.str_tuple b t c a,.tuple_str b t c a,.str_tuple b t c a⟩
 |_=>cases e
def Ai{y:V}(h:lP y=true):Gq y y=true:=by cases y<;>first |rfl|(simp[Gq];done)|exact absurd h xF0
abbrev K3:=Option Key
inductive NK where
 |key (k:K3)|tup (ks:List NK)
instance:DecidableEq NK:=λ_ _=>Classical.propDecidable _
section
variable{prog:Ō}{w:World}(knd:KeyKind prog w K3)
mutual
def GE(h:Heap):NK->Ŋ->Prop
 |.key k,v=>knd.is k v=true
 |.tup ks,v=> ∃a o b n,v=.ref a/\h.get? a=some o/\o.cls=.type "tuple"/\o.data=.seq b n/\pQ h ks b.toList
def pQ(h:Heap):List NK->List Ŋ->Prop
 |[],vs=>vs=[]
 |k::ks,vs=> ∃v r,vs=v::r/\GE h k v/\pQ h ks r
end
mutual
def tI:NK->Int
 |.key k=>knd.hash k
 |.tup ks=>reduceHash (Builtin.Tuple.tupleHashOf (DR ks))
def DR:List NK->List Int
 |[]=>[]
 |k::ks=>tI k::DR ks
end
mutual
def DS:NK->Nat
 |.key _=>1
 |.tup ks=>bM ks+1
def bM:List NK->Nat
 |[]=>0
 |k::ks=>DS k+bM ks
end
mutual
def iR:NK->Nat
 |.key _=>0
 |.tup ks=>rM ks+1
def rM:List NK->Nat
 |[]=>0
 |k::ks=>max (iR k) (rM ks)
end
variable{knd}
theorem xS{h:Heap}{k:K3}:GE knd h (.key k) v↔knd.is k v=true:=by unfold GE;exact Iff.rfl
def xF{h:Heap}{ks:List NK}:GE knd h (.tup ks) v↔ ∃a o b n,v=.ref a/\h.get? a=some o/\o.cls=.type "tuple"/\o.data=.seq b n/\pQ knd h ks b.toList:=by
 conv=>lhs;unfold GE
theorem xY{h:Heap}{vs:A0}:pQ knd h [] vs↔vs=[]:=by unfold pQ;exact Iff.rfl
def yI{h:Heap}{k:NK}{ks:List NK}{vs:A0}:pQ knd h (k::ks) vs↔ ∃v r,vs=v::r/\GE knd h k v/\pQ knd h ks r:=by
 conv=>lhs;unfold pQ
mutual
theorem JO{h:Heap}: ∀{x y:NK}{v:Ŋ},GE knd h x v->GE knd h y v->x=y
 |.key k,.key k',v,hx,hy=>by rw[knd.inj v k k' (xS.mp hx) (xS.mp hy)]
 |.key k,.tup ks,v,hx,hy=>by obtain⟨a,o,b,n,rfl,_⟩:=xF.mp hy;have:=knd.byValue _ _ (xS.mp hx);simp[carriedByValue]at this
 |.tup ks,.key k,v,hx,hy=>by obtain⟨a,o,b,n,rfl,_⟩:=xF.mp hx;have:=knd.byValue _ _ (xS.mp hy);simp[carriedByValue]at this
 |.tup ks,.tup ks',v,hx,hy=>by
  obtain⟨a,o,b,n,e,p,_,hd,hi⟩:=xF.mp hx;obtain⟨q,o',d,r,m,j,_,c,i⟩:=xF.mp hy;rw[e]at m;cases m;obtain rfl:o=o':=ä (p.symm.trans j);rw[hd]at c;injection c with h1 _
  subst h1;rw[NA hi i]
theorem NA{h:Heap}: ∀{xs ys:List NK}{vs:A0},pQ knd h xs vs->pQ knd h ys vs->xs=ys
 |[],[],_,_,_=>rfl
 |[],y::ys,vs,hx,hy=>by obtain⟨v,r,e,_⟩:=yI.mp hy;rw[xY.mp hx]at e;cases e
 |x::xs,[],vs,hx,hy=>by obtain⟨v,r,e,_⟩:=yI.mp hx;rw[xY.mp hy]at e;cases e
 |x::xs,y::ys,vs,hx,hy=>by obtain⟨v,r,e,h1,d⟩:=yI.mp hx;obtain⟨j,i,c,b,a⟩:=yI.mp hy;rw[e]at c;cases c;rw[JO h1 b,NA d a]
end
mutual
theorem DT{h h':Heap}(m: ∀a o b n,h.get? a=some o->o.data=.seq b n->h'.get? a=some o): ∀{x:NK}{v:Ŋ},GE knd h x v->GE knd h' x v
 |.key k,v,hx=>xS.mpr (xS.mp hx)
 |.tup ks,v,hx=>by obtain⟨a,o,b,n,e,d,c,hd,hi⟩:=xF.mp hx;exact xF.mpr ⟨a,o,b,n,e,m a o b n d hd,c,hd,HI m hi⟩
theorem HI{h h':Heap}(m: ∀a o b n,h.get? a=some o->o.data=.seq b n->h'.get? a=some o): ∀{xs:List NK}{vs:A0},pQ knd h xs vs->pQ knd h' xs vs
 |[],vs,hx=>xY.mpr (xY.mp hx)
 |x::xs,vs,hx=>by obtain⟨v,r,e,h1,c⟩:=yI.mp hx;exact yI.mpr ⟨v,r,e,DT m h1,HI m c⟩
end
theorem DU: ∀a:List NK,DR knd a=a.map (tI knd)
 |[]=>by unfold DR;rfl
 |k::a=>by unfold DR;rw[DU a];rfl
def sF:bM []=0:=by rw[bM]
def pR(k:NK)(ks:List NK):bM (k::ks)=DS k+bM ks:=by rw[bM]
def sG(k:NK)(ks:List NK):rM (k::ks)=max (iR k) (rM ks):=by rw[rM]
def aT(ks:List NK):iR (.tup ks)=rM ks+1:=by rw[iR]
theorem rN: ∀(xs ys:List NK),bM (xs++ys)=bM xs+bM ys
 |[],ys=>by rw[sF,ģ,Ă]
 |x::xs,ys=>by rw[Į,pR,pR,rN xs ys];lia
def tK{s:ŉ}{ks:List NK}{a:Addr}(h:GE knd s.heap (.tup ks) (.ref a)):s.TypeIs (.ref a) "tuple":=by obtain⟨d,o,_,n,e,c,b,_⟩:=xF.mp h;cases e;exact⟨o,c,b⟩
theorem NB: ∀(n:Nat){A:ŋ}{E:VP}{s:ŉ}{k:NK}{v:Ŋ}{Q:Int->ŉ->Prop},iR k<=n->A.units+n<cLine->GE knd s.heap k v->Q (tI knd k) {s with toks:=s.toks+DS k}->wpAny (model prog w) A (pyHash v) Q E s
 |n,A,E,s,.key k,v,Q,_,_,d,h=>knd.pyHash (xS.mp d) (by rw[tI,DS]at h;exact h)
 |0,A,E,s,.tup c,v,Q,hd,_,_,_=>by rw[aT]at hd;lia
 |n+1,A,E,s,.tup c,v,Q,hdep,hu,d,h=>by
  obtain⟨a,o,_,m,rfl,z,B,hd,hi⟩:=xF.mp d;have p:s.TypeIs (.ref a) "tuple":=⟨o,z,B⟩
  rw[aT]at hdep
  have q: ∀k∈c,iR k<=n:=by
   have: ∀c:List NK,rM c<=n-> ∀k∈c,iR k<=n:=by
    intro c
    induction c with
    |nil=>intro _ k d;simp at d
    |cons x xs ih=>
     intro D k d;rw[sG]at D;rcases mC.mp d with rfl|d
     .lia
     .exact ih #[0] k d
   exact this c #[0]
  rw[tI,DS,DU]at h;unfold pyHash
  first |unfold pyHashByItsType|skip
  first |refine wB (wpAny_cRoomFor_or (.inr #[0]) ?_)|skip
  refine wB (wpAny_specialOf p F.slot_tuple_hash.lookup ?_);show wpAny _ _ _ Q E s;rw[iN (by rw[beq_builtin_none];exact xF0)];refine wB (wpAny_specialOf p F.slot_tuple_hash.lookup ?_);show wpAny _ _ _ Q E s;refine wB (wpAny_callSpecialIfBoundUnlessNone?_slot p F.slot_tuple_hash (ì F.slot_tuple_hash p F.entry_tuple_hash ?_ (F.args_tuple_hash_1 _)));show wpAny _ _ (Builtin.Tuple.tupleItemsOf (.ref a) >>= _) _ _ s;refine wB (wpAny_tupleItemsOf z hd ?_);refine wB ?_;rw[<-Array.forIn_toList]
  refine wpAny_forIn_list _
   (λrest (b:Array Int) s'=> ∃done left,c=done++left/\pQ knd s.heap left rest/\b.toList=done.map (tI knd)/\s'={s with toks:=s.toks+bM done})
   _ ?_ ?_ _ _ ⟨[],c,rfl,hi,rfl,by rw[sF];rfl⟩
  .rintro x rest b s' ⟨done,left,rfl,i,y,rfl⟩
   cases left with
   |nil=>rw[xY]at i;cases i
   |cons k ks'=>
    obtain⟨v,r,e,h1,u⟩:=yI.mp i;cases e;refine wB (NB n (q k (by simp)) (show A.units+1+n<cLine by lia) h1 ?_);have C:bM (done++[k])=bM done+DS k:=by rw[rN,pR,sF];rfl
    first
     |exact wP ⟨done++[k],ks',by simp,u,by simp[y],by simp[add_assoc,C]⟩
     |exact wB _
  .rintro b s' ⟨done,left,rfl,i,y,rfl⟩
   cases left with
   |cons k ks'=>obtain⟨v,r,e,_⟩:=yI.mp i;cases e
   |nil=>
    rw[aN]at h;show wpAny _ _ (retInt _) _ _ _;rw[y];refine wpAny_ret_mkInt ?_;show wpAny _ _ (if _=true then _ else _) Q E _;unfold reduceHash at h;by_cases j:(decide (-(2:Int) ^ 63<=Builtin.Tuple.tupleHashOf (done.map (tI knd)))&&decide (Builtin.Tuple.tupleHashOf (done.map (tI knd))<2 ^ 63))=true
    .rw[iP j];rw[iP j]at h;exact wP (by simpa [add_assoc]using h)
    .rw[iN j];rw[iN j]at h;exact wB (ĕ (wP (by simpa [add_assoc]using h)))
end
section
variable{prog:Ō}{w:World}
def WY{A:ŋ}{E:VP}{s:ŉ}{Q:Int->ŉ->Prop}(h:Q 0xFCA86420 {s with toks:=s.toks+1}):wpAny (model prog w) A (pyHash .none) Q E s:=by
 have a:[Value.none].any Value.onHeap=false:=rfl;refine wB ?_;rw[cRoomFor];refine wP ?_;refine wB (wpAny_specialOf (typeIs_none s) F.slot_NoneType_hash.lookup ?_);show wpAny _ _ _ Q E s;refine wB (wpAny_specialOf (typeIs_none s) F.slot_NoneType_hash.lookup ?_);show wpAny _ _ _ Q E s
 refine wB (wpAny_callSpecialIfBoundUnlessNone?_slot (typeIs_none s) F.slot_NoneType_hash
  (ì F.slot_NoneType_hash (typeIs_none s) F.entry_NoneType_hash
   (wpAny_ret_mkInt ?_) (F.args_NoneType_hash_1 _)))
 show wpAny _ _ (if _=true then _ else _) Q E _;exact wP h
def Xl:K3->Ŋ->Bool
 |some k,v=>lO k v
 |none,v=>v==.none
def lQ: ∀{k:K3}{v:Ŋ},Xl k v=true->(∃i t,k=some (.inl i)/\v=Value.int i t)\/(∃x t,k=some (.inr x)/\v=Value.str x t)\/(k=none/\v=.none)
 |some k,v,h=>by
  rcases zZ h with⟨i,t,rfl,e⟩|⟨x,t,rfl,e⟩
  .exact .inl ⟨i,t,rfl,e⟩
  .exact .inr (.inl ⟨x,t,rfl,e⟩)
 |none,v,h=>.inr (.inr ⟨rfl,eq_of_beq h⟩)
def mk(prog:Ō)(w:World):KeyKind prog w K3 where
 is:=Xl
 hash:=λ|some k=>We w k|none=>0xFCA86420
 inj:=λv a b ha hb=>by rcases lQ ha with⟨i,t,rfl,rfl⟩|⟨x,t,rfl,rfl⟩|⟨rfl,rfl⟩<;>rcases lQ hb with⟨j,u,rfl,e⟩|⟨y,u,rfl,e⟩|⟨rfl,e⟩<;>first |(injection e with e1 _;rw[e1];done)|rfl|exact nomatch e
 byValue:=λk v h=>by rcases lQ h with⟨i,t,rfl,rfl⟩|⟨x,t,rfl,rfl⟩|⟨rfl,rfl⟩<;>rfl
 pyHash:=λhv h=>by
  rcases lQ hv with⟨i,t,rfl,rfl⟩|⟨x,t,rfl,rfl⟩|⟨rfl,rfl⟩
  .exact wpAny_pyHash_int h
  .exact wpAny_pyHash_str h
  .exact WY h
 eqBool:=λ{A} {E} {s} {a} {b} {u} {v} {Q} hu hv h=>by
  cases a with
  |some a=>
   cases b with
   |some b=>exact(xE prog w).eqBool hu hv (by rw[show decide (some a=some b)=decide (a=b)from by simp]at h;exact h)
   |none=>
    cases eq_of_beq hv;rw[show decide (some a=none)=false from dF0 λz=>nomatch z]at h;rcases zZ (show lO a u=true from hu)with⟨i,t,rfl,rfl⟩|⟨x,t,rfl,rfl⟩
    .exact SeqAt.EqAt.int_none i t _ _ _ _ h
    .exact SeqAt.EqAt.str_none x t _ _ _ _ h
  |none=>
   cases eq_of_beq hu
   cases b with
   |some b=>
    rw[show decide (none=some b)=false from dF0 λz=>nomatch z]at h;rcases zZ (show lO b v=true from hv)with⟨i,t,rfl,rfl⟩|⟨x,t,rfl,rfl⟩
    .exact SeqAt.EqAt.none_int i t _ _ _ _ h
    .exact SeqAt.EqAt.none_str x t _ _ _ _ h
   |none=>
    cases eq_of_beq hv;rw[show decide ((none:K3)=none)=true from dT0 rfl]at h;exact SeqAt.EqAt.same _ _ _ _ _ h
 «strs»:=λk x t v h=>by
  rcases lQ h with⟨i,u,rfl,e⟩|⟨y,u,rfl,e⟩|⟨rfl,e⟩
  .exact nomatch e
  .injection e with e1 _
   subst e1;cases v<;>rfl
  .exact nomatch e
def Hb(a b:K3):decide (NK.key a=NK.key b)=decide (a=b):=by
 by_cases h:a=b
 .subst h;simp
 .rw[dF0 h,dF0 λz=>h (NK.key.inj z)]
def Pp(a:K3)(b:List NK):decide (NK.key a=NK.tup b)=false:=dF0 λz=>nomatch z
def Pq(a:K3)(b:List NK):decide (NK.tup b=NK.key a)=false:=dF0 λz=>nomatch z
def Pr(a b:List NK):decide (NK.tup a=NK.tup b)=decide (a=b):=by
 by_cases h:a=b
 .subst h;simp
 .rw[dF0 h,dF0 λz=>h (NK.tup.inj z)]
def NC{k:K3}(h:(mk prog w).is k v=true): ∃x:V,RelV x v/\lP x=true:=by
 rcases lQ h with⟨i,t,rfl,rfl⟩|⟨x,t,rfl,rfl⟩|⟨rfl,rfl⟩
 .exact⟨.int i,⟨t,rfl⟩,rfl⟩
 .exact⟨.str x,⟨t,rfl⟩,rfl⟩
 .exact⟨.non,rfl,rfl⟩
def WZ{A:ŋ}{E:VP}{s:ŉ}{x y:List NK}{a b:Addr}{P:Fin->ŉ->Prop}
  (he: ∀k1∈x, ∀k2 u v (Q:Bool->ŉ->Prop),GE (mk prog w) s.heap k1 u->GE (mk prog w) s.heap k2 v->Q (decide (k1=k2)) s->wpAny (model prog w) A (eqBool u v) Q E s)
  (hx:GE (mk prog w) s.heap (.tup x) (.ref a)) (hy:GE (mk prog w) s.heap (.tup y) (.ref b)) (h:P (.done (.ret (.bool (decide (x=y))))) s):
  wpAny (model prog w) A (Builtin.«tuple.__eq__» ⟨[.ref a,.ref b],[]⟩) P E s:=by
 have S:=tK hy;obtain⟨_,oa,xs,na,e,N,_,M,U⟩:=xF.mp hx;cases e;obtain⟨_,Z,ys,nb,e,K,_,T,I⟩:=xF.mp hy;cases e;show wpAny _ _ (isInstance _ _ >>= _) _ _ s;refine wB (Ğ S isSubtype_tuple_tuple ?_);simp only[ń,fT,iF];refine wB (wpAny_tupleItemsOf N M ?_);refine wB (wpAny_tupleItemsOf K T ?_);refine wB ?_
 refine wpAny_forIn_list _
  (λrest r s'=>r.1=none/\s'=s/\ ∃F C i n,rest=List.zip i n/\(∀k∈F,k∈x)/\pQ _ s.heap F i/\pQ _ s.heap C n/\decide (F=C)=decide _/\(i.length==n.length)=(xs.size==ys.size))
  _ ?_ ?_ _ _ ⟨rfl,rfl,x,y,_,_,rfl,λk D=>D,U,I,rfl,by simp⟩
 .rintro⟨u,v⟩ rest r s' ⟨L,rfl,F,C,i,n,z,J,p,c,d,o⟩
  cases F with
  |nil=>rw[xY.mp p]at z;simp at z
  |cons k1 x''=>
   cases C with
   |nil=>rw[xY.mp c]at z;simp at z
   |cons k2 y''=>
    obtain⟨X,B,rfl,h1,q⟩:=yI.mp p;obtain⟨W,j,rfl,O,m⟩:=yI.mp c;simp only[Ĩ,List.cons.injEq,Prod.mk.injEq]at z;obtain⟨⟨rfl,rfl⟩,rfl⟩:=z;refine wB (he k1 (J k1 mF0) k2 _ _ _ h1 O ?_);by_cases D:k1=k2
    .subst D;rw[dT0 rfl];simp only[ń,fT,iF];refine wP ⟨rfl,rfl,x'',y'',B,j,rfl,λk D=>J k (mO _ D),q,m,?_,by simpa using o⟩;rw[<-d];by_cases G:x''=y''
     .simp[G]
     .simp[G]
    .rw[dF0 D];simp only[Bool.not_false,if_true];have Y:decide (x=y)=false:=by rw[<-d];simp[D]
     rw[Y]at h;exact wB (wP (wP (wP h)))
 .rintro⟨r1,r2⟩ s' ⟨L,rfl,F,C,i,n,z,J,p,c,d,o⟩;simp only at L;subst L;refine wP ?_
  have H:(xs.size==ys.size)=decide (x=y):=by
   rw[<-d, <-o]
   cases F with
   |nil=>
    rw[xY.mp p]
    cases C with
    |nil=>rw[xY.mp c];simp
    |cons k2 y''=>obtain⟨W,j,rfl,O,m⟩:=yI.mp c;simp
   |cons k1 x''=>
    obtain⟨X,B,rfl,h1,q⟩:=yI.mp p
    cases C with
    |nil=>rw[xY.mp c];simp
    |cons k2 y''=>obtain⟨W,j,rfl,O,m⟩:=yI.mp c;simp at z
  show P (.done (.ret (.bool _))) s';rw[H];exact h
theorem DV{n:Nat}: ∀{ks:List NK},rM ks<=n-> ∀k∈ks,iR k<=n
 |[],_,k,hk=>by simp at hk
 |x::xs,hx,k,hk=>by
  rw[sG]at hx;rcases mC.mp hk with rfl|hk
  .lia
  .exact DV #[0] k hk
theorem ND: ∀(n:Nat){A:ŋ}{E:VP}{s:ŉ}{x y:NK}{u v:Ŋ}{Q:Bool->ŉ->Prop},iR x<=n->A.units+n<cLine->GE (mk prog w) s.heap x u->GE (mk prog w) s.heap y v->Q (decide (x=y)) s->wpAny (model prog w) A (eqBool u v) Q E s
 |n,A,E,s,.key a,.key b,u,v,Q,_,_,hx,hy,h=>(mk prog w).eqBool (xS.mp hx) (xS.mp hy) (by rw[Hb]at h;exact h)
 |n,A,E,s,.key a,.tup b,u,v,Q,_,hu,hx,hy,h=>by obtain⟨z,i,d⟩:=NC (xS.mp hx);obtain⟨l,o,_,m,rfl,k,j,hd,_⟩:=xF.mp hy;rw[Pp]at h;exact(AW i d ⟨o,k,j,m,hd⟩ #[0]).2.1 prog w E Q h
 |n,A,E,s,.tup a,.key b,u,v,Q,_,hu,hx,hy,h=>by obtain⟨z,i,d⟩:=NC (xS.mp hy);obtain⟨l,o,_,m,rfl,k,j,hd,_⟩:=xF.mp hx;rw[Pq]at h;exact(AW i d ⟨o,k,j,m,hd⟩ #[0]).1 prog w E Q h
 |0,A,E,s,.tup a,.tup b,u,v,Q,hd,_,hx,hy,h=>by rw[aT]at hd;lia
 |n+1,A,E,s,.tup x,.tup y,u,v,Q,hd,hu,hx,hy,h=>by
  obtain⟨a,_,_,_,B,_⟩:=xF.mp hx;obtain⟨b,_,_,_,C,_⟩:=xF.mp hy;subst B C;rw[aT]at hd;rw[Pr]at h;unfold eqBool
  try with_reducible refine ù ?_
  show wpAny _ _ _ Q E s;by_cases c:(Value.ref a==Value.ref b)=true
  .rw[iP c];have e:a=b:=by have:=eq_of_beq c;injection this
   subst e;have:x=y:=NK.tup.inj (JO hx hy);subst this;exact wB (ĕ (wP (by simpa using h)))
  .rw[iN c]
   refine wB (wpAny_richCompare_same_room (tK hx) (tK hy) F.slot_tuple_eq
    (ì F.slot_tuple_eq (tK hx) F.entry_tuple_eq (WZ (λk1 p k2 u v Q h1 q r=>ND n (DV #[0] k1 p) (show A.units+1+n<cLine by lia) h1 q r) hx hy ⟨_,rfl,(λe=>nomatch e),Ķ h⟩) (F.args_tuple_eq_2 _ _)) #[0])
theorem SZ: ∀(n m:Nat){A:ŋ}{E:VP}{s:ŉ}{x:NK}{u:Ŋ}{Q:Bool->ŉ->Prop},iR x<=n->n<m->GE (mk prog w) s.heap x u->Q true s->wpAny (model prog w) A (eqIsQuiet m u) Q E s
 |n,m,A,E,s,.key k,u,Q,_,_,hx,h=>by rw[eqIsQuiet_byValue m ((mk prog w).byValue _ _ (xS.mp hx))];exact wP h
 |0,m,A,E,s,.tup ks,u,Q,hd,_,hx,h=>by rw[aT]at hd;lia
 |n+1,0,A,E,s,.tup ks,u,Q,hd,hm,hx,h=>by lia
 |n+1,m+1,A,E,s,.tup ks,u,Q,hdp,hm,hx,h=>by
  obtain⟨a,o,_,j,rfl,i,y,hd,hi⟩:=xF.mp hx;have q:s.TypeIs (.ref a) "tuple":=⟨o,i,y⟩
  rw[aT]at hdp;unfold eqIsQuiet;refine wB (wpAny_specialOf q F.slot_tuple_eq.lookup ?_);show wpAny _ _ _ _ _ s;refine wB (Ğ q isSubtype_tuple_tuple ?_);refine wB (č i hd ?_);refine wB ?_;show wpAny _ _ _ _ _ s;rw[<-Array.forIn_toList];refine wpAny_forIn_list _ (λrest r s'=>r.1=none/\s'=s/\ ∃left,(∀k∈left,k∈ks)/\pQ _ s.heap left rest) _ ?_ ?_ _ _ ⟨rfl,rfl,ks,λk d=>d,hi⟩
  .rintro v rest r s' ⟨p,rfl,left,b,c⟩
   cases left with
   |nil=>rw[xY]at c;cases c
   |cons k left=>
    obtain⟨D,B,e,h1,z⟩:=yI.mp c;cases e;refine wB (SZ n m (DV #[0] k (b k mF0)) #[0] h1 ?_);exact wP ⟨rfl,rfl,left,λk d=>b k (mO _ d),z⟩
  .rintro⟨C,G⟩ s' ⟨p,rfl,_⟩;subst p;exact wP h
end
def zU(prog:Ō)(w:World):HeapKind prog w NK where
 is:=λh k a=>GE (mk prog w) h k (.ref a)/\iR k<=4
 hash:=tI (mk prog w)
 draws:=DS
 room:=λA=>A.units+4<cLine
 inj:=λhx hy=>JO hx.1 hy.1
 keeps:=λx ho hd hs=>⟨DT (λa o' items n e q=>(hs.2 a λz=>by subst z;rw[ho]at e;cases e;rw[hd]at q;cases q).trans e) x.1,x.2⟩
 pyHash:=λhu hk h=>NB 4 hk.2 hu hk.1 h
 eqBool:=λhu hx hy h=>ND 4 hx.2 hu hx.1 hy.1 h
 quiet:=λhk h=>SZ 4 8 hk.2 (by decide) hk.1 h
noncomputable def DN(P:Ō)(w:World)(a:Addr)(xs:List (NK×Addr×Ŋ)):HO:=
 .ext λh=>xs.length<=sizeLine/\(a==sysModules)=false/\ ∃o es ep,h.get? a=some o/\o.ExactDict/\o.data=.dict es ep/\es.toList=xs.map (entryOfKey (zU P w))/\(xs.map (·.1)).Nodup
end M
end L2
namespace L2
open PySem PySem.Spec PyProof.Rows
def Fly(h:Heap)(e T:Addr)(cls:Ŋ)(d:Option Addr)(c:Ŋ):Prop:=
 ∃a vs b ts,h.get? e=some a/\a.cls=cls/\a.dict=d/\a.data=.fields vs/\vs[1]? =some (.ref T)/\T≠e/\h.get? T=some b/\b.data=.fields ts/\ts[3]? =some c/\vs[2]? =some .none
structure Mvd(fs:B6)(e T:Addr)(h h':Heap):Prop where
 keep: ∀b o,b≠e->b≠T->b∉fs->h.get? b=some o->h'.get? b=some o
 slot: ∀b o,b≠e->b≠T->h.get? b=some o-> ∃sl,h'.get? b=some {o with slots:=sl}
 there: ∀b o,h.get? b=some o-> ∃o',h'.get? b=some o'
def Mvd.new{fs:B6}{e T i:Addr}{h h1 d:Heap}(a:Mvd fs e T h h1)(n:h.get? i=none)(b:Mvd fs e i h1 d):Mvd fs e T h d:=by
 have ne: ∀c o,h.get? c=some o->c≠i:=λc o q z=>by rw[z,n]at q;cases q
 exact⟨λc o h1 d m q=>b.keep c o h1 (ne c o q) m (a.keep c o h1 d m q),λc o h1 d q=>by obtain⟨sl,j⟩:=a.slot c o h1 d q;obtain⟨k,p⟩:=b.slot c _ h1 (ne c o q) j;exact⟨k,p⟩,λc o q=>let ⟨o',j⟩:=a.there c o q;b.there c o' j⟩
def CXe(P:Ō)(w:World):WN:=λa H s E x s'=> ∃e T C d H',x=.ref e/\s'.os=s.os/\AllBare s'.gens/\Un (WI a) [] H H' s.heap s'.heap/\HOk P w H' s'.heap/\Fly s'.heap e T (.ref C) d .none/\
 s.heap.get? e=none/\s.heap.get? T=none/\H' e=none/\H' T=none/\E (.ref C) d H'
noncomputable abbrev A5:List Value:=[.type "ValueError",.type "Exception",.type "BaseException",.type "object"]
noncomputable def qn:List Str:=["__class__","__getattribute__","__getattr__","__setattr__","place","number"]
end L2
namespace L2
namespace M
open PySem PySem.Spec PyProof.Rows
variable{H H' H0:Hp}{α α':B6}{v:V}{β γ τ:Type}{Q:VP}{xs:List V}{j:Nat}{its:B0}{o:HO}{es:C5}{tg:Expr}{σ:St}
inductive MV where
 |non|bl (b:Bool)|int (i:Int)|str (x:Db)|tup (ds:List MV)|scr (ds:List MV)|loc (l:Nat)|typ (n:String)|obj (c:Str) (ns:B7) (ds:List MV)
abbrev C8:=List MV
abbrev C9:=Option MV
abbrev E2:=List (Nat×List MV)
abbrev E3:=List (MV×MV)
variable{kvs:E3}
abbrev E4:=List (List MV)
instance:Inhabited MV:=⟨.non⟩
inductive MO where
 |lst (ds:C8)|dic (kvs:E3)|ins (c:Str) (fs:List (Str×MV))|rcd (c:Str) (fs:List (Str×MV))|fdc (kvs:E3)
abbrev Sto:=List MO
variable{S T S':Sto}
def SqF(K:C6)(H:Hp)(a:Addr)(xs:List V):Prop:=
 (∃o,H a=some (.frz o (.lst xs)))\/
  ∃(o:Obj)(its:B0)(n:Nat),K.lookup a=some o/\o.cls=.type "list"/\o.dict=none/\o.data=.seq its n/\its.size<=sizeLine/\Vals xs its.toList
def SqF.l{K:C6}{a:Addr}(h:SqF K H a xs):SqL K H a xs:=by
 rcases h with⟨o,h⟩|h
 .exact .inl (.inr ⟨o,h⟩)
 .exact .inr h
mutual
def Den(K:C6)(α:B6)(H:Hp):MV->V->Prop
 |.non,v=>v=.non
 |.bl b,v=>v=.bl b
 |.int i,v=>v=.int i
 |.str x,v=>v=.str (fR x)
 |.tup ds,v=> ∃a vs,v=.ref a/\SqT K H a vs/\DenL K α H ds vs
 |.scr ds,v=> ∃a vs,v=.ref a/\SqF K H a vs/\DenL K α H ds vs
 |.loc l,v=> ∃a,v=.ref a/\α[l]? =some a
 |.typ n,v=>v=.ty n
 |.obj c ns ds,v=> ∃a C d vs o,v=.ref a/\H a=some (.frz o (.ins C d (ns.zip vs)))/\PySem.W.nsIn K mainGlobals c=some (some (.ref C))/\(PySem.W.clsIn K C).map (·.name)=some c/\ns.length=vs.length/\DenL K α H ds vs
def DenL(K:C6)(α:B6)(H:Hp):List MV->List V->Prop
 |[],vs=>vs=[]
 |d::ds,vs=> ∃v r,vs=v::r/\Den K α H d v/\DenL K α H ds r
end
structure Ex0(α:B6)(H:Hp)(α':B6)(H':Hp):Prop where
 pre: ∃t,α'=α++t
 tup: ∀b xs,H b=some (.tup xs)->H' b=some (.tup xs)
 frz: ∀b o u,H b=some (.frz o u)->H' b=some (.frz o u)
structure Ext(α:B6)(H:Hp)(α':B6)(H':Hp):Prop extends Ex0 α H α' H' where
 new: ∀b∈α',b∈α\/H b=none
 keep: ∀b o,H b=some o->b∉α->H' b=some o
 has: ∀b o,H b=some o-> ∃o',H' b=some o'
section
variable{K:C6}{α α' α'':B6}{H H' H'':Hp}
def Ext.refl(α:B6)(H:Hp):Ext α H α H:=⟨⟨⟨[],by simp⟩,λ_ _ h=>h,λ_ _ _ h=>h⟩,λb h=>.inl h,λ_ _ h _=>h,λ_ o h=>⟨o,h⟩⟩
def Ex0.grow(α t:B6)(H:Hp):Ex0 α H (α++t) H:=⟨⟨t,rfl⟩,λ_ _ h=>h,λ_ _ _ h=>h⟩
def Ext.free(x:Ext α H α' H'){b:Addr}(h:H' b=none):H b=none:=by
 cases e:H b with
 |none=>rfl
 |some o=>obtain⟨o',h'⟩:=x.has b o e;rw[h]at h';cases h'
def Ext.out(x:Ext α H α' H'){b:Addr}(h:H b=some o)(n:b∉α):b∉α':=λz=>by
 rcases x.new b z with z|z
 .exact n z
 .rw[h]at z;cases z
def Ext.trans(x:Ext α H α' H')(y:Ext α' H' α'' H''):Ext α H α'' H'' where
 pre:=by obtain⟨t,rfl⟩:=x.pre;obtain⟨u,rfl⟩:=y.pre;exact⟨_,by rw[aA]⟩
 new:=λb h=>(y.new b h).elim (x.new b) λz=>.inr (x.free z)
 keep:=λb o h n=>y.keep b o (x.keep b o h n) (x.out h n)
 has:=λb o h=>let ⟨o',h'⟩:=x.has b o h;y.has b o' h'
 tup:=λb xs h=>y.tup b xs (x.tup b xs h)
 frz:=λb o u h=>y.frz b o u (x.frz b o u h)
def Ex0.at(x:Ex0 α H α' H'){l:Nat}{a:Addr}(h:α[l]? =some a):α'[l]? =some a:=by obtain⟨t,rfl⟩:=x.pre;rw[á (gS.mp h).1];exact h
def Ex0.sqT(x:Ex0 α H α' H'){a:Addr}{vs:List V}(q:SqT K H a vs):SqT K H' a vs:=by
 rcases q with(q|⟨o,q⟩)|q
 .exact .inl (.inl (x.tup a vs q))
 .exact .inl (.inr ⟨o,x.frz a o _ q⟩)
 .exact .inr q
def Ex0.sqF(x:Ex0 α H α' H'){a:Addr}{vs:List V}(q:SqF K H a vs):SqF K H' a vs:=by
 rcases q with⟨o,q⟩|q
 .exact .inl ⟨o,x.frz a o _ q⟩
 .exact .inr q
mutual
theorem Den.ex0(x:Ex0 α H α' H'): ∀{d:MV}{v:V},Den K α H d v->Den K α' H' d v
 |.non,_,q=>by unfold Den at q ⊢; exact q
 |.bl _,_,q=>by unfold Den at q ⊢; exact q
 |.int _,_,q=>by unfold Den at q ⊢; exact q
 |.str _,_,q=>by unfold Den at q ⊢; exact q
 |.typ _,_,q=>by unfold Den at q ⊢; exact q
 |.obj c ns ds,_,q=>by unfold Den at q ⊢;obtain⟨a,C,k,vs,o,e,h,b,i,j,l⟩:=q;exact⟨a,C,k,vs,o,e,x.frz a _ _ h,b,i,j,DenL.ex0 x l⟩
 |.loc _,_,q=>by unfold Den at q ⊢;obtain⟨a,e,h⟩:=q;exact⟨a,e,x.at h⟩
 |.tup ds,_,q=>by unfold Den at q ⊢;obtain⟨a,vs,e,s,l⟩:=q;exact⟨a,vs,e,x.sqT s,DenL.ex0 x l⟩
 |.scr ds,_,q=>by unfold Den at q ⊢;obtain⟨a,vs,e,s,l⟩:=q;exact⟨a,vs,e,x.sqF s,DenL.ex0 x l⟩
theorem DenL.ex0(x:Ex0 α H α' H'): ∀{ds:C8}{vs:List V},DenL K α H ds vs->DenL K α' H' ds vs
 |[],_,q=>by unfold DenL at q ⊢; exact q
 |d::ds,_,q=>by unfold DenL at q ⊢;obtain⟨v,r,e,a,l⟩:=q;exact⟨v,r,e,Den.ex0 x a,DenL.ex0 x l⟩
end
def Den.ext(x:Ext α H α' H'){d:MV}(q:Den K α H d v):Den K α' H' d v:=q.ex0 x.toEx0
def DenL.ext(x:Ext α H α' H'){d:C8}{v:List V}(q:DenL K α H d v):DenL K α' H' d v:=q.ex0 x.toEx0
theorem tL:Den K α H .non .non:=by unfold Den;rfl
theorem dC(b:Bool):Den K α H (.bl b) (.bl b):=by unfold Den;rfl
theorem yV(i:Int):Den K α H (.int i) (.int i):=by unfold Den;rfl
theorem mN(x:Db):Den K α H (.str x) (.str (fR x)):=by unfold Den;rfl
theorem TB(n:String):Den K α H (.typ n) (.ty n):=by unfold Den;rfl
def nB{ds:C8}{a:Addr}{vs:List V}(s:SqT K H a vs)(l:DenL K α H ds vs):Den K α H (.tup ds) (.ref a):=by unfold Den;exact⟨a,vs,rfl,s,l⟩
def TC{ds:C8}{a:Addr}{vs:List V}(s:SqF K H a vs)(l:DenL K α H ds vs):Den K α H (.scr ds) (.ref a):=by unfold Den;exact⟨a,vs,rfl,s,l⟩
def mP{l:Nat}{a:Addr}(h:α[l]? =some a):Den K α H (.loc l) (.ref a):=by unfold Den;exact⟨a,rfl,h⟩
def dD(d:Den K α H .non v):v=.non:=by unfold Den at d;exact d
def oY{b:Bool}(d:Den K α H (.bl b) v):v=.bl b:=by unfold Den at d;exact d
def xI{i:Int}(d:Den K α H (.int i) v):v=.int i:=by unfold Den at d;exact d
def xK{x:Db}(d:Den K α H (.str x) v):v=.str (fR x):=by unfold Den at d;exact d
def Hc{c:Str}{b:B7}{ds:C8}{a C d:Addr}{vs:List V}{o:Obj}(h:H a=some (.frz o (.ins C d (b.zip vs))))(e:PySem.W.nsIn K mainGlobals c=some (some (.ref C)))(i:(PySem.W.clsIn K C).map (·.name)=some c)(j:b.length=vs.length)(l:DenL K α H ds vs):Den K α H (.obj c b ds) (.ref a):=by unfold Den;exact⟨a,C,d,vs,o,rfl,h,e,i,j,l⟩
def bN{c:Str}{b:B7}{ds:C8}(d:Den K α H (.obj c b ds) v): ∃a C e vs o,v=.ref a/\H a=some (.frz o (.ins C e (b.zip vs)))/\PySem.W.nsIn K mainGlobals c=some (some (.ref C))/\(PySem.W.clsIn K C).map (·.name)=some c/\b.length=vs.length/\DenL K α H ds vs:=by unfold Den at d;exact d
def dE{n:String}(d:Den K α H (.typ n) v):v=.ty n:=by unfold Den at d;exact d
def yO{ds:C8}(d:Den K α H (.tup ds) v): ∃a vs,v=.ref a/\SqT K H a vs/\DenL K α H ds vs:=by unfold Den at d;exact d
def bO{ds:C8}(d:Den K α H (.scr ds) v): ∃a vs,v=.ref a/\SqF K H a vs/\DenL K α H ds vs:=by unfold Den at d;exact d
def gG{l:Nat}(d:Den K α H (.loc l) v): ∃a,v=.ref a/\α[l]? =some a:=by unfold Den at d;exact d
theorem zW:DenL K α H [] []:=by unfold DenL;rfl
def zQ{d:MV}{ds:C8}{vs:List V}(a:Den K α H d v)(l:DenL K α H ds vs):DenL K α H (d::ds) (v::vs):=by unfold DenL;exact⟨v,vs,rfl,a,l⟩
def DenL.uncons{d:MV}{ds:C8}{vs:List V}(l:DenL K α H (d::ds) vs): ∃v r,vs=v::r/\Den K α H d v/\DenL K α H ds r:=by unfold DenL at l;exact l
def DenL.isnil{vs:List V}(l:DenL K α H [] vs):vs=[]:=by unfold DenL at l;exact l
theorem DenL.length: ∀{ds:C8}{vs:List V},DenL K α H ds vs->vs.length=ds.length
 |[],_,q=>by rw[q.isnil];rfl
 |d::ds,_,q=>by obtain⟨v,r,rfl,_,l⟩:=q.uncons;rw[lC,lC,DenL.length l]
theorem DenL.append: ∀{ds es:C8}{vs us:List V},DenL K α H ds vs->DenL K α H es us->DenL K α H (ds++es) (vs++us)
 |[],_,_,_,q,l=>by rw[q.isnil];exact l
 |d::ds,_,_,_,q,l=>by obtain⟨v,r,rfl,a,b⟩:=q.uncons;exact zQ a (DenL.append b l)
theorem DenL.drop: ∀{ds:C8}{vs:List V}(n:Nat),DenL K α H ds vs->DenL K α H (ds.drop n) (vs.drop n)
 |_,_,0,q=>q
 |[],_,n+1,q=>by rw[q.isnil];exact zW
 |d::ds,_,n+1,q=>by obtain⟨v,r,rfl,_,l⟩:=q.uncons;exact DenL.drop n l
theorem DenL.take: ∀{ds:C8}{vs:List V}(n:Nat),DenL K α H ds vs->DenL K α H (ds.take n) (vs.take n)
 |_,_,0,q=>zW
 |[],_,n+1,q=>by rw[q.isnil];exact zW
 |d::ds,_,n+1,q=>by obtain⟨v,r,rfl,a,l⟩:=q.uncons;exact zQ a (DenL.take n l)
theorem DenL.set{d:MV}(a:Den K α H d v): ∀{ds:C8}{vs:List V}(n:Nat),DenL K α H ds vs->DenL K α H (ds.set n d) (vs.set n v)
 |[],_,_,q=>by rw[q.isnil];exact zW
 |e::ds,_,0,q=>by obtain⟨c,r,rfl,b,l⟩:=q.uncons;exact zQ a l
 |e::ds,_,n+1,q=>by obtain⟨c,r,rfl,b,l⟩:=q.uncons;exact zQ b (DenL.set a n l)
theorem DenL.get: ∀{ds:C8}{vs:List V}{i:Nat}{v:V},DenL K α H ds vs->vs[i]? =some v-> ∃d,ds[i]? =some d/\Den K α H d v
 |[],_,_,_,q,e=>by rw[q.isnil]at e;simp at e
 |d::ds,_,0,_,q,e=>by obtain⟨v,r,rfl,a,l⟩:=q.uncons;simp at e;subst e;exact⟨d,rfl,a⟩
 |d::ds,_,i+1,_,q,e=>by obtain⟨v,r,rfl,a,l⟩:=q.uncons;obtain⟨c,h1,b⟩:=DenL.get l (by simpa using e);exact⟨c,by simpa using h1,b⟩
def DenL.at{ds:C8}{vs:List V}{i:Nat}{d:MV}(q:DenL K α H ds vs)(e:ds[i]? =some d): ∃v,vs[i]? =some v/\Den K α H d v:=by
 have hi:=(gS.mp e).1;have a:i<vs.length:=by rw[q.length];exact hi
 obtain⟨c,h1,b⟩:=q.get (gE a);rw[e]at h1;cases h1;exact⟨_,gE a,b⟩
def DenL.cut{ds:C8}{vs:List V}(q:DenL K α H ds vs)(lo hi:C4):DenL K α H (fS ds lo hi) (WQ vs lo hi):=by unfold fS WQ;rw[q.length];exact(q.drop _).take _
theorem HK: ∀(a:Za),DenL K α H (a.map MV.int) (a.map V.int)
 |[]=>zW
 |b::bs=>zQ (yV b) (HK bs)
end
structure Gm where
 K:PySem.W.Frag
 mg:Str->Option Ŋ
 P:Ō
 w:World
abbrev _root_.L2.Cx.g(X:Cx):Gm:=⟨X.K,X.mg,X.prog,X.w⟩
inductive DenF(K:C6)(α:B6)(H:Hp):List (Str×MV)->List (Str×V)->Prop
 |nil:DenF K α H [] []
 |cons {x:Str} {d:MV} {v:V} {fs gs}:Den K α H d v->DenF K α H fs gs->DenF K α H ((x,d)::fs) ((x,v)::gs)
theorem DenF.ex0{K:C6}(x:Ex0 α H α' H'): ∀{fs gs},DenF K α H fs gs->DenF K α' H' fs gs
 |_,_,.nil=>.nil
 |_,_,.cons a l=>.cons (a.ex0 x) (DenF.ex0 x l)
def KeyD:MV->Key->Prop
 |.int i,k=>k=.inl i
 |.str x,k=>k=.inr (fR x)
 |_,_=>False
inductive DenK(K:C6)(α:B6)(H:Hp):List (MV×MV)->List (Key×V)->Prop
 |nil:DenK K α H [] []
 |cons {k:MV} {k':Key} {d:MV} {v:V} {fs gs}:KeyD k k'->Den K α H d v->DenK K α H fs gs->DenK K α H ((k,d)::fs) ((k',v)::gs)
theorem DenK.ex0{K:C6}(x:Ex0 α H α' H'): ∀{fs gs},DenK K α H fs gs->DenK K α' H' fs gs
 |_,_,.nil=>.nil
 |_,_,.cons k a l=>.cons k (a.ex0 x) (DenK.ex0 x l)
mutual
def yZ:MV->Option NK
 |.non=>some (.key none)
 |.int i=>some (.key (some (.inl i)))
 |.str x=>some (.key (some (.inr (fR x))))
 |.tup ds=>(kY ds).map .tup
 |_=>none
def kY:List MV->Option (List NK)
 |[]=>some []
 |d::ds=>(yZ d).bind λk=>(kY ds).map (k::·)
end
inductive DenN(K:C6)(α:B6)(H:Hp):List (MV×MV)->List (NK×Addr×Ŋ)->Prop
 |nil:DenN K α H [] []
 |cons {k:MV} {nk:NK} {a:Addr} {d:MV} {v:V} {u:Ŋ} {fs xs}:yZ k=some nk->iR nk<=4->Den K α H k (.ref a)->Den K α H d v->RelV v u->DenN K α H fs xs->DenN K α H ((k,d)::fs) ((nk,a,u)::xs)
theorem DenN.ex0{K:C6}(x:Ex0 α H α' H'): ∀{fs xs},DenN K α H fs xs->DenN K α' H' fs xs
 |_,_,.nil=>.nil
 |_,_,.cons k e a d r l=>.cons k e (a.ex0 x) (d.ex0 x) r (DenN.ex0 x l)
def ObD(g:Gm)(α:B6)(H:Hp)(a:Addr):MO->Prop
 |.lst ds=> ∃vs,H a=some (.lst vs)/\DenL g.K α H ds vs
 |.dic kvs=>(∃e,H a=some (.dK e)/\DenK g.K α H kvs e)\/ ∃xs,H a=some (DN g.P g.w a xs)/\DenN g.K α H kvs xs
 |.ins c fs=> ∃C gs,g.mg c=some (.ref C)/\DenF g.K α H fs gs/\
   ∃b,H a=some (.frz b (.ext λh=>h.get? a=some b))/\b.cls=.ref C/\(fs=[]\/ ∃d od,b.dict=some d/\H d=some (.frz od (.xd gs))/\ ∃vs,b.data=.fields vs)
 |.rcd c fs=> ∃C d gs,PySem.W.nsIn g.K mainGlobals c=some (some (.ref C))/\H a=some (.ins C d gs)/\DenF g.K α H fs gs
 |.fdc kvs=> ∃b xs,H a=some (.frz b (DN g.P g.w a xs))/\DenN g.K α H kvs xs
def ObD.there{g:Gm}{a:Addr}{o:MO}(h:ObD g α H a o): ∃b,H a=some b/\(∀xs,b≠.tup xs)/\ ∀e u,b=.frz e u-> ∃d,u=.ext d:=by
 cases o with
 |lst ds=>obtain⟨vs,h,_⟩:=h;exact⟨_,h,(λxs z=>by cases z),λ_ _ z=>by cases z⟩
 |dic ds=>
  rcases h with⟨vs,h,_⟩|⟨vs,h,_⟩
  .exact⟨_,h,(λxs z=>by cases z),λ_ _ z=>by cases z⟩
  .exact⟨_,h,(λxs z=>by cases z),λ_ _ z=>by cases z⟩
 |ins c ds=>
  obtain⟨_,_,_,_,_,h,_⟩:=h;exact⟨_,h,(λxs z=>by cases z),λ_ _ z=>by cases z;exact⟨_,rfl⟩⟩
 |rcd c ds=>obtain⟨_,_,_,_,h,_⟩:=h;exact⟨_,h,(λxs z=>by cases z),λ_ _ z=>by cases z⟩
 |fdc kvs=>obtain⟨_,_,h,_⟩:=h;exact⟨_,h,(λxs z=>by cases z),λ_ _ z=>by cases z;exact⟨_,rfl⟩⟩
def ObD.move{g:Gm}{a:Addr}{o:MO}(h:ObD g α H a o)(x:Ex0 α H α' H')(e:H' a=H a):ObD g α' H' a o:=by
 cases o with
 |lst ds=>obtain⟨vs,h,l⟩:=h;exact⟨vs,e.trans h,l.ex0 x⟩
 |dic ds=>
  rcases h with⟨vs,h,l⟩|⟨vs,h,l⟩
  .exact .inl ⟨vs,e.trans h,l.ex0 x⟩
  .exact .inr ⟨vs,e.trans h,l.ex0 x⟩
 |ins c ds=>
  obtain⟨C,gs,m,l,d,h,i,n⟩:=h;exact⟨C,gs,m,l.ex0 x,d,e.trans h,i,n.imp id λ⟨b,od,h1,j,k⟩=>⟨b,od,h1,x.frz _ _ _ j,k⟩⟩
 |rcd c ds=>obtain⟨C,b,gs,m,h,l⟩:=h;exact⟨C,b,gs,m,e.trans h,l.ex0 x⟩
 |fdc kvs=>obtain⟨d,xs,h,l⟩:=h;exact⟨d,xs,e.trans h,l.ex0 x⟩
structure Wd(g:Gm)(α:B6)(S:Sto)(H:Hp):Prop where
 len:α.length=↑2
 nd:α.Nodup
 obj: ∀(l:Nat)(a:Addr)(o:MO),α[l]? =some a->S[l]? =some o->ObD g α H a o
section
variable{g:Gm}{α:B6}{S:Sto}{H:Hp}
def Wd.at(w:Wd g α S H){l:Nat}{o:MO}(h:S[l]? =some o): ∃a,α[l]? =some a/\ObD g α H a o:=by
 have b:l<α.length:=by rw[w.len];exact(gS.mp h).1
 exact⟨α[l],gE b,w.obj l _ o (gE b) h⟩
def Wd.of(w:Wd g α S H){l:Nat}{a:Addr}(h:α[l]? =some a): ∃o,S[l]? =some o/\ObD g α H a o:=by
 have b:l<S.length:=by rw[<-w.len];exact(gS.mp h).1
 exact⟨S[l],gE b,w.obj l a _ h (gE b)⟩
def Wd.mem(w:Wd g α S H){a:Addr}(h:a∈α): ∃b,H a=some b/\(∀xs,b≠.tup xs)/\ ∀e u,b=.frz e u-> ∃c,u=.ext c:=by obtain⟨l,d⟩:=getElem?_of_mem h;obtain⟨o,_,q⟩:=w.of d;exact q.there
def Wd.newx(w:Wd g α S H){p:Addr}(hp:H p=none):Ext α H α (xR H p o) where
 pre:=⟨[],by simp⟩
 new:=λb h=>.inl h
 keep:=λb o h _=>by rw[zG (zO h hp)];exact h
 has:=λb o h=>⟨o,by rw[zG (zO h hp)];exact h⟩
 tup:=λb o h=>by rw[zG (zO h hp)];exact h
 frz:=λb o u h=>by rw[zG (zO h hp)];exact h
def Wd.fresh(w:Wd g α S H){p:Addr}(a:H p=none):p∉α:=λz=>by obtain⟨_,h,_⟩:=w.mem z;rw[a]at h;cases h
def Wd.new(w:Wd g α S H){p:Addr}(b:H p=none):Wd g α S (xR H p o):=
 ⟨w.len,w.nd,λl a d h1 c=>(w.obj l a d h1 c).move (w.newx b).toEx0 (zG λz=>w.fresh b (by rw[<-z];exact è h1))⟩
def Fc{ho:HO}{a:Addr}(h:H a=some ho)(n: ∀b u,ho≠.frz b u:=by intro _ _ z;cases z): ∀b u,H a≠some (.frz b u):=λb u z=>n b u (ä (h.symm.trans z))
def Wd.writex(w:Wd g α S H){l:Nat}{a:Addr}(h:α[l]? =some a)(nf: ∀ob u,H a≠some (.frz ob u)):Ext α H α (xR H a o) where
 pre:=⟨[],by simp⟩
 new:=λb h=>.inl h
 keep:=λb o e n=>by rw[zG λz=>n (by rw[z];exact è h)];exact e
 has:=λb o e=>by
  by_cases z:b=a
  .subst z;exact⟨_,zS⟩
  .exact⟨o,by rw[zG z];exact e⟩
 tup:=λb xs e=>by obtain⟨ho,h1,h2,_⟩:=w.mem (è h);rw[zG λz=>h2 xs (by subst z;rw[e]at h1;exact(ä h1).symm)];exact e
 frz:=λb ob u e=>by rw[zG λz=>nf ob u (by rw[<-z];exact e)];exact e
def Wd.ne(w:Wd g α S H){l m:Nat}{a b:Addr}(h:α[l]? =some a)(h':α[m]? =some b)(n:l≠m):a≠b:=by rintro rfl;obtain⟨h1,c⟩:=gS.mp h;obtain⟨e,d⟩:=gS.mp h';exact n ((getElem_inj w.nd).mp (c.trans d.symm))
def Wd.write(w:Wd g α S H){l:Nat}{a:Addr}{ob:MO}(h:α[l]? =some a)(nf: ∀ob u,H a≠some (.frz ob u))(q:ObD g α (xR H a o) a ob):Wd g α (S.set l ob) (xR H a o) where
 len:=by rw[Ą];exact w.len
 nd:=w.nd
 obj:=λm b ob' h1 h2=>by
  by_cases e:l=m
  .subst e;rw[h]at h1;have hl:l<S.length:=by rw[<-w.len];exact(gS.mp h).1
   rw[ė hl]at h2;rw[<-ä h1, <-ä h2];exact q
  .rw[Ģ e]at h2;exact(w.obj m b ob' h1 h2).move (w.writex h nf).toEx0 (zG (w.ne h1 h λz=>e z.symm))
def Wd.enterx(w:Wd g α S H){α0:B6}(x:Ext α0 H0 α H){b:Addr}(h0:H0 b=none)(n:b∉α):Ext α0 H0 (α++[b]) H where
 pre:=let ⟨t,e⟩:=x.pre;⟨_,by rw[e,aA]⟩
 new:=λc hc=>(é.mp hc).elim (x.new c) λz=>.inr (by rw[mS.mp z];exact h0)
 keep:=x.keep
 has:=x.has
 tup:=x.tup
 frz:=x.frz
theorem Wd.enter(w:Wd g α S H){b:Addr}{ds:C8}{vs:List V}(h:H b=some (.lst vs))(n:b∉α)(l:DenL g.K α H ds vs):Wd g (α++[b]) (S++[.lst ds]) H where
 len:=by rw[lA,lA,w.len];rfl
 nd:=Ĥ.mpr ⟨w.nd,by simp,λa ha c hc=>by rw[mS.mp hc];rintro rfl;exact n ha⟩
 obj:=λm a o h1 h2=>by
  by_cases hm:m<α.length
  .rw[á hm]at h1;rw[á (by rw[<-w.len];exact hm)]at h2;exact(w.obj m a o h1 h2).move (Ex0.grow α [b] H) rfl
  .have hm':m=α.length:=by
    have:=(gS.mp h1).1;rw[lA,lS]at this
    lia
   subst hm';rw[æ (à _),sub_self]at h1;rw[æ (by rw[w.len];exact à _),w.len,sub_self]at h2;cases h1;cases h2;exact⟨vs,h,l.ex0 (Ex0.grow α [b] H)⟩
end
inductive R(β:Type) where
 |ok (b:β) (S:Sto)|exc (c:Str) (fs:List (Str×MV)) (S:Sto)|no
def R.bind:R β->(β->Sto->R γ)->R γ
 |.ok b S,k=>k b S
 |.exc c fs S,_=>.exc c fs S
 |.no,_=>.no
theorem R.bind_ok(b:β)(S:Sto)(k:β->Sto->R γ):(R.ok b S).bind k=k b S:=rfl
inductive Er where
 |val (d:MV)|new (ds:C8)
variable{rs:List Er}
instance:Inhabited Er:=⟨.val .non⟩
def DenX(K:C6)(α:B6)(H:Hp):Er->V->Prop
 |.val d,v=>Den K α H d v
 |.new ds,v=> ∃b vs,v=.ref b/\H b=some (.lst vs)/\b∉α/\DenL K α H ds vs
def DenE(K:C6)(H:Hp)(α':B6)(H':Hp)(r:Er)(v:V):Prop:=DenX K α' H' r v/\match r with |.new _=> ∀a,v=.ref a->H a=none|_=>True
section
variable{K:C6}{α α':B6}{H H0 H':Hp}
def DenX.ext(x:Ext α H α' H'): ∀{r:Er}{v:V},DenX K α H r v->DenX K α' H' r v
 |.val d,_,q=>Den.ext x q
 |.new ds,_,⟨b,vs,e,h,n,l⟩=>⟨b,vs,e,x.keep b _ h n,x.out h n,l.ext x⟩
def DenE.val{d:MV}(q:Den K α' H' d v):DenE K H α' H' (.val d) v:=⟨q,trivial⟩
def DenE.back(c: ∀b,H b=none->H0 b=none){r:Er}(q:DenE K H α' H' r v):DenE K H0 α' H' r v:=by
 refine⟨q.1,?_⟩
 cases r with
 |new ds=>exact λa e=>c a (q.2 a e)
 |_=>trivial
def DenE.ext{α'':B6}{H'':Hp}(x:Ext α' H' α'' H''){r:Er}(q:DenE K H α' H' r v):DenE K H α'' H'' r v:=⟨q.1.ext x,q.2⟩
end
section
variable{K:C6}{α:B6}{H:Hp}{v:V}
def vI(d:DenX K α H (.val .non) v):v=.non:=dD (K:=K) (α:=α) (H:=H) d
def DW{b:Bool}(d:DenX K α H (.val (.bl b)) v):v=.bl b:=oY (K:=K) (α:=α) (H:=H) d
def yP{b:Int}(d:DenX K α H (.val (.int b)) v):v=.int b:=xI (K:=K) (α:=α) (H:=H) d
def bP{b:Db}(d:DenX K α H (.val (.str b)) v):v=.str (fR b):=xK (K:=K) (α:=α) (H:=H) d
def Aj{b:String}(d:DenX K α H (.val (.typ b)) v):v=.ty b:=dE (K:=K) (α:=α) (H:=H) d
def Ps{c:Str}{b:B7}{ds:C8}(d:DenX K α H (.val (.obj c b ds)) v): ∃a C e vs o,v=.ref a/\H a=some (.frz o (.ins C e (b.zip vs)))/\PySem.W.nsIn K mainGlobals c=some (some (.ref C))/\(PySem.W.clsIn K C).map (·.name)=some c/\b.length=vs.length/\DenL K α H ds vs:=bN d
def dF{ds:C8}(d:DenX K α H (.val (.tup ds)) v): ∃a vs,v=.ref a/\SqT K H a vs/\DenL K α H ds vs:=yO d
def DX{ds:C8}(d:DenX K α H (.val (.scr ds)) v): ∃a vs,v=.ref a/\SqF K H a vs/\DenL K α H ds vs:=bO d
def aU{l:Nat}(d:DenX K α H (.val (.loc l)) v): ∃a,v=.ref a/\α[l]? =some a:=gG (K:=K) (H:=H) d
end
noncomputable def BA:List Er->List V->List Addr
 |.new _::rs,.ref b::vs=>b::BA rs vs
 |_::rs,_::vs=>BA rs vs
 |_,_=>[]
inductive ArgsE(K:C6)(H:Hp)(α':B6)(H':Hp):List Er->List V->Prop
 |nil:ArgsE K H α' H' [] []
 |cons {r v rs vs}:DenE K H α' H' r v->(∀ds b,r=.new ds->v=.ref b->b∉BA rs vs)->ArgsE K H α' H' rs vs->ArgsE K H α' H' (r::rs) (v::vs)
theorem ArgsE.nones{K:C6}: ∀{rs vs},ArgsE K H α' H' rs vs-> ∀b∈BA rs vs,H b=none
 |_,_,.nil=>λb h=>by simp[BA]at h
 |.val d::_,v::_,.cons a n l=>λb h=>ArgsE.nones l b (by simpa [BA]using h)
 |.new ds::_,v::_,.cons a n l=>λb h=>by
  obtain⟨c,vs,rfl,_⟩:=a.1;rcases mC.mp h with rfl|h
  .exact a.2 _ rfl
  .exact ArgsE.nones l b h
theorem ArgsE.back{K:C6}(c: ∀b,H b=none->H0 b=none): ∀{rs vs},ArgsE K H α' H' rs vs->ArgsE K H0 α' H' rs vs
 |_,_,.nil=>.nil
 |_,_,.cons a n l=>.cons (a.back c) n (ArgsE.back c l)
theorem ArgsE.length{K:C6}: ∀{rs vs},ArgsE K H α' H' rs vs->vs.length=rs.length
 |_,_,.nil=>rfl
 |_,_,.cons _ _ l=>by rw[lC,lC,ArgsE.length l]
class Dn (β:Type) (τ:outParam Type) where
 d:Gm->Hp->List Addr->Sto->Hp->β->τ->Prop
 back: ∀{g:Gm}{H H0:Hp}{α':B6}{S':Sto}{H':Hp}{b:β}{u:τ},(∀b,H b=none->H0 b=none)->d g H α' S' H' b u->d g H0 α' S' H' b u
instance:Dn Er V:=⟨λg H α' _ H' r v=>DenE g.K H α' H' r v,λa q=>q.back a⟩
instance:Dn Bool Bool:=⟨λ_ _ _ _ _ b u=>u=b,λ_ q=>q⟩
instance:Dn (List Er) (List V):=⟨λg H α' _ H' r v=>ArgsE g.K H α' H' r v,λa q=>q.back a⟩
instance:Dn (Option Int) (Option Int):=⟨λ_ _ _ _ _ b u=>u=b,λ_ q=>q⟩
abbrev XW:=Str->List (Str×MV)->Sto->List Addr->Hp->Prop
abbrev W0:XW:=λ_ _ _ _ _=>False
def Post[Dn β τ](g:Gm)(W:XW)(α:B6)(H:Hp):R β->(τ->Hp->Prop)->Prop
 |.ok b S,Q=> ∀u α' H',Ext α H α' H'->Wd g α' S H'->Dn.d g H α' S H' b u->Q u H'
 |.exc c fs S,_=> ∀α' H',Ext α H α' H'->Wd g α' S H'->W c fs S α' H'
 |.no,_=>False
section
variable{β τ γ υ:Type}[Dn β τ][Dn γ υ]{g:Gm}{W:XW}{α α':B6}{H H':Hp}
def Post.shift(x:Ext α H α' H'): ∀{m:R β}{Q:τ->Hp->Prop},Post g W α H m Q->Post g W α' H' m Q
 |.ok b S,Q,q=>λu a e d i j=>q u a e (x.trans d) i (Dn.back (λb h=>x.free h) j)
 |.exc c fs S,_,q=>λa e d i=>q a e (x.trans d) i
 |.no,_,q=>q
def Post.bind{m:R β}{k:β->Sto->R γ}{Q:υ->Hp->Prop}{e:τ->Hp->Prop}(q:Post g W α H (m.bind k) Q)
  (f: ∀u b S1 a H1,m=.ok b S1->Ext α H a H1->Wd g a S1 H1->Dn.d g H a S1 H1 b u->Post g W α H (k b S1) Q->e u H1):Post g W α H m e:=by
 cases m with
 |ok b S=>exact λu a H1 x w d=>f u b S a H1 rfl x w d q
 |exc c fs S=>exact q
 |no=>exact q
def Post.here{b:β}{Q:τ->Hp->Prop}{u:τ}(q:Post g W α H (.ok b S) Q)(w:Wd g α S H)(d:Dn.d g H α S H b u):Q u H:=q u α H (Ext.refl α H) w d
end
def Post.val{g:Gm}{W:XW}{d:MV}{Q:VK}(q:Post g W α H (.ok (Er.val d) S) Q)(w:Wd g α S H)(k:Den g.K α H d v):Q v H:=q.here w (DenE.val k)
def Post.newl{g:Gm}{W:XW}{ds:C8}{Q:VK}{vs:List V}{p:Addr}(q:Post g W α H (.ok (Er.new ds) S) Q)(w:Wd g α S H)(b:H p=none)(l:DenL g.K α H ds vs):Q (.ref p) (xR H p (.lst vs)):=
 q _ α _ (w.newx b) (w.new b) ⟨⟨p,vs,rfl,zS,w.fresh b,l.ext (w.newx b)⟩,λa e=>by cases e;exact b⟩
def Post.newt{g:Gm}{W:XW}{ds:C8}{Q:VK}{vs:List V}{p:Addr}(q:Post g W α H (.ok (Er.val (.tup ds)) S) Q)(w:Wd g α S H)(a:H p=none)(l:DenL g.K α H ds vs):Q (.ref p) (xR H p (.tup vs)):=
 q _ α _ (w.newx a) (w.new a) (.val (nB (.of zS) (l.ext (w.newx a))))
abbrev Rho:=List (Option MV)
variable{gf:MV->Rho->Sto->R Rho}{ρ:Rho}{g2:List MV->Rho->Sto->R Rho}
structure Slots(K:C6)(α:B6)(H:Hp)(ρ:Rho)(σ:St):Prop where
 len:σ.length=ρ.length
 slot: ∀(i:Nat)(d:MV),ρ[i]? =some (some d)-> ∃v,σ[i]? =some (some v)/\Den K α H d v
section
variable{K:C6}{α α':B6}{H H':Hp}{ρ:Rho}{σ:St}
def Slots.ex0(q:Slots K α H ρ σ)(x:Ex0 α H α' H'):Slots K α' H' ρ σ:=⟨q.len,λi d e=>let ⟨v,h1,a⟩:=q.slot i d e;⟨v,h1,a.ex0 x⟩⟩
def Slots.ext(q:Slots K α H ρ σ)(x:Ext α H α' H'):Slots K α' H' ρ σ:=q.ex0 x.toEx0
theorem Hd{α:Type}{l:List α}{i:Nat}{x y:α}(h:(l.set i x)[j]? =some y):(j=i/\y=x/\i<l.length)\/(j≠i/\l[j]? =some y):=by
 by_cases a:i=j
 .subst a;by_cases b:i<l.length
  .rw[ė b]at h;exact .inl ⟨rfl,(ä h).symm,b⟩
  .rw[getElem?_eq_none (by rw[Ą];lia)]at h;cases h
 .rw[Ģ a]at h;exact .inr ⟨λz=>a z.symm,h⟩
def Slots.set(q:Slots K α H ρ σ){i:Nat}{d:MV}(h:Den K α H d v):Slots K α H (ρ.set i (some d)) (σ.set i (some v)):=by
 refine⟨by rw[Ą,Ą];exact q.len,λj e z=>?_⟩;rcases Hd z with⟨rfl,e',hl⟩|⟨hj,e'⟩
 .cases e';exact⟨v,by rw[ė (by rw[q.len];exact hl)],h⟩
 .obtain⟨u,h1,a⟩:=q.slot j e e';exact⟨u,by rw[Ģ (Ne.symm hj)];exact h1,a⟩
end
def Jd(X:Cx)(W:XW)[Dn β τ](P:(St->Hp->(τ->Hp->Prop)->Prop)->Prop)(f:Rho->Sto->R β):Prop:=
 ∃t,P t/\ ∀α ρ S σ H Q,Wd X.g α S H->Slots X.K α H ρ σ->Post X.g W α H (f ρ S) Q->t σ H Q
abbrev zN(X:Cx)(W:XW)(e:Expr)(f:Rho->Sto->R Er):Prop:=Jd X W (PE X e) f
abbrev rO(X:Cx)(W:XW)(e:Expr)(f:Rho->Sto->R Bool):Prop:=Jd X W (PT X e) f
abbrev Mr(X:Cx)(W:XW)(e:Expr)(f:Rho->Sto->R Bool):Prop:=Jd X W (PW X e) f
abbrev CN(X:Cx)(W:XW)(es:C5)(f:Rho->Sto->R (List Er)):Prop:=Jd X W (PA X es) f
abbrev Pt(X:Cx)(W:XW)(e:Option Expr)(f:Rho->Sto->R (Option Int)):Prop:=Jd X W (PO X e) f
section
variable{X:Cx}{W:XW}{a b c:Expr}{f g h:Rho->Sto->R Er}{pos:Pos}
noncomputable def He:Option (Option MV)->Sto->R Er
 |some (some d),S=>.ok (.val d) S
 |_,_=>.no
def Pw(i:Nat){x:Str}(a:X.N[i]? =some x:=by rfl)(b:Wg X.env.scope x:=by first |exact Or.inl rfl|exact Or.inr (Or.inl rfl)|exact Or.inr (Or.inr rfl))(hd:(x==("__debug__":Str))=false:=by decide)
  (hcd:(x==("__classdict__":Str))=false:=by decide):zN X W (.Name x pos) (λρ S=>He (ρ[i]?) S):=by
 refine⟨_,pv i a b hd hcd,λα ρ S σ H Q e sl q=>?_⟩;dsimp only at q
 cases z:ρ[i]? with
 |none=>rw[z]at q;exact q.elim
 |some o=>
  cases o with
  |none=>rw[z]at q;exact q.elim
  |some d=>
   rw[z]at q;obtain⟨v,h1,c⟩:=sl.slot i d z;exact⟨v,h1,Post.val q e c⟩
def Px{i:Int}:zN X W (.Constant (.int i) j pos) (λ_ S=>.ok (.val (.int i)) S):=⟨_,ZM,λα ρ S σ H Q a sl q=>Post.val q a (yV i)⟩
def Xm{i:Bool}:zN X W (.Constant (.bool i) j pos) (λ_ S=>.ok (.val (.bl i)) S):=⟨_,Wi,λα ρ S σ H Q a sl q=>Post.val q a (dC i)⟩
def Py:zN X W (.Constant .none j pos) (λ_ S=>.ok (.val .non) S):=⟨_,Od,λα ρ S σ H Q a sl q=>Post.val q a tL⟩
def Pz{x:Str}(cs:Db)(a:x=fR cs:=by rfl):zN X W (.Constant (.str x) j pos) (λ_ S=>.ok (.val (.str cs)) S):=
 ⟨_,Oe,λα ρ S σ H Q b sl q=>Post.val q b (by rw[a];exact mN cs)⟩
def Hf{x:Str}{i:Int}{t:Tok}(a:Gl X x)(b:X.mg x=some (.int i t))(hd:(x==("__debug__":Str))=false:=by decide):zN X W (.Name x pos) (λ_ S=>.ok (.val (.int i)) S):=
 ⟨_,Fp (v:=.int i) a b ⟨t,rfl⟩ hd,λα ρ S σ H Q c sl q=>Post.val q c (yV i)⟩
def Mu{x:Str}{T:String}(a:Gl X x)(d:X.mg x=none)(c:bootBuiltins x=some (.type T))(b:x≠"__name__":=by decide)(hd:(x==("__debug__":Str))=false:=by decide):zN X W (.Name x pos) (λ_ S=>.ok (.val (.typ T)) S):=
 ⟨_,Fq (v:=.ty T) a d c rfl b hd,λα ρ S σ H Q e sl q=>Post.val q e (TB T)⟩
def Qa{i:Int}{a:Pos}:zN X W (.UnaryOp .USub (.Constant (.int i) j a) pos) (λ_ S=>.ok (.val (.int (-i))) S):=
 ⟨_,Wv Oy ZM,λα ρ S σ H Q b sl q=>⟨i,rfl,Post.val q b (yV (-i))⟩⟩
def QX(X:Cx)(W:XW)(r:R2)(F:Er->Er->Sto->R Er):Prop:= ∀p q x y α S H Q,Wd X.g α S H->DenX X.K α H p x->DenX X.K α H q y->Post X.g W α H (F p q S) Q->r x y H Q
def two{r:R2}{F:Er->Er->Sto->R Er}(h:QX X W r F){ta tb:TE}(fa: ∀α ρ S σ H Q,Wd X.g α S H->Slots X.K α H ρ σ->Post X.g W α H (f ρ S) Q->ta σ H Q)
  (fb: ∀α ρ S σ H Q,Wd X.g α S H->Slots X.K α H ρ σ->Post X.g W α H (g ρ S) Q->tb σ H Q) {α:B6} {ρ:Rho} {S:Sto} {σ:St} {H:Hp} {Q:VK} (wd:Wd X.g α S H) (sl:Slots X.K α H ρ σ)
  (q:Post X.g W α H ((f ρ S).bind λp S1=>(g ρ S1).bind λq S2=>F p q S2) Q):ta σ H λx H1=>tb σ H1 λy a=>r x y a Q:=
 fa α ρ S σ H _ wd sl (q.bind λu p S1 c H1 w e m n i=>fb c ρ S1 σ H1 _ m (sl.ext e) ((i.shift e).bind λs p2 S2 b a v d j k o=>
  h p p2 u s b S2 a Q j (n.1.ext d) k.1 (o.shift d)))
def BB{e:Operator}{r:R2}{F:Er->Er->Sto->R Er}(ho:OpR X (binaryOp e) r)(h:QX X W r F)(c:zN X W a f)(d:zN X W b g):zN X W (.BinOp a e b pos) (λρ S=>(f ρ S).bind λp S1=>(g ρ S1).bind λq S2=>F p q S2):=by obtain⟨ta,c,fa⟩:=c;obtain⟨tb,d,fb⟩:=d;exact⟨_,Wu ho c d,λα ρ S σ H Q i sl q=>two h fa fb i sl q⟩
def Ak{e:CmpOp}{r:R2}{F:Er->Er->Sto->R Er}(ho:OpR X (compareOp e) r)(h:QX X W r F)(c:zN X W a f)(d:zN X W b g)(i:behindInMarks e b=false:=by first |exact ZT _|with_unfolding_all rfl):
  zN X W (.Compare a [e] [b] pos) (λρ S=>(f ρ S).bind λp S1=>(g ρ S1).bind λq S2=>F p q S2):=by
 obtain⟨ta,c,fa⟩:=c;obtain⟨tb,d,fb⟩:=d;exact⟨_,Gc ho c d i,λα ρ S σ H Q j sl q=>two h fa fb j sl q⟩
def Mv{r:R2}{F:Er->Er->Sto->R Er}(ho:IxR X r)(e:QX X W r F)(c:zN X W a f)(d:zN X W b g)(hs:CL b:=by exact λ_ _=>rfl):
  zN X W (.Subscript a b pos) (λρ S=>(f ρ S).bind λp S1=>(g ρ S1).bind λq S2=>F p q S2):=by
 obtain⟨ta,c,fa⟩:=c;obtain⟨tb,d,fb⟩:=d;exact⟨_,Xd ho c d hs,λα ρ S σ H Q h sl q=>two e fa fb h sl q⟩
noncomputable def aV:Er->Sto->R Bool
 |.val (.bl b),S=>.ok b S
 |_,_=>.no
def Al{p:Er}{Q:Bool->Hp->Prop}(q:Post X.g W α H (aV p S) Q): ∃k,p=.val (.bl k)/\Post X.g W α H (.ok k S) Q:=by
 unfold aV at q;split at q
 .exact⟨_,rfl,q⟩
 .exact q.elim
def pS{e:CmpOp}{r:R2}{F:Er->Er->Sto->R Er}(ho:OpR X (compareOp e) r)(h:QX X W r F)(c:zN X W a f)(d:zN X W b g)(i:behindInMarks e b=false:=by first |exact ZT _|with_unfolding_all rfl):
  rO X W (.Compare a [e] [b] pos) (λρ S=>((f ρ S).bind λp S1=>(g ρ S1).bind λq S2=>F p q S2).bind aV):=by
 obtain⟨ta,c,fa⟩:=c;obtain⟨tb,d,fb⟩:=d;refine⟨_,Gd ho c d i,λα ρ S σ H Q w sl q=>?_⟩;refine two h fa fb w sl (q.bind λu p S1 n H1 y s m o j=>?_);obtain⟨k,rfl,v⟩:=Al (j.shift s);exact⟨k,DW o.1,v.here m rfl⟩
def chF(F G:Er->Er->Sto->R Er)(p q:Er)(S:Sto)(k:Sto->R Er):R Er:=(F p q S).bind λz S1=>(aV z S1).bind λc S2=>if c=true then(k S2).bind λr a=>G q r a else .ok (.val (.bl false)) S2
noncomputable def DY:Er->Sto->R Bool
 |.val .non,S=>.ok false S
 |.val (.bl b),S=>.ok b S
 |.val (.int i),S=>.ok (i !=0) S
 |.val (.str x),S=>if x.length<=sizeLine then .ok (!x.isEmpty) S else .no
 |.val (.tup ds),S=>.ok (!ds.isEmpty) S
 |.val (.scr ds),S=>.ok (!ds.isEmpty) S
 |.val (.loc l),S=>match S[l]? with
  |some (.lst ds)=>.ok (!ds.isEmpty) S
  |_=>.no
 |.val (.typ _),_=>.no
 |.val (.obj _ _ _),_=>.no
 |.new ds,S=>.ok (!ds.isEmpty) S
def qO{ds:C8}{vs:List V}{K:C6}(l:DenL K α H ds vs):(!vs.isEmpty)= !ds.isEmpty:=by have:=l.length;cases ds<;>cases vs<;>simp_all
theorem Am{p:Er}{x:V}{Q:Bool->Hp->Prop}(j:Wd X.g α S H)(d:DenX X.K α H p x)(q:Post X.g W α H (DY p S) Q): ∃k,Oz X.K x H k/\Q k H:=by
 match p,d,q with
 |.val .non,d,q=>cases vI d;exact⟨_,rfl,q.here j rfl⟩
 |.val (.bl b),d,q=>cases DW d;exact⟨_,rfl,q.here j rfl⟩
 |.val (.int i),d,q=>cases yP d;exact⟨_,rfl,q.here j rfl⟩
 |.val (.typ n),d,q=>exact q.elim
 |.val (.obj _ _ _),d,q=>exact q.elim
 |.val (.str z),d,q=>
  cases bP d;have e:Post X.g W α H (if z.length<=sizeLine then R.ok _ S else R.no) Q:=q;split at e
  .rename_i v;refine⟨_,⟨by rw[gF];exact v,?_⟩,e.here j rfl⟩;rw[gF]
   cases z with
   |nil=>rfl
   |cons c r=>
    have w:((r.length:Int)+1)≠0:=by lia
    simp[w]
  .exact e.elim
 |.val (.tup ds),d,q=>
  obtain⟨a,vs,rfl,s,l⟩:=dF d;exact⟨_,.inr (.inl ⟨vs,s,(qO l).symm⟩),q.here j rfl⟩
 |.val (.scr ds),d,q=>
  obtain⟨a,vs,rfl,s,l⟩:=DX d;exact⟨_,.inl ⟨vs,s.l,(qO l).symm⟩,q.here j rfl⟩
 |.val (.loc n),d,q=>
  obtain⟨a,rfl,h⟩:=aU d;obtain⟨o,h1,m⟩:=j.of h;have e:Post X.g W α H (match S[n]? with |some (.lst ds)=>R.ok _ S|_=>R.no) Q:=q;rw[h1]at e
  cases o with
  |lst ds=>
   obtain⟨vs,u,l⟩:=m;exact⟨_,.inl ⟨vs,.of u,(qO l).symm⟩,e.here j rfl⟩
  |dic ds=>exact e.elim
  |ins c fs=>exact e.elim
  |rcd c fs=>exact e.elim
  |fdc _=>exact e.elim
 |.new ds,⟨a,vs,ex,s,n,l⟩,q=>subst ex;exact⟨_,.inl ⟨vs,.of s,(qO l).symm⟩,q.here j rfl⟩
def An(c:zN X W a f)(e: ∀b,isTrue a X.env b=(do let v <-b;standAt a.pos;holding [v] (truthy v)):=by intro _;rfl):rO X W a (λρ S=>(f ρ S).bind DY):=by obtain⟨ta,c,fa⟩:=c;exact⟨_,ZU c e,λα ρ S σ H Q m sl q=>fa α ρ S σ H _ m sl (q.bind λu p S1 i H1 n k h j d=>Am h j.1 (d.shift k))⟩
end
section
variable{X:Cx}{W:XW}{a b c:Expr}{es:C5}{f g h:Rho->Sto->R Er}{tf tg:Rho->Sto->R Bool}{pos:Pos}
def andF(p:Er)(S:Sto)(k:Sto->R Er):R Er:=(aV p S).bind λc S1=>if c=true then k S1 else .ok (.val (.bl false)) S1
def orF(p:Er)(S:Sto)(k:Sto->R Er):R Er:=(aV p S).bind λc S1=>if c=true then .ok (.val (.bl true)) S1 else k S1
def Xn(j:rO X W c tf)(i:zN X W a f)(m:zN X W b g):zN X W (.IfExp c a b pos) (λρ S=>(tf ρ S).bind λk S1=>if k=true then f ρ S1 else g ρ S1):=by
 obtain⟨v,j,o⟩:=j;obtain⟨ta,i,fa⟩:=i;obtain⟨tb,m,fb⟩:=m;refine⟨_,ZN j i m,λα ρ S σ H Q s sl q=>o α ρ S σ H _ s sl (q.bind λu p S1 d H1 w h n r e=>?_)⟩;cases r
 cases u with
 |true=>rw[iP rfl]at e ⊢; exact fa d ρ S1 σ H1 _ n (sl.ext h) (e.shift h)
 |false=>rw[iN xF0]at e ⊢; exact fb d ρ S1 σ H1 _ n (sl.ext h) (e.shift h)
def Hg(b:rO X W a tf):Mr X W (.BoolOp .And [a] pos) tf:=let ⟨t,h,k⟩:=b;⟨t,Fs h,k⟩
def Qb(b:rO X W a tf):Mr X W (.BoolOp .Or [a] pos) tf:=let ⟨t,h,k⟩:=b;⟨t,Of h,k⟩
theorem Qc(d:rO X W a tf)(e:Mr X W (.BoolOp .And (b::es) pos) tg):Mr X W (.BoolOp .And (a::b::es) pos) (λρ S=>(tf ρ S).bind λk S1=>if k=true then tg ρ S1 else .ok false S1):=by
 obtain⟨ta,d,fa⟩:=d;obtain⟨tb,e,fb⟩:=e;refine⟨_,Og d e,λα ρ S σ H Q n sl q=>fa α ρ S σ H _ n sl (q.bind λu p S1 h H1 o i j m c=>?_)⟩;cases m
 cases u with
 |true=>rw[iP rfl]at c ⊢; exact fb h ρ S1 σ H1 _ j (sl.ext i) (c.shift i)
 |false=>rw[iN xF0]at c ⊢; exact(c.shift i).here j rfl
def Xo(d:rO X W a tf)(e:Mr X W (.BoolOp .Or (b::es) pos) tg):Mr X W (.BoolOp .Or (a::b::es) pos) (λρ S=>(tf ρ S).bind λk S1=>if k=true then .ok true S1 else tg ρ S1):=by
 obtain⟨ta,d,fa⟩:=d;obtain⟨tb,e,fb⟩:=e;refine⟨_,Wj d e,λα ρ S σ H Q n sl q=>fa α ρ S σ H _ n sl (q.bind λu p S1 h H1 o i j m c=>?_)⟩;cases m
 cases u with
 |true=>rw[iP rfl]at c ⊢; exact(c.shift i).here j rfl
 |false=>rw[iN xF0]at c ⊢; exact fb h ρ S1 σ H1 _ j (sl.ext i) (c.shift i)
def Xp(h:Mr X W a tf):rO X W a tf:=let ⟨t,h,k⟩:=h;⟨t,h.pt,k⟩
theorem Qd(b:rO X W a tf):rO X W (.UnaryOp .Not a pos) (λρ S=>(tf ρ S).bind λk S1=>.ok (!k) S1):=by obtain⟨ta,b,fa⟩:=b;refine⟨_,Oh b,λα ρ S σ H Q j sl q=>fa α ρ S σ H _ j sl (q.bind λu p S1 e H1 m i d h c=>?_)⟩;cases h;exact(c.shift i).here d rfl
end
section
variable{K:C6}{H0:Hp}
noncomputable def zF:List Er->Sto->List MV×Sto
 |[],S=>([],S)
 |.val d::rs,S=>((d::(zF rs S).1),(zF rs S).2)
 |.new xs::rs,S=>((.loc S.length::(zF rs (S++[.lst xs])).1),(zF rs (S++[.lst xs])).2)
def ArgsE.grow{H0:Hp}{b:Addr}{vs:List V}(q:ArgsE K H0 α H rs vs)(n:b∉BA rs vs):ArgsE K H0 (α++[b]) H rs vs:=by
 induction q with
 |nil=>exact .nil
 |@cons r v rs vs a m l ih=>
  cases r with
  |val d=>exact .cons ⟨Den.ex0 (Ex0.grow α [b] H) a.1,trivial⟩ m (ih (by simpa [BA]using n))
  |new ds=>
   obtain⟨⟨c,us,rfl,h1,i,j⟩,h⟩:=a;have e:=n;refine .cons ⟨⟨c,us,rfl,h1,λz=>?_,j.ex0 (Ex0.grow α [b] H)⟩,h⟩ m (ih λz=>e (mO _ z));rcases é.mp z with z|z
   .exact i z
   .exact e (by rw[mS.mp z];exact mF0)
theorem pT{g:Gm}{H0:Hp}{i:B6}{H:Hp}: ∀{rs:List Er}{vs:List V}{α:B6}{S:Sto},Wd g α S H->Ext i H0 α H->ArgsE g.K H0 α H rs vs->
  ∃α',Ext i H0 α' H/\Ex0 α H α' H/\Wd g α' (zF rs S).2 H/\DenL g.K α' H (zF rs S).1 vs
 |_,_,α,S,w,x,.nil=>⟨α,x,⟨⟨[],by simp⟩,λ_ _ h=>h,λ_ _ _ h=>h⟩,w,zW⟩
 |.val d::rs,v::vs,α,S,w,x,.cons a n l=>by obtain⟨α',k,b,m,j⟩:=pT w x l;exact⟨α',k,b,m,zQ (Den.ex0 b a.1) j⟩
 |.new ds::rs,v::vs,α,S,w,x,.cons a n l=>by
  obtain⟨⟨c,us,rfl,h1,o,p⟩,q⟩:=a;obtain⟨α',k,b,m,j⟩:=pT (w.enter h1 o p) (w.enterx x (q c rfl) o) (l.grow (n ds c rfl rfl));refine⟨α',k,⟨?_,b.tup,b.frz⟩,m,zQ (mP (b.at ?_)) j⟩
  .obtain⟨t,e⟩:=b.pre;exact⟨_,by rw[e,aA]⟩
  .rw[<-w.len,æ (à _),sub_self];rfl
theorem vK: ∀(rs:List Er)(S:Sto),(zF rs S).1.length=rs.length
 |[],S=>rfl
 |.val d::rs,S=>by show(d::(zF rs S).1).length=_;rw[lC,vK rs S];rfl
 |.new ds::rs,S=>by show(_::(zF rs _).1).length=_;rw[lC,vK rs _];rfl
end
section
variable{X:Cx}{W:XW}{a b c e:Expr}{es:C5}{f g h:Rho->Sto->R Er}{af:Rho->Sto->R (List Er)}{pos:Pos}
def Qe:CN X W [] (λ_ S=>.ok [] S):=⟨_,Pb,λα ρ S σ H Q a sl q=>q.here a .nil⟩
def Hh(m:zN X W a f)(o:CN X W es af)(hs:q9 X a es:=by rfl):CN X W (a::es) (λρ S=>(f ρ S).bind λp S1=>(af ρ S1).bind λps S2=>.ok (p::ps) S2):=by
 obtain⟨ta,m,fa⟩:=m;obtain⟨G,o,w⟩:=o;refine⟨_,Ge m o hs,λα ρ S σ H Q B sl q=>fa α ρ S σ H _ B sl (q.bind λu p S1 n H1 I j y v D=>w n ρ S1 σ H1 _ y (sl.ext j) ?_)⟩;have d:Post X.g W α H _ Q:=D
 cases z:af ρ S1 with
 |ok ps S2=>
  rw[z]at d;intro vs e k i r s;refine d _ e k (j.trans i) r (ArgsE.cons (DenE.ext i v) (λds b E F C=>?_) (ArgsE.back (λb h=>j.free h) s));subst E F;obtain⟨⟨c,us,A,h1,_⟩,_⟩:=v;cases A;have:=ArgsE.nones s _ C;rw[h1]at this;cases this
 |exc c fs S2=>rw[z]at d;exact λe k i r=>d e k (j.trans i) r
 |no=>rw[z]at d;exact d
def xO(rs:List Er)(S:Sto):R Er:=if rs.length<=sizeLine then .ok (.val (.tup (zF rs S).1)) (zF rs S).2 else .no
def xT(rs:List Er)(S:Sto):R Er:=if rs.length<=sizeLine then .ok (.new (zF rs S).1) (zF rs S).2 else .no
def Qf{b}(h:CN X W es af):zN X W (.Tuple es b pos) (λρ S=>(af ρ S).bind xO):=by
 obtain⟨t,h,k⟩:=h;refine⟨_,Pc h,λα ρ S σ H Q s sl q=>k α ρ S σ H _ s sl (q.bind λvs rs S1 o H1 u b j c e=>?_)⟩;have a:Post X.g W α H (if rs.length<=sizeLine then R.ok _ (zF rs S1).2 else R.no) Q:=e;split at a
 .rename_i n;obtain⟨d,m,v,i,l2⟩:=pT j b c;exact⟨by rw[ArgsE.length c];exact n,λp r=>(a.shift m).newt i r l2⟩
 .exact a.elim
def Qg(h:CN X W es af):zN X W (.List es pos) (λρ S=>(af ρ S).bind xT):=by
 obtain⟨t,h,k⟩:=h;refine⟨_,Pd h,λα ρ S σ H Q s sl q=>k α ρ S σ H _ s sl (q.bind λvs rs S1 n H1 u o i b d=>?_)⟩;have a:Post X.g W α H (if rs.length<=sizeLine then R.ok _ (zF rs S1).2 else R.no) Q:=d;split at a
 .rename_i m;obtain⟨c,j,v,e,l2⟩:=pT i o b;exact⟨by rw[ArgsE.length b];exact m,λp r=>(a.shift j).newl e r l2⟩
 .exact a.elim
inductive ArgsX(K:C6)(α:B6)(H:Hp):List Er->List V->Prop
 |nil:ArgsX K α H [] []
 |cons {r v rs vs}:DenX K α H r v->ArgsX K α H rs vs->ArgsX K α H (r::rs) (v::vs)
theorem ArgsE.x{K:C6}: ∀{rs vs},ArgsE K H0 α H rs vs->ArgsX K α H rs vs
 |_,_,.nil=>.nil
 |_,_,.cons a _ l=>.cons a.1 (ArgsE.x l)
def pU(X:Cx)(W:XW)(r:List V->Hp->VK->Prop)(F:List Er->Sto->R Er):Prop:= ∀rs vs α S H Q,Wd X.g α S H->ArgsX X.K α H rs vs->Post X.g W α H (F rs S) Q->r vs H Q
def NF{id:String}{r:List V->Hp->VK->Prop}{F:List Er->Sto->R Er}{x:Str}{p:Pos}(h:CallR X (.builtin id) r)(c:pU X W r F)(d:Gl X x)(i:X.mg x=none)(s:bootBuiltins x=some (.builtin id))(a:CN X W (e::es) af)
  (hn:x≠"__name__":=by decide) (hdb:(x==("__debug__":Str))=false:=by decide)
  (he:q9 X e es:=by rfl) (hpl:Q0 X pos es:=by rfl):zN X W (.Call (.Name x p) (e::es) [] pos) (λρ S=>(af ρ S).bind F):=by
 obtain⟨t,a,k⟩:=a;exact⟨_,ZV h d i s a hn hdb he hpl,λα ρ S σ H Q u sl q=>k α ρ S σ H _ u sl (q.bind λvs rs S1 b H1 v o m n j=>c rs vs b S1 H1 Q m (ArgsE.x n) (j.shift o))⟩
def bQ{T:String}{r:List V->Hp->VK->Prop}{F:List Er->Sto->R Er}{x:Str}{p:Pos}(h:CallR X (.type T) r)(c:pU X W r F)(d:Gl X x)(i:X.mg x=none)(s:bootBuiltins x=some (.type T))(a:CN X W (e::es) af)
  (hn:x≠"__name__":=by decide) (hdb:(x==("__debug__":Str))=false:=by decide)
  (he:q9 X e es:=by rfl) (hpl:Q0 X pos es:=by rfl):zN X W (.Call (.Name x p) (e::es) [] pos) (λρ S=>(af ρ S).bind F):=by
 obtain⟨t,a,k⟩:=a;exact⟨_,WP h d i s a hn hdb he hpl,λα ρ S σ H Q u sl q=>k α ρ S σ H _ u sl (q.bind λvs rs S1 b H1 v o m n j=>c rs vs b S1 H1 Q m (ArgsE.x n) (j.shift o))⟩
def NG(X:Cx)(W:XW)(r:V->List V->Hp->VK->Prop)(F:Er->List Er->Sto->R Er):Prop:= ∀p rs x vs α S H0 H Q a,Wd X.g α S H->Ext a H0 α H->DenX X.K α H p x->ArgsE X.K H0 α H rs vs->Post X.g W a H0 (F p rs S) Q->r x vs H Q
def TyM(X:Cx)(T:String)(a:Er->Sto->Bool):Prop:= ∀p x α S H,Wd X.g α S H->DenX X.K α H p x->a p S=true->tyV X.K T x H
def JP{T:String}{name:Str}{id:String}{r:V->List V->Hp->VK->Prop}{F:Er->List Er->Sto->R Er}{v:Er->Sto->Bool}{apos:Pos}(z:PlainAttrs T)(c:Slot T name id)(i:typeOf (.builtin id)=pure (.type "method_descriptor"))(A:Gk X id r)(E:NG X W r F)(J:TyM X T v)
  (h:zN X W a f) (d:CN X W (e::es) af)
  (hbase:attributeBase a name X.env (eval a X.env)=eval a X.env:=by rfl)
  (hfew:((backTo pos (starEach (e::es) X.env)).all (λx=>!x.1)&&(backToKw pos (keywordEach [] X.env)).all (λx=>x.1.isSome)
   &&decide ((e::es).length+([]:List Keyword).length+(if([]:List Keyword).isEmpty then 0 else 1)<30))=true:=by rfl)
  (hline:(apos.endLine==pos.line)=true:=by rfl) (hs:q9 X e es:=by rfl) (hplain:Q0 X pos es:=by rfl):
  zN X W (.Call (.Attribute a name apos) (e::es) [] pos) (λρ S=>(f ρ S).bind λp S1=>if v p S1=true then(af ρ S1).bind λrs S2=>F p rs S2 else .no):=by
 obtain⟨to,h,G⟩:=h;obtain⟨t,d,k⟩:=d;refine⟨_,Xi z c i A h d hbase hfew hline hs hplain,λα ρ S σ H Q D sl q=>G α ρ S σ H _ D sl (q.bind λu p S1 b H1 M w n o m=>?_)⟩;split at m
 .rename_i K;exact⟨J p u b S1 H1 n o.1 K,k b ρ S1 σ H1 _ n (sl.ext w) ((m.shift w).bind λvs rs S2 j y L s I B C=>E p rs u vs j S2 H1 y Q b I s (o.1.ext s) B C)⟩
 .exact m.elim
def Hi:Pt X W none (λ_ S=>.ok none S):=⟨_,Gh,λα ρ S σ H Q a sl q=>q.here a rfl⟩
noncomputable def Fe:Er->Sto->R (Option Int)
 |.val (.int i),S=>.ok (some i) S
 |_,_=>.no
def Hj(c:zN X W a f):Pt X W (some a) (λρ S=>(f ρ S).bind Fe):=by
 obtain⟨ta,c,fa⟩:=c;refine⟨_,Gi c,λα ρ S σ H Q j sl q=>fa α ρ S σ H _ j sl (q.bind λu p S1 e H1 k i d h b=>?_)⟩;unfold Fe at b;split at b
 .exact⟨_,yP h.1,(b.shift i).here d rfl⟩
 .exact b.elim
def Sl3(X:Cx)(W:XW)(r:V->Option Int->Option Int->Hp->VK->Prop)(F:Er->Option Int->Option Int->Sto->R Er):Prop:= ∀p lo hi x α S H Q,Wd X.g α S H->DenX X.K α H p x->Post X.g W α H (F p lo hi S) Q->r x lo hi H Q
def Ao{lo hi:Option Expr}{r:V->Option Int->Option Int->Hp->VK->Prop}{F:Er->Option Int->Option Int->Sto->R Er}{lf s:Rho->Sto->R (Option Int)}{p2:Pos}(D:SlR X r)(J:Sl3 X W r F)(b:zN X W a f)(c:Pt X W lo lf)(h:Pt X W hi s):
  zN X W (.Subscript a (.Slice lo hi none p2) pos) (λρ S=>(f ρ S).bind λp S1=>(lf ρ S1).bind λl S2=>(s ρ S2).bind λu j=>F p l u j):=by
 obtain⟨ta,b,fa⟩:=b;obtain⟨tl,c,O⟩:=c;obtain⟨th,h,K⟩:=h
 refine⟨_,ZX D b c h,λα ρ S σ H Q I sl q=>fa α ρ S σ H _ I sl (q.bind λu p S1 d H1 Y n z B M=>O d ρ S1 σ H1 _ z (sl.ext n) ((M.shift n).bind λP l S2 i v U k N y C=>
  K i ρ S2 σ v _ N ((sl.ext n).ext k) ((C.shift k).bind λL m j e E T o A w G=>?_)))⟩
 cases y;cases w;exact J p P L u e j E Q A ((B.1.ext k).ext o) (G.shift o)
end
inductive Fl where
 |next (ρ:Rho)|ret (r:Er)|brk (ρ:Rho)|cont (ρ:Rho)
abbrev AX:=Rho->Sto->R Er
abbrev AY:=Rho->Sto->R Fl
abbrev AZ:=Rho->Sto->R Bool
def PostS(g:Gm)(W:XW)(α:B6)(H:Hp)(D:Ends):R Fl->Prop
 |.ok (.next ρ) S=> ∀σ α' H',Ext α H α' H'->Wd g α' S H'->Slots g.K α' H' ρ σ->D.nx σ H'
 |.ok (.ret r) S=> ∀v α' H',Ext α H α' H'->Wd g α' S H'->DenE g.K H α' H' r v->D.rt v H'
 |.ok (.brk ρ) S=> ∀σ α' H',Ext α H α' H'->Wd g α' S H'->Slots g.K α' H' ρ σ->D.bk σ H'
 |.ok (.cont ρ) S=> ∀σ α' H',Ext α H α' H'->Wd g α' S H'->Slots g.K α' H' ρ σ->D.ct σ H'
 |.exc c fs S=> ∀α' H',Ext α H α' H'->Wd g α' S H'->W c fs S α' H'
 |.no=>False
section
variable{g:Gm}{W:XW}{α α':B6}{H H':Hp}{D D':Ends}
def PostS.shift(x:Ext α H α' H'): ∀{m:R Fl},PostS g W α H D m->PostS g W α' H' D m
 |.ok (.next ρ) S,q=>λσ a e d i j=>q σ a e (x.trans d) i j
 |.ok (.ret r) S,q=>λv a e d i k=>q v a e (x.trans d) i (k.back λb h=>x.free h)
 |.ok (.brk ρ) S,q=>λσ a e d i j=>q σ a e (x.trans d) i j
 |.ok (.cont ρ) S,q=>λσ a e d i j=>q σ a e (x.trans d) i j
 |.exc c fs S,q=>λa e d i=>q a e (x.trans d) i
 |.no,q=>q
def PostS.expr[Dn β τ]{m:R β}{k:β->Sto->R Fl}{e:τ->Hp->Prop}(q:PostS g W α H D (m.bind k))
  (f: ∀u b S1 a H1,m=.ok b S1->Ext α H a H1->Wd g a S1 H1->Dn.d g H a S1 H1 b u->PostS g W α H D (k b S1)->e u H1):Post g W α H m e:=by
 cases m with
 |ok b S=>exact λu a H1 x w d=>f u b S a H1 rfl x w d q
 |exc c fs S=>exact q
 |no=>exact q
def PostS.stmt{m:R Fl}{k:Fl->Sto->R Fl}(q:PostS g W α H D (m.bind k))
  (hn: ∀ρ S σ a H1,m=.ok (.next ρ) S->Ext α H a H1->Wd g a S H1->Slots g.K a H1 ρ σ->PostS g W α H D (k (.next ρ) S)->D'.nx σ H1)
  (hr: ∀r S v a H1,m=.ok (.ret r) S->Ext α H a H1->Wd g a S H1->DenE g.K H a H1 r v->PostS g W α H D (k (.ret r) S)->D'.rt v H1)
  (hb: ∀ρ S σ a H1,m=.ok (.brk ρ) S->Ext α H a H1->Wd g a S H1->Slots g.K a H1 ρ σ->PostS g W α H D (k (.brk ρ) S)->D'.bk σ H1)
  (hc: ∀ρ S σ a H1,m=.ok (.cont ρ) S->Ext α H a H1->Wd g a S H1->Slots g.K a H1 ρ σ->PostS g W α H D (k (.cont ρ) S)->D'.ct σ H1):PostS g W α H D' m:=by
 cases m with
 |ok fl S=>
  cases fl with
  |next ρ=>exact λσ a H1 x w s=>hn ρ S σ a H1 rfl x w s q
  |ret r=>exact λv a H1 x w d=>hr r S v a H1 rfl x w d q
  |brk ρ=>exact λσ a H1 x w s=>hb ρ S σ a H1 rfl x w s q
  |cont ρ=>exact λσ a H1 x w s=>hc ρ S σ a H1 rfl x w s q
 |exc c fs S=>exact q
 |no=>exact q
end
def NH(X:Cx)(W:XW)(st:Stmt)(F:AY):Prop:=
 ∃t,PS X st t/\ ∀α ρ S σ H D,Wd X.g α S H->Slots X.K α H ρ σ->PostS X.g W α H D (F ρ S)->t D σ H
def vL(X:Cx)(W:XW)(st:List Stmt)(F:AY):Prop:=
 ∃t,PSs X st t/\ ∀α ρ S σ H D,Wd X.g α S H->Slots X.K α H ρ σ->PostS X.g W α H D (F ρ S)->t D σ H
noncomputable def zI(F G:AY):AY:=λρ S=>(F ρ S).bind λa S1=>match a with
 |.next ρ'=>G ρ' S1
 |.ret r=>.ok (.ret r) S1
 |.brk ρ'=>.ok (.brk ρ') S1
 |.cont ρ'=>.ok (.cont ρ') S1
section
variable{X:Cx}{W:XW}{st:Stmt}{sts as bs:List Stmt}{F G:AY}{f g:AX}{tf:AZ}{e c:Expr}{pos:Pos}
def Qh:vL X W [] (λρ S=>.ok (.next ρ) S):=⟨_,Ft,λα ρ S σ H D a sl q=>q σ α H (Ext.refl α H) a sl⟩
def QY(h:NH X W st F):vL X W [st] F:=let ⟨t,h,k⟩:=h;⟨t,Fv h,k⟩
def JQ(h1:NH X W st F)(j:vL X W sts G):vL X W (st::sts) (zI F G):=by
 obtain⟨t,h1,k1⟩:=h1;obtain⟨u,j,k2⟩:=j;refine⟨_,ZO h1 j,λα ρ S σ H D m sl q=>k1 α ρ S σ H _ m sl (q.stmt ?_ ?_ ?_ ?_)⟩
 .intro ρ1 S1 b a H1 e h d i c;exact k2 a ρ1 S1 b H1 D d i (PostS.shift h c)
 .intro r S1 v a H1 e h d k c;exact c v a H1 h d k
 .intro ρ1 S1 b a H1 e h d i c;exact c b a H1 h d i
 .intro ρ1 S1 b a H1 e h d i c;exact c b a H1 h d i
def Qi(a:zN X W e f):NH X W (.Return (some e) pos) (λρ S=>(f ρ S).bind λr S1=>.ok (.ret r) S1):=by obtain⟨t,a,k⟩:=a;exact⟨_,Oi a,λα ρ S σ H D j sl q=>k α ρ S σ H _ j sl (q.expr λu r S1 b H1 e i d h c=>c u b H1 i d h)⟩
def Hk(a:zN X W e f)(hs:swapsWith e none pos.line X.env=pure false:=by rfl):NH X W (.Expr e pos) (λρ S=>(f ρ S).bind λ_ S1=>.ok (.next ρ) S1):=by obtain⟨t,a,k⟩:=a;exact⟨_,Fw a hs,λα ρ S σ H D i sl q=>k α ρ S σ H _ i sl (q.expr λu r S1 b H1 e c h j d=>d σ b H1 c h (sl.ext c))⟩
def Xq(i:rO X W c tf)(h:vL X W as F)(j:vL X W bs G):NH X W (.If c as bs pos) (λρ S=>(tf ρ S).bind λk S1=>if k=true then F ρ S1 else G ρ S1):=by
 obtain⟨w,i,o⟩:=i;obtain⟨ta,h,n⟩:=h;obtain⟨tb,j,r⟩:=j;refine⟨_,Wo i h j,λα ρ S σ H D v sl q=>o α ρ S σ H _ v sl (q.expr λu p S1 a H1 e d m s b=>?_)⟩;cases s
 cases u with
 |true=>rw[iP rfl]at b ⊢; exact n a ρ S1 σ H1 D m (sl.ext d) (PostS.shift d b)
 |false=>rw[iN xF0]at b ⊢; exact r a ρ S1 σ H1 D m (sl.ext d) (PostS.shift d b)
instance:Dn Rho St:=⟨λg _ α' _ H' ρ σ=>Slots g.K α' H' ρ σ,λ_ q=>q⟩
def XA(X:Cx)(W:XW)(tg:Expr)(gf:MV->Rho->Sto->R Rho):Prop:=
 ∃t,PG X tg t/\ ∀α ρ S σ H d v Q,Wd X.g α S H->Slots X.K α H ρ σ->Den X.K α H d v->Post X.g W α H (gf d ρ S) Q->t v σ H Q
def Ap(X:Cx)(W:XW)(a:C5)(gf:List MV->Rho->Sto->R Rho):Prop:=
 ∃t,Vq X a t/\ ∀α ρ S σ H ds vs Q,Wd X.g α S H->Slots X.K α H ρ σ->DenL X.K α H ds vs->Post X.g W α H (gf ds ρ S) Q->t vs σ H Q
noncomputable def yA(i:Nat):MV->Rho->Sto->R Rho:=λd ρ S=>.ok (ρ.set i (some d)) S
def Hl(i:Nat){x:Str}(a:X.N.Nodup)(hi:X.N[i]? =some x:=by rfl)(e:Loc X.env.scope x:=by first |exact Or.inl rfl|exact Or.inr rfl)(b:Q1 X x:=by first |exact .inl rfl|exact .inr rfl|assumption):
  XA X W (.Name x pos) (yA i):=⟨_,SU a hi e b,λα ρ S σ H d v Q h sl c q=>Post.here q h (sl.set c)⟩
noncomputable def yK:List MV->Rho->Sto->R Rho
 |[],ρ,S=>.ok ρ S
 |_,_,_=>.no
noncomputable def zB(a:MV->Rho->Sto->R Rho)(g2:List MV->Rho->Sto->R Rho):List MV->Rho->Sto->R Rho
 |d::ds,ρ,S=>(a d ρ S).bind λρ1 S1=>g2 ds ρ1 S1
 |_,_,_=>.no
def Qj:Ap X W [] yK:=⟨_,SV,λα ρ S σ H ds vs Q b sl a q=>by
 cases ds with
 |nil=>exact⟨a.isnil,Post.here q b sl⟩
 |cons d ds=>exact q.elim⟩
def Hm{h:MV->Rho->Sto->R Rho}(h1:XA X W e h)(c:Ap X W es g2)(hs:(assignEach (e::es) X.env).map (·.2)=assign e X.env::(assignEach es X.env).map (·.2):=by rfl):Ap X W (e::es) (zB h g2):=by
 obtain⟨w,h1,k1⟩:=h1;obtain⟨s,c,k2⟩:=c;refine⟨_,MU h1 c hs,λα ρ S σ H ds vs Q m sl o q=>?_⟩
 cases ds with
 |nil=>exact q.elim
 |cons d ds=>
  obtain⟨v,r,rfl,a,l⟩:=o.uncons;refine⟨v,r,rfl,k1 α ρ S σ H d v _ m sl a (Post.bind q λu p S1 b H1 e i j k n=>k2 b p S1 u H1 ds r Q j k (l.ext i) (n.shift i))⟩
noncomputable def mQ(n:Nat)(g2:List MV->Rho->Sto->R Rho):MV->Rho->Sto->R Rho
 |.tup ds,ρ,S=>if ds.length=n then g2 ds ρ S else .no
 |_,_,_=>.no
def Qk{k n:Nat}(b:X.calm=true)(h:Ap X W es g2)
  (hn:(assignEach es X.env).length=n:=by rfl) (hst:(assignEach es X.env).findIdx? (·.1)=none:=by rfl):XA X W (.Tuple es k pos) (mQ n g2):=by
 obtain⟨t,h,k⟩:=h;refine⟨_,ZQ b h hn hst,λα ρ S σ H d v Q i sl e q=>?_⟩;unfold mQ at q;split at q
 .split at q
  .rename_i c;obtain⟨a,vs,rfl,s,l⟩:=yO e;exact⟨a,vs,rfl,s,by rw[l.length];exact c,k α ρ S σ H _ vs Q i sl l q⟩
  .exact q.elim
 .exact q.elim
noncomputable def wQ(r:Er)(S:Sto):R MV:=match r with
 |.val d=>.ok d S
 |.new ds=>.ok (.loc S.length) (S++[.lst ds])
def bR{g:Gm}{a:B6}{r:Er}(w:Wd g α S H)(x:Ext a H0 α H)(d:DenE g.K H0 α H r v):
  ∃b S' α',wQ r S=.ok b S'/\Ext a H0 α' H/\Ex0 α H α' H/\Wd g α' S' H/\Den g.K α' H b v:=by
 cases r with
 |val b=>exact⟨b,S,α,rfl,x,⟨⟨[],by simp⟩,λ_ _ h=>h,λ_ _ _ h=>h⟩,w,d.1⟩
 |new ds=>
  obtain⟨⟨c,us,rfl,h1,e,j⟩,i⟩:=d;exact⟨_,_,_,rfl,w.enterx x (i c rfl) e,Ex0.grow α [c] H,w.enter h1 e j,mP (by rw[<-w.len,æ (à _),sub_self];rfl)⟩
def DZ(ρ:Rho)(i:Nat)(r:Er)(S:Sto):R Fl:=(wQ r S).bind λd S1=>.ok (.next (ρ.set i (some d))) S1
def Ql(i:Nat){x:Str}{a:Pos}(h:X.N.Nodup)(c:zN X W e f)(hi:X.N[i]? =some x:=by rfl)(v:Loc X.env.scope x:=by first |exact Or.inl rfl|exact Or.inr rfl)
  (hs:swapsWith e (some (.Name x a)) pos.line X.env=pure false:=by rfl) (hf:Q1 X x:=by first |exact .inl rfl|exact .inr rfl|assumption):
  NH X W (.Assign [.Name x a] e pos) (λρ S=>(f ρ S).bind (DZ ρ i)):=by
 obtain⟨t,c,k⟩:=c;refine⟨_,On h hi v c hs hf,λα ρ S σ H D z sl q=>k α ρ S σ H _ z sl (q.expr λu r S1 o H1 e d m p b=>?_)⟩;obtain⟨A,S',α',n,s,y,w,j⟩:=bR m d p;unfold DZ at b;rw[n]at b;exact b _ α' H1 s w (((sl.ext d).ex0 y).set j)
def Hn(gf:MV->Rho->Sto->R Rho)(ρ:Rho)(r:Er)(S:Sto):R Fl:=(wQ r S).bind λd S1=>(gf d ρ S1).bind λρ' S2=>.ok (.next ρ') S2
def Qm(d:zN X W e f)(b:XA X W tg gf)(hs:swapsWithSole [tg] e pos.line X.env=pure false:=by rfl)(hw:swappedStores [tg] e X.env=pure none:=by rfl)
  (h1:(assignEach [tg] X.env).map (·.2)=[assign tg X.env]:=by rfl):NH X W (.Assign [tg] e pos) (λρ S=>(f ρ S).bind (Hn gf ρ)):=by
 obtain⟨t,d,k⟩:=d;obtain⟨G,b,E⟩:=b;refine⟨_,Om d b hs hw h1,λα ρ S σ H D z sl q=>k α ρ S σ H _ z sl (q.expr λu r S1 p H1 e j o s a=>?_)⟩;obtain⟨i,S',α',C,I,y,w,B⟩:=bR o j s;unfold Hn at a;rw[C]at a;have a:PostS X.g W α H D ((gf i ρ S').bind λρ' S2=>.ok _ S2):=a;exact E α' ρ S' σ H1 i u _ w ((sl.ext j).ex0 y) B ((PostS.shift I a).expr λh n S2 c m K F A J v=>v h c m F A J)
structure Wk where
 ds:List MV
 gs:List (Nat×List MV)
def stay(gs:E2)(S:Sto):Prop:= ∀p∈gs,S[p.1]? =some (.lst p.2)
def A6(g:Gm)(J:It)(P:List Addr->Sto->Hp->Prop)(ds:C8):Prop:= ∀i α S H,P α S H->Wd g α S H->(i<ds.length->J.go i H/\ ∀x H',J.yld i H x H'->Ext α H α H'/\Wd g α S H'/\P α S H'/\ ∃d,ds[i]? =some d/\Den g.K α H' d x)/\(ds.length<=i->J.stop i H)
structure WkD(g:Gm)(α:B6)(S:Sto)(H:Hp)(k:Wk)(J:It)(P:List Addr->Sto->Hp->Prop):Prop where
 it:A6 g J P k.ds
 here:P α S H
 stays: ∀α1 S1 H1 α2 S2 H2,P α1 S1 H1->Ext α1 H1 α2 H2->Wd g α2 S2 H2->stay k.gs S2->P α2 S2 H2
 st:stay k.gs S
instance:Dn Wk It:=⟨λg _ α S H k J=> ∃P,WkD g α S H k J P,λ_ q=>q⟩
abbrev HL(X:Cx)(W:XW)(tg iter:Expr)(f:Rho->Sto->R Wk):Prop:=Jd X W (PI X tg iter) f
variable{tg iter:Expr}
theorem tM{a:Addr}{ds:C8}:A6 X.g (Zx X.K a) (λα S H=> ∃vs,SqL X.K H a vs/\DenL X.K α H ds vs) ds:=by
 intro i α S H ⟨vs,s,l⟩ w;have e:=l.length;refine⟨λhi=>?_,λhi=>⟨vs,s,by lia⟩⟩;have c:i<vs.length:=by lia
 refine⟨⟨vs,_,s,gE c⟩,λx H' y=>?_⟩;obtain⟨rfl,y⟩:=y;obtain⟨d,h1,b⟩:=l.get (y vs s);exact⟨Ext.refl _ _,w,⟨vs,s,l⟩,d,h1,b⟩
theorem TD{a:Addr}{ds:C8}:A6 X.g (Zy X.K a) (λα S H=> ∃vs,SqT X.K H a vs/\DenL X.K α H ds vs) ds:=by
 intro i α S H ⟨vs,s,l⟩ w;have e:=l.length;refine⟨λhi=>?_,λhi=>⟨vs,s,by lia⟩⟩;have c:i<vs.length:=by lia
 refine⟨⟨vs,_,s,gE c⟩,λx H' y=>?_⟩;obtain⟨rfl,y⟩:=y;obtain⟨d,h1,b⟩:=l.get (y vs s);exact⟨Ext.refl _ _,w,⟨vs,s,l⟩,d,h1,b⟩
def XB{lo:Int}{n:Nat}:A6 X.g (Zz lo n) (λ_ _ _=>True) ((List.range n).map λk=>.int (lo+(k:Nat))):=by
 intro i α S H _ w;refine⟨λhi=>⟨show i<n by simpa using hi,λv H' y=>?_⟩,λhi=>by show n<=i;simpa using hi⟩;obtain⟨rfl,y⟩:=y;have a:=by simpa using hi
 refine⟨Ext.refl _ _,w,trivial,_,by rw[ö,List.getElem?_range a];rfl,?_⟩;rw[y];exact yV _
noncomputable def vM:Er->Sto->R Wk
 |.new ds,S=>.ok ⟨ds,[]⟩ S
 |.val (.scr ds),S=>.ok ⟨ds,[]⟩ S
 |.val (.loc l),S=>match S[l]? with
  |some (.lst ds)=>.ok ⟨ds,[(l,ds)]⟩ S
  |_=>.no
 |_,_=>.no
def gH:stay [] S:=λp h=>by simp at h
def Ho(P:zN X W iter f):HL X W tg iter (λρ S=>(f ρ S).bind vM):=by
 obtain⟨t,P,k⟩:=P;refine⟨_,Fy P,λα ρ S σ H Rc wd sl q=>k α ρ S σ H _ wd sl (q.bind λu p S1 aa H1 e x1 I M v=>?_)⟩
 replace v:=v.shift x1
 unfold vM at v;split at v
 .rename_i T ds;obtain⟨⟨b,vs,rfl,h1,O,J⟩,h4⟩:=M;refine⟨b,rfl,⟨vs,.of h1⟩,v.here I ⟨λd S2 m=> ∃vs,SqL X.K m b vs/\DenL X.K d m ds vs/\m b=some (.lst vs)/\b∉d,?_,⟨vs,.of h1,J,h1,O⟩,?_,gH⟩⟩
  .intro i d S2 m ⟨j,z,w,r,F⟩ C;obtain⟨i1,i2⟩:=tM i d S2 m ⟨j,z,w⟩ C;refine⟨λhi=>⟨(i1 hi).1,λx H' y=>?_⟩,i2⟩;obtain⟨B,E,Q,G⟩:=(i1 hi).2 x H' y;obtain⟨rfl,_⟩:=y;exact⟨B,E,⟨j,z,w,r,F⟩,G⟩
  .intro d S2 m A Y U ⟨j,z,w,r,F⟩ x N _;exact⟨j,.of (x.keep b _ r F),w.ext x,x.keep b _ r F,x.out r F⟩
 .rename_i T ds;obtain⟨a,vs,rfl,s,l⟩:=DX M.1;refine⟨a,rfl,⟨vs,s.l⟩,v.here I ⟨λd S2 m=> ∃vs,SqL X.K m a vs/\DenL X.K d m ds vs/\SqF X.K m a vs,?_,⟨vs,s.l,l,s⟩,?_,gH⟩⟩
  .intro i d S2 m ⟨j,z,w,r⟩ C;obtain⟨i1,i2⟩:=tM i d S2 m ⟨j,z,w⟩ C;refine⟨λhi=>⟨(i1 hi).1,λx H' y=>?_⟩,i2⟩;obtain⟨B,E,Q,G⟩:=(i1 hi).2 x H' y;obtain⟨rfl,_⟩:=y;exact⟨B,E,⟨j,z,w,r⟩,G⟩
  .intro d S2 m A Y U ⟨j,z,w,r⟩ x N _;exact⟨j,(x.sqF r).l,w.ext x,x.sqF r⟩
 .rename_i T n;obtain⟨a,rfl,h⟩:=aU M.1;obtain⟨o,h1,O⟩:=I.of h;rw[h1]at v
  cases o with
  |lst ds=>
   obtain⟨vs,J,l⟩:=O;refine⟨a,rfl,⟨vs,.of J⟩,Post.here v I ⟨λd S2 m=> ∃vs,SqL X.K m a vs/\DenL X.K d m ds vs/\d[n]? =some a,?_,⟨vs,.of J,l,h⟩,?_,?_⟩⟩
   .intro i d S2 m ⟨j,z,w,r⟩ C;obtain⟨i1,i2⟩:=tM i d S2 m ⟨j,z,w⟩ C;refine⟨λhi=>⟨(i1 hi).1,λx H' y=>?_⟩,i2⟩;obtain⟨B,E,Q,G⟩:=(i1 hi).2 x H' y;obtain⟨rfl,_⟩:=y;exact⟨B,E,⟨j,z,w,r⟩,G⟩
   .intro d S2 m A Y U ⟨j,z,w,r⟩ x N hs;have D:=x.at r;have:=N.obj n a _ D (hs (n,ds) (by simp));obtain⟨L,b1,Z⟩:=this;exact⟨L,.of b1,Z,D⟩
   .intro p hp;have:p=(n,ds):=by simpa using hp
    subst this;exact h1
  |dic ds=>exact v.elim
  |ins c fs=>exact v.elim
  |rcd c fs=>exact v.elim
  |fdc _=>exact v.elim
 .exact v.elim
noncomputable def Hq:Er->Sto->R Wk
 |.val (.tup ds),S=>.ok ⟨ds,[]⟩ S
 |_,_=>.no
def Qn(c:zN X W iter f):HL X W tg iter (λρ S=>(f ρ S).bind Hq):=by
 obtain⟨t,c,k⟩:=c;refine⟨_,Oq c,λα ρ S σ H C r sl q=>k α ρ S σ H _ r sl (q.bind λu p S1 m H1 e w i n b=>?_)⟩
 replace b:=b.shift w
 unfold Hq at b;split at b
 .rename_i y ds;obtain⟨a,vs,rfl,s,l⟩:=dF n.1;exact⟨a,rfl,⟨vs,s⟩,b.here i ⟨_,TD,⟨vs,s,l⟩,λv S2 z o D B ⟨d,j,h⟩ x A _=>⟨d,x.sqT j,h.ext x⟩,gH⟩⟩
 .exact b.elim
noncomputable def dY:List Er->Sto->R Wk
 |[.val (.int j)],S=>if -(2 ^ 62)<=j/\j<2 ^ 62 then .ok ⟨(List.range j.toNat).map λk=>.int (k:Nat),[]⟩ S else .no
 |_,_=>.no
variable{af:Rho->Sto->R (List Er)}{p:Pos}{a:Expr}
def HM{K:C6}{r:Er}{vs:List V}(d:ArgsE K H0 α H [r] vs): ∃v,vs=[v]/\DenX K α H r v:=by
 cases d with
 |cons a n l=>cases l;exact⟨_,rfl,a.1⟩
def Mw{K:C6}{r b:Er}{vs:List V}(d:ArgsE K H0 α H [r,b] vs): ∃v u,vs=[v,u]/\DenX K α H r v/\DenX K α H b u:=by
 cases d with
 |cons a n l=>obtain⟨u,rfl,c⟩:=HM l;exact⟨_,u,rfl,a.1,c⟩
def XC(h:Gl X "range")(i:X.mg "range"=none)(c:CN X W [a] af)(hs:starEach [a] X.env=[(false,eval a X.env)]:=by rfl):HL X W tg (.Call (.Name "range" p) [a] [] pos) (λρ S=>(af ρ S).bind dY):=by
 obtain⟨t,c,k⟩:=c;refine⟨_,WJ h i c hs,λα ρ S σ H z w sl q=>k α ρ S σ H _ w sl (q.bind λvs rs S1 r H1 e u m s b=>?_)⟩
 replace b:=b.shift u
 unfold dY at b;split at b
 .split at b
  .rename_i y j d;obtain⟨v,rfl,o⟩:=HM s;cases yP o;have:=XB (X:=X) (lo:=0) (n:=j.toNat);simp only[Int.zero_add]at this;exact⟨j,rfl,d.1,d.2,b.here m ⟨_,this,trivial,λ_ _ _ _ _ _ _ _ _ _=>trivial,gH⟩⟩
  .exact b.elim
 .exact b.elim
open Classical in
noncomputable def xP(gf:MV->Rho->Sto->R Rho)(body:AY)(gs:E2):List MV->AY
 |[],ρ,S=>.ok (.next ρ) S
 |d::ds,ρ,S=>(gf d ρ S).bind λa b=>(body a b).bind λc S1=>match c with
  |.next ρ'=>if stay gs S1 then xP gf body gs ds ρ' S1 else .no
  |.cont ρ'=>if stay gs S1 then xP gf body gs ds ρ' S1 else .no
  |.brk ρ'=>.ok (.next ρ') S1
  |.ret r=>.ok (.ret r) S1
open Classical in
def Qo{U:Rho->Sto->R Wk}(hp:PassesOwn (model X.prog X.w) X.A X.env X.xe)(hc:X.calm=true)(hi:HL X W tg iter U)(hg:XA X W tg gf)(hb:vL X W as F)
  (hs: ∀y,foldedSetIterable iter X.env y=pure y:=by intro _;rfl):NH X W (.For tg iter as [] pos) (λρ S=>(U ρ S).bind λk S1=>xP gf F k.gs k.ds ρ S1):=by
 obtain⟨wi,hi,ki⟩:=hi;obtain⟨ag,hg,kg⟩:=hg;obtain⟨tb,hb,kb⟩:=hb;refine⟨_,Os hp hc hi hg hb hs,λα ρ S σ H D wd sl q=>ki α ρ S σ H _ wd sl (q.expr λJ k S1 ae H1 e x1 w1 d1 q1=>?_)⟩;obtain⟨P,hP⟩:=d1;have ab:=sl.ext x1
 replace q1:=PostS.shift x1 q1
 refine⟨λn m C G=>m=k.ds.length - n/\n<=k.ds.length/\ ∃b u S2,Wd X.g b S2 G/\Slots X.K b G u C/\P b S2 G/\PostS X.g W b G D (xP gf F k.gs (k.ds.drop n) u S2),⟨_,rfl,zero_le _,ae,ρ,S1,w1,ab,hP.here,by simpa using q1⟩,?_⟩;rintro n m C G ⟨rfl,hn,b,u,S2,w2,T,p2,I⟩;obtain⟨i1,i2⟩:=hP.it n b S2 G p2 w2;by_cases E:n<k.ds.length
 .obtain⟨go,yl⟩:=i1 E;refine .inr ⟨go,λY B=> ∃j s Z,Wd X.g j Z B/\Slots X.K j B s Y/\P j Z B/\PostS X.g W j B D (xP gf F k.gs (k.ds.drop (n+1)) s Z),λY B ⟨j,s,Z,h3⟩=>⟨k.ds.length - (n+1),by omega,rfl,E,j,s,Z,h3⟩,λv B y=>?_⟩;obtain⟨x3,w3,p3,d,hd,dv⟩:=yl v B y;have M:k.ds.drop n=d::k.ds.drop (n+1):=by rw[ĥ E];have:=gE E;rw[hd]at this;rw[<-ä this]
  rw[M]at I;unfold xP at I
  replace I:=PostS.shift x3 I
  refine kg b u S2 C B d v _ w3 (T.ext x3) dv (I.expr λaf aa S4 z H4 e4 x4 w4 s4 q4=>?_);have p4: ∀a c H5,Ext z H4 a H5->Wd X.g a c H5->stay k.gs c->P a c H5:=λa c H5 o p L=>hP.stays b S2 B a c H5 p3 (x4.trans o) p L;refine kb z aa S4 af H4 _ w4 s4 ((PostS.shift x4 q4).stmt ?_ ?_ ?_ ?_)
  .intro i c Q a H5 e5 o p L O;have h:PostS X.g W z H4 D (if stay k.gs c then xP gf F k.gs (k.ds.drop (n+1)) i c else .no):=O;split at h
   .rename_i N;exact⟨a,i,c,p,L,p4 a c H5 o p N,PostS.shift o h⟩
   .exact h.elim
  .intro r c v5 a H5 e5 o p d5 O;exact O v5 a H5 o p d5
  .intro i c Q a H5 e5 o p L O;exact O Q a H5 o p L
  .intro i c Q a H5 e5 o p L O;have h:PostS X.g W z H4 D (if stay k.gs c then xP gf F k.gs (k.ds.drop (n+1)) i c else .no):=O;split at h
   .rename_i N;exact⟨a,i,c,p,L,p4 a c H5 o p N,PostS.shift o h⟩
   .exact h.elim
 .have e:n=k.ds.length:=by omega
  subst e;refine .inl ⟨i2 (à _),?_⟩;rw[List.drop_length]at I;exact I C b G (Ext.refl _ _) w2 T
end
noncomputable def noX:R β->R β
 |.ok b S=>.ok b S
 |_=>.no
theorem yL(b:β)(S:Sto):noX (R.ok b S)=.ok b S:=rfl
def Post.bindY{υ:Type}[Dn β τ][Dn γ υ]{g:Gm}{W:XW}(x:Ext α H α' H'){m:R β}{k:β->Sto->R γ}{Q:υ->Hp->Prop}{e:τ->Hp->Prop}(q:Post g W α H ((noX m).bind k) Q)
  (f: ∀u b S1 a H1,m=.ok b S1->Ext α' H' a H1->Wd g a S1 H1->Dn.d g H' a S1 H1 b u->Post g W α H (k b S1) Q->e u H1):Post g W0 α' H' m e:=by
 cases m with
 |ok b S=>exact λu a H1 x w d=>f u b S a H1 rfl x w d q
 |exc c fs S=>exact q.elim
 |no=>exact q
theorem R.bind_assoc{a:Type}(m:R β)(k1:β->Sto->R γ)(k2:γ->Sto->R a):(m.bind k1).bind k2=m.bind λb S=>(k1 b S).bind k2:=by cases m<;>rfl
noncomputable def vE(nt:Nat)(idx:Db)(ρ:Rho):Rho:=List.replicate nt none++idx.map λi=>(ρ[i]?).join
open Classical in
noncomputable def yD(gf:MV->Rho->Sto->R Rho)(cf:AZ)(ef:AX)(ρb:Rho)(gs:E2):List MV->Sto->R (List MV)
 |[],S=>.ok [] S
 |d::ds,S=>(noX (gf d ρb S)).bind λρ1 b=>(noX (cf ρ1 b)).bind λk S1=>
  if k=true then(noX (ef ρ1 S1)).bind λr S2=>(wQ r S2).bind λy a=>if stay gs a then(yD gf cf ef ρb gs ds a).bind λout c=>.ok (y::out) c else .no
  else if stay gs S1 then yD gf cf ef ρb gs ds S1 else .no
theorem XD{K:C6}(q:Slots K α H ρ σ)(nt:Nat)(idx:Db)(τ:St)(a:τ.length=nt):Slots K α H (vE nt idx ρ) (τ++vG σ idx):=by
 refine⟨by unfold vE;rw[lA,lA,fV,lM,Ċ,a],λi d e=>?_⟩;unfold vE at e;by_cases hi:i<nt
 .rw[á (by rw[Ċ];exact hi),List.getElem?_replicate]at e;split at e<;>cases e
 .rw[æ (by rw[Ċ];lia),Ċ,ö]at e
  cases z:idx[i - nt]? with
  |none=>rw[z]at e;cases e
  |some k=>
   rw[z]at e;have b:(ρ[k]?).join=some d:=ä e
   cases c:ρ[k]? with
   |none=>rw[c]at b;cases b
   |some o=>
    rw[c]at b;have h:=b;subst h;obtain⟨v,h1,j⟩:=q.slot k d c;refine⟨v,?_,j⟩;rw[æ #[0],a];unfold vG;rw[ö,z];show some (σ[k]?).join=some _;rw[h1];rfl
def Keeps(nt:Nat)(σ:St)(Q:St->Hp->Prop):St->Hp->Prop:=λa H'=>a.length=σ.length->(∀j,nt<=j->a[j]? =σ[j]?)->Q a H'
def Ff(nt:Nat)(X:Cx)(W:XW)(tg:Expr)(gf:MV->Rho->Sto->R Rho):Prop:=
 ∃t,PG X tg t/\ ∀α ρ S σ H d v Q,Wd X.g α S H->Slots X.K α H ρ σ->Den X.K α H d v->Post X.g W α H (gf d ρ S) (Keeps nt σ Q)->t v σ H Q
def Aq(nt:Nat)(X:Cx)(W:XW)(a:C5)(gf:List MV->Rho->Sto->R Rho):Prop:=
 ∃t,Vq X a t/\ ∀α ρ S σ H ds vs Q,Wd X.g α S H->Slots X.K α H ρ σ->DenL X.K α H ds vs->Post X.g W α H (gf ds ρ S) (Keeps nt σ Q)->t vs σ H Q
section
variable{X:Cx}{W:XW}{e:Expr}{pos:Pos}{nt:Nat}
theorem Hr(i:Nat){x:Str}(a:X.N.Nodup)(hi:X.N[i]? =some x:=by rfl)(e:Loc X.env.scope x:=by first |exact Or.inl rfl|exact Or.inr rfl)(c:Q1 X x:=by first |exact .inl rfl|exact .inr rfl|assumption)(h:i<nt:=by decide):
  Ff nt X W (.Name x pos) (yA i):=⟨_,SU a hi e c,λα ρ S σ H d v Q k sl b q=>Post.here q k (sl.set b) (by rw[Ą]) λj m=>by rw[Ģ #[0]]⟩
def Qp:Aq nt X W [] yK:=⟨_,SV,λα ρ S σ H ds vs Q b sl a q=>by
 cases ds with
 |nil=>exact⟨a.isnil,Post.here q b sl rfl λ_ _=>rfl⟩
 |cons d ds=>exact q.elim⟩
def Post.keeps{g:Gm}{W:XW}{m:R Rho}{a:St}{Q:St->Hp->Prop}(h1:a.length=σ.length)(i: ∀j,nt<=j->a[j]? =σ[j]?)(q:Post g W α H m (Keeps nt σ Q)):Post g W α H m (Keeps nt a Q):=by
 cases m with
 |ok b S=>exact λu e H1 x w d k1 k2=>q u e H1 x w d (k1.trans h1) λj h=>(k2 j h).trans (i j h)
 |exc c fs S=>exact q
 |no=>exact q
def Hs{i:MV->Rho->Sto->R Rho}(h1:Ff nt X W e i)(h:Aq nt X W es g2)(hs:(assignEach (e::es) X.env).map (·.2)=assign e X.env::(assignEach es X.env).map (·.2):=by rfl):Aq nt X W (e::es) (zB i g2):=by
 obtain⟨y,h1,k1⟩:=h1;obtain⟨w,h,k2⟩:=h;refine⟨_,MU h1 h hs,λα ρ S σ H ds vs Q n sl s q=>?_⟩
 cases ds with
 |nil=>exact q.elim
 |cons d ds=>
  obtain⟨v,r,rfl,a,l⟩:=s.uncons;refine⟨v,r,rfl,k1 α ρ S σ H d v _ n sl a (Post.bind q λu p S1 c H1 e j k m o k1 b=>k2 c p S1 u H1 ds r Q k m (l.ext j) (Post.keeps k1 b (o.shift j)))⟩
def Qq{k n:Nat}(b:X.calm=true)(h:Aq nt X W es g2)
  (hn:(assignEach es X.env).length=n:=by rfl) (hst:(assignEach es X.env).findIdx? (·.1)=none:=by rfl):Ff nt X W (.Tuple es k pos) (mQ n g2):=by
 obtain⟨t,h,k⟩:=h;refine⟨_,ZQ b h hn hst,λα ρ S σ H d v Q i sl e q=>?_⟩;unfold mQ at q;split at q
 .split at q
  .rename_i c;obtain⟨a,vs,rfl,s,l⟩:=yO e;exact⟨a,vs,rfl,s,by rw[l.length];exact c,k α ρ S σ H _ vs Q i sl l q⟩
  .exact q.elim
 .exact q.elim
end
abbrev NI(X:Cx)(W:XW)(ifs:C5)(f:AZ):Prop:=Jd X W (WV X ifs) f
section
variable{X:Cx}{W:XW}{iter:Expr}{c:Expr}{tf:AZ}{pos:Pos}
def Ht:NI X W [] (λ_ S=>.ok true S):=⟨_,Ae,λα ρ S σ H Q a sl q=>q.here a rfl⟩
def Hu(h:rO X W c tf):NI X W [c] tf:=let ⟨t,h,k⟩:=h;⟨t,Af h,k⟩
open Classical in
def TF{C:Cx->Prop}{elt:Expr}{ifs:C5}{sc:Scope}{af:Rho->Sto->R Wk}{cf:AZ}{ef:AX}(aa:Scope)(N:B7)(T:B7)(idx:Db)
  (hi:Jd X W (Wr C X tg iter) af) (hCx: ∀c s₂ A fp pins σ,Inv X pins σ A s₂->C (zM X sc T idx c s₂ A fp))
  (hg: ∀C s₂ H1 fp,([]++T++idx.map λi=>(N[i]?).getD Str.empty).Nodup->Ff T.length (zM X sc T idx C s₂ H1 fp) W0 tg gf)
  (hc: ∀C s₂ H1 fp,NI (zM X sc T idx C s₂ H1 fp) W0 ifs cf) (he: ∀C s₂ H1 fp,zN (zM X sc T idx C s₂ H1 fp) W0 elt ef)
  (e1:X.env.scope=aa:=by rfl) (e2:X.N=N:=by rfl) (hB:rL aa N sc idx=true:=by decide+kernel) (hN:([]++T++idx.map λi=>(N[i]?).getD Str.empty).Nodup:=by decide+kernel)
  (hs: ∀y,foldedSetIterable iter X.env y=pure y:=by intro _;rfl):
  Jd (β:=Er) (τ:=V) X W (λt=>PE X (.ListComp elt [⟨tg,iter,ifs,0⟩] sc pos) t/\PU X (.ListComp elt [⟨tg,iter,ifs,0⟩] sc pos) t) (λρ S=>(af ρ S).bind λk S1=>if k.ds.length<1000000 then(yD gf cf ef (vE T.length idx ρ) k.gs k.ds S1).bind λout S2=>.ok (.new out) S2 else .no):=by
 obtain⟨wi,hi,ki⟩:=hi;subst e1 e2;have ao:(1000000:Nat)<sizeLine:=by rw[Ĕ];decide
 have ai: ∃t,(∀C s₂ H1 fp,PG (zM X sc T idx C s₂ H1 fp) tg t)/\ ∀α ρ S σ H d v Q,Wd X.g α S H->Slots X.K α H ρ σ->Den X.K α H d v->Post X.g W0 α H (gf d ρ S) (Keeps T.length σ Q)->t v σ H Q:=by refine⟨λv σ H Q=> ∃α ρ S d,Wd X.g α S H/\Slots X.K α H ρ σ/\Den X.K α H d v/\Post X.g W0 α H (gf d ρ S) (Keeps T.length σ Q),λC s₂ H1 fp pins s σ H v u Q I r ⟨α,ρ,S,d,h1,h2,h3,h4⟩=>?_,λα ρ S σ H d v Q h1 h2 h3 h4=>⟨α,ρ,S,d,h1,h2,h3,h4⟩⟩;obtain⟨t,ht,kt⟩:=hg C s₂ H1 fp hN;exact ht pins s σ H v u Q I r (kt α ρ S σ H d v Q h1 h2 h3 h4)
 obtain⟨av,ae,kg⟩:=ai;refine⟨_,⟨Gw T idx hi hCx hB ae (λC s₂ H1 fp=>(ā (hc C s₂ H1 fp)).1) (λC s₂ H1 fp=>(ā (he C s₂ H1 fp)).1) hs,Ha T idx hi hCx hB ae (λC s₂ H1 fp=>(ā (hc C s₂ H1 fp)).1) (λC s₂ H1 fp=>(ā (he C s₂ H1 fp)).1) hs⟩,λα ρ S σ H Q wd sl q=>ki α ρ S σ H _ wd sl (q.bind λJ k S1 ah H1 e1 x1 w1 d1 q1=>?_)⟩;obtain⟨P,hP⟩:=d1;split at q1
 .rename_i ak
  refine⟨λn m ys A=>m=k.ds.length - n/\n<=k.ds.length/\ys.length<=n/\ ∃p S2,Ext α H p A/\Wd X.g p S2 A/\P p S2 A/\ ∃a,DenL X.K p A a ys/\Post X.g W α H ((yD gf cf ef (vE T.length idx ρ) k.gs (k.ds.drop n) S2).bind λo S'=>.ok (Er.new (a++o)) S') Q,
   ⟨_,rfl,zero_le _,à _,ah,S1,x1,w1,hP.here,[],zW,by simpa using q1⟩,?_⟩
  rintro n m ys A ⟨rfl,hn,hy,p,S2,x2,w2,p2,a,l,q2⟩;obtain⟨i1,i2⟩:=hP.it n p S2 A p2 w2;refine⟨by omega,?_⟩;by_cases w:n<k.ds.length
  .obtain⟨go,yl⟩:=i1 w;refine .inr ⟨go,by omega,λv H3 y τ F=>?_⟩;obtain⟨x3,w3,p3,d,hd,dv⟩:=yl v H3 y;have O:k.ds.drop n=d::k.ds.drop (n+1):=by rw[ĥ w];have:=gE w;rw[hd]at this;rw[<-ä this]
   rw[O]at q2;unfold yD at q2;have aj:=XD (sl.ext (x2.trans x3)) T.length idx τ F;refine kg p (vE T.length idx ρ) S2 _ H3 d v _ w3 aj dv ?_;rw[R.bind_assoc]at q2;refine q2.bindY (x2.trans x3) λG ab S4 U H4 e4 x4 w4 s4 q4 L ag=>⟨⟨G.take T.length,?_,?_⟩,λC s₂ fp=>?_⟩
   .refine ext_getElem? λj=>?_;have aq:G.length=T.length+idx.length:=by rw[L,lA,fV,F]
    by_cases hj:j<T.length
    .rw[á (by rw[lT];omega),Ī hj]
    .rw[ag j (by omega),æ (by omega),æ (by rw[lT];omega),F,lT,min_eq_left (by omega)]
   .rw[lT,L,lA,fV,F];omega
   have B:Ext α H U H4:=(x2.trans x3).trans x4;have p4: ∀h E H5,Ext U H4 h H5->Wd X.g h E H5->stay k.gs E->P h E H5:=λh E H5 z w5 s5=>hP.stays p S2 H3 h E H5 p3 (x4.trans z) w5 s5;rw[R.bind_assoc]at q4;refine(ā (hc C s₂ H1 fp)).2 U ab S4 G H4 _ w4 s4 (q4.bindY B λb5 ar E h H5 e5 z w5 d5 Z=>?_);cases d5
   cases b5 with
   |false=>
    rw[iN xF0]at Z ⊢;split at Z
    .rename_i Y;exact⟨k.ds.length - (n+1),by omega,rfl,w,by omega,h,E,B.trans z,w5,p4 h E H5 z w5 Y,a,(l.ext (x3.trans x4)).ext z,Z⟩
    .exact Z.elim
   |true=>
    rw[iP rfl,R.bind_assoc]at Z;rw[iP rfl];refine(ā (he C s₂ H1 fp)).2 h ab E G H5 _ w5 (s4.ext z) (Z.bindY (B.trans z) λy6 r6 S6 au H6 e6 x6 w6 d6 M=>?_);obtain⟨d',S',α',e7,x7,y7,w7,de⟩:=bR w6 x6 d6;rw[e7]at M;have M:Post X.g W α H ((if stay k.gs S' then(yD gf cf ef (vE T.length idx ρ) k.gs (k.ds.drop (n+1)) S').bind λout S4=>.ok (d'::out) S4 else .no).bind λo S'=>.ok (Er.new (a++o)) S') Q:=M;split at M
    .rename_i Y;refine⟨k.ds.length - (n+1),by omega,rfl,w,by rw[lA,lS];omega,α',S',(B.trans z).trans x7,w7,p4 α' S' H6 (z.trans x7) w7 Y,a++[d'],((l.ext (x3.trans x4)).ext (z.trans x7)).append (zQ de zW),?_⟩;rw[R.bind_assoc]at M;have e8:(λ(o:C8) (S':Sto)=>R.ok (Er.new ((a++[d'])++o)) S')=(λ(b:C8) S=>(R.ok (d'::b) S).bind λo S'=>.ok (Er.new (a++o)) S'):=by funext o S';show _=R.ok (Er.new (a++(d'::o))) S';rw[aA];rfl
     rw[e8];exact M
    .exact M.elim
  .have e:n=k.ds.length:=by omega
   subst e;rw[List.drop_length]at q2;have q3:Post X.g W α H (.ok (Er.new (a++[])) S2) Q:=q2;rw[aN]at q3;exact .inl ⟨i2 (à _),λD hD=>(q3.shift x2).newl w2 hD l⟩
 .exact q1.elim
open Classical in
def Hv{elt:Expr}{ifs:C5}{sc:Scope}{b:Rho->Sto->R Wk}{cf:AZ}{ef:AX}(a:Scope)(N:B7)(T:B7)(idx:Db)
  (hi:HL X W tg iter b) (hcalm:X.calm=true)
  (hg: ∀C s₂ H1 fp,([]++T++idx.map λi=>(N[i]?).getD Str.empty).Nodup->Ff T.length (zM X sc T idx C s₂ H1 fp) W0 tg gf)
  (hc: ∀C s₂ H1 fp,NI (zM X sc T idx C s₂ H1 fp) W0 ifs cf) (he: ∀C s₂ H1 fp,zN (zM X sc T idx C s₂ H1 fp) W0 elt ef)
  (e1:X.env.scope=a:=by rfl) (e2:X.N=N:=by rfl) (hB:rL a N sc idx=true:=by decide+kernel) (hN:([]++T++idx.map λi=>(N[i]?).getD Str.empty).Nodup:=by decide+kernel)
  (hs: ∀y,foldedSetIterable iter X.env y=pure y:=by intro _;rfl):
  zN X W (.ListComp elt [⟨tg,iter,ifs,0⟩] sc pos) (λρ S=>(b ρ S).bind λk S1=>if k.ds.length<1000000 then(yD gf cf ef (vE T.length idx ρ) k.gs k.ds S1).bind λout S2=>.ok (.new out) S2 else .no):=let ⟨t,h,k⟩:=(TF a N T idx hi (λ_ _ _ _ _ _ _=>hcalm) hg hc he e1 e2 hB hN hs);⟨t,h.1,k⟩
open Classical in
def Hw{x:Str}{b a:Pos}(i:Nat)(j:X.N.Nodup){elt:Expr}{ifs:C5}{sc:Scope}{d:Rho->Sto->R Wk}{cf:AZ}{ef:AX}(c:Scope)(N:B7)(T:B7)(idx:Db)
  (hi:HL X W tg iter d) (hcalm:X.calm=true)
  (hg: ∀C s₂ H1 fp,([]++T++idx.map λi=>(N[i]?).getD Str.empty).Nodup->Ff T.length (zM X sc T idx C s₂ H1 fp) W0 tg gf)
  (hc: ∀C s₂ H1 fp,NI (zM X sc T idx C s₂ H1 fp) W0 ifs cf) (he: ∀C s₂ H1 fp,zN (zM X sc T idx C s₂ H1 fp) W0 elt ef)
  (n:X.env.scope=c:=by rfl) (e2:X.N=N:=by rfl) (hB:rL c N sc idx=true:=by decide+kernel) (hN:([]++T++idx.map λi=>(N[i]?).getD Str.empty).Nodup:=by decide+kernel)
  (hs: ∀y,foldedSetIterable iter X.env y=pure y:=by intro _;rfl)
  (hi2:X.N[i]? =some x:=by rfl) (hx:Loc X.env.scope x:=by first |exact Or.inl rfl|exact Or.inr rfl)
  (hsw:swapsWith (.ListComp elt [⟨tg,iter,ifs,0⟩] sc pos) (some (.Name x b)) a.line X.env=pure true:=by with_unfolding_all rfl) (hf:Q1 X x:=by first |exact .inl rfl|exact .inr rfl|assumption):
  NH X W (.Assign [.Name x b] (.ListComp elt [⟨tg,iter,ifs,0⟩] sc pos) a) (λρ S=>((d ρ S).bind λk S1=>if k.ds.length<1000000 then(yD gf cf ef (vE T.length idx ρ) k.gs k.ds S1).bind λout S2=>.ok (.new out) S2 else .no).bind (DZ ρ i)):=by
 obtain⟨t,h,k⟩:=(TF c N T idx hi (λ_ _ _ _ _ _ _=>hcalm) hg hc he n e2 hB hN hs)
 refine⟨_,h.2 i x b a j hi2 hx hf hsw,λα ρ S σ H D A sl q=>k α ρ S σ H _ A sl (q.expr λu r S1 s H1 e o p v m=>?_)⟩;obtain⟨F,S',α',n,E,z,w,B⟩:=bR p o v;unfold DZ at m;rw[n]at m;exact m _ α' H1 E w (((sl.ext o).ex0 z).set B)
end
mutual
def lo(n:Nat):MV->Prop
 |.loc l=>l<n
 |.tup ds=>tF n ds
 |.scr ds=>tF n ds
 |.obj _ _ ds=>tF n ds
 |_=>True
def tF(n:Nat):List MV->Prop
 |[]=>True
 |d::ds=>lo n d/\tF n ds
end
def loO(n:Nat):MO->Prop
 |.lst ds=>tF n ds
 |.dic kvs=> ∀p∈kvs,lo n p.1/\lo n p.2
 |.ins _ fs=> ∀p∈fs,lo n p.2
 |.rcd _ fs=> ∀p∈fs,lo n p.2
 |.fdc kvs=> ∀p∈kvs,lo n p.1/\lo n p.2
section
variable{K:C6}{α t:B6}{H:Hp}
mutual
theorem Den.back: ∀{d:MV}{v:V},Den K (α++t) H d v->lo α.length d->Den K α H d v
 |.non,_,q,_=>by cases dD q;exact tL
 |.bl _,_,q,_=>by cases oY q;exact dC _
 |.int _,_,q,_=>by cases xI q;exact yV _
 |.str _,_,q,_=>by cases xK q;exact mN _
 |.typ _,_,q,_=>by cases dE q;exact TB _
 |.obj c ns ds,_,q,h=>by obtain⟨a,C,k,vs,o,rfl,e,i,j,b,l⟩:=bN q;exact Hc e i j b (DenL.back l (by unfold lo at h;exact h))
 |.loc l,_,q,h=>by
  obtain⟨a,rfl,e⟩:=gG q;have b:l<α.length:=by unfold lo at h;exact h
  rw[á b]at e;exact mP e
 |.tup ds,_,q,h=>by obtain⟨a,vs,rfl,s,l⟩:=yO q;exact nB s (DenL.back l (by unfold lo at h;exact h))
 |.scr ds,_,q,h=>by obtain⟨a,vs,rfl,s,l⟩:=bO q;exact TC s (DenL.back l (by unfold lo at h;exact h))
theorem DenL.back: ∀{ds:C8}{vs:List V},DenL K (α++t) H ds vs->tF α.length ds->DenL K α H ds vs
 |[],_,q,_=>by rw[q.isnil];exact zW
 |d::ds,_,q,h=>by obtain⟨v,r,rfl,a,l⟩:=q.uncons;unfold tF at h;exact zQ (Den.back a h.1) (DenL.back l h.2)
end
mutual
theorem Den.lo: ∀{d:MV}{v:V},Den K α H d v->lo α.length d
 |.non,_,q=>by unfold M.lo;trivial
 |.bl _,_,q=>by unfold M.lo;trivial
 |.int _,_,q=>by unfold M.lo;trivial
 |.str _,_,q=>by unfold M.lo;trivial
 |.typ _,_,q=>by unfold M.lo;trivial
 |.obj c ns ds,_,q=>by obtain⟨a,C,j,vs,o,rfl,e,b,h,i,l⟩:=bN q;unfold M.lo;exact DenL.lo l
 |.loc l,_,q=>by obtain⟨a,rfl,e⟩:=gG q;unfold M.lo;exact(gS.mp e).1
 |.tup ds,_,q=>by obtain⟨a,vs,rfl,s,l⟩:=yO q;unfold M.lo;exact DenL.lo l
 |.scr ds,_,q=>by obtain⟨a,vs,rfl,s,l⟩:=bO q;unfold M.lo;exact DenL.lo l
theorem DenL.lo: ∀{ds:C8}{vs:List V},DenL K α H ds vs->tF α.length ds
 |[],_,q=>by unfold tF;trivial
 |d::ds,_,q=>by obtain⟨v,r,rfl,a,l⟩:=q.uncons;unfold tF;exact⟨Den.lo a,DenL.lo l⟩
end
theorem DenK.back: ∀{fs gs},DenK K (α++t) H fs gs->(∀p∈fs,M.lo α.length p.1/\M.lo α.length p.2)->DenK K α H fs gs
 |_,_,.nil,_=>.nil
 |_,_,.cons k a l,h=>.cons k (a.back (h _ mF0).2) (DenK.back l λp b=>h p (mO _ b))
def KeyD.lo{n:Nat}{k:MV}{k':Key}(h:KeyD k k'):M.lo n k:=by
 unfold KeyD at h;split at h
 .unfold M.lo;trivial
 .unfold M.lo;trivial
 .exact h.elim
theorem DenK.lo: ∀{fs gs},DenK K α H fs gs-> ∀p∈fs,M.lo α.length p.1/\M.lo α.length p.2
 |_,_,.nil=>λp h=>by simp at h
 |_,_,.cons k a l=>λp h=>(mC.mp h).elim (λe=>by subst e;exact⟨k.lo,a.lo⟩) (DenK.lo l p)
theorem DenN.back: ∀{fs xs},DenN K (α++t) H fs xs->(∀p∈fs,M.lo α.length p.1/\M.lo α.length p.2)->DenN K α H fs xs
 |_,_,.nil,_=>.nil
 |_,_,.cons k e a d r l,h=>.cons k e (a.back (h _ mF0).1) (d.back (h _ mF0).2) r (DenN.back l λp b=>h p (mO _ b))
theorem DenN.lo: ∀{fs xs},DenN K α H fs xs-> ∀p∈fs,M.lo α.length p.1/\M.lo α.length p.2
 |_,_,.nil=>λp h=>by simp at h
 |_,_,.cons k e a d r l=>λp h=>(mC.mp h).elim (λz=>by subst z;exact⟨a.lo,d.lo⟩) (DenN.lo l p)
theorem DenF.back: ∀{fs gs},DenF K (α++t) H fs gs->(∀p∈fs,M.lo α.length p.2)->DenF K α H fs gs
 |_,_,.nil,_=>.nil
 |_,_,.cons a l,h=>.cons (a.back (h _ mF0)) (DenF.back l λp b=>h p (mO _ b))
theorem DenF.lo: ∀{fs gs},DenF K α H fs gs-> ∀p∈fs,M.lo α.length p.2
 |_,_,.nil=>λp h=>by simp at h
 |_,_,.cons a l=>λp h=>(mC.mp h).elim (λe=>by subst e;exact a.lo) (DenF.lo l p)
def ObD.back{g:Gm}{a:Addr}{o:MO}(q:ObD g (α++t) H a o)(h:loO α.length o):ObD g α H a o:=by
 cases o with
 |lst ds=>obtain⟨vs,h1,l⟩:=q;exact⟨vs,h1,l.back h⟩
 |dic ds=>
  rcases q with⟨vs,h1,l⟩|⟨vs,h1,l⟩
  .exact .inl ⟨vs,h1,l.back h⟩
  .exact .inr ⟨vs,h1,l.back h⟩
 |ins c fs=>obtain⟨C,gs,m,l,r⟩:=q;exact⟨C,gs,m,l.back h,r⟩
 |rcd c fs=>obtain⟨C,d,gs,m,h1,l⟩:=q;exact⟨C,d,gs,m,h1,l.back h⟩
 |fdc kvs=>obtain⟨b,xs,h1,l⟩:=q;exact⟨b,xs,h1,l.back h⟩
def ObD.lo{g:Gm}{a:Addr}{o:MO}(q:ObD g α H a o):loO α.length o:=by
 cases o with
 |lst ds=>obtain⟨vs,h1,l⟩:=q;exact l.lo
 |dic ds=>
  rcases q with⟨vs,h1,l⟩|⟨vs,h1,l⟩
  .exact l.lo
  .exact l.lo
 |ins c fs=>obtain⟨C,gs,m,l,r⟩:=q;exact l.lo
 |rcd c fs=>obtain⟨C,d,gs,m,h1,l⟩:=q;exact l.lo
 |fdc kvs=>obtain⟨b,xs,h1,l⟩:=q;exact l.lo
end
def NL(S S2:Sto):Prop:=↑2<=S2.length/\ ∀l,l<↑2->S2[l]? =S[l]? \/ ∃o,S2[l]? =some o/\loO ↑2 o
open Classical in
noncomputable def kZ(S:Sto)(r:Er)(S2:Sto):R Er:=
 if NL S S2 then match r with
  |.val (.loc l)=>if l<S.length then .ok r (S2.take S.length)else match S2[l]? with
   |some (.lst ds)=>if tF S.length ds then .ok (.new ds) (S2.take S.length)else .ok r S2
   |_=>.ok r S2
  |.val d=>if lo S.length d then .ok r (S2.take S.length)else .ok r S2
  |.new ds=>if tF S.length ds then .ok r (S2.take S.length)else .ok r S2
 else .ok r S2
theorem Hx{g:Gm}{i E j:B6}{H1 w:Hp}{S1 J:Sto}{r:Er}(L:Ext α H i H1)(N:Wd g i S1 H1)(P: ∃t,E=i++t)(x2:Ext α H E H1)(X:Ext E H1 j w)(s:Wd g j J w)(d:DenE g.K H1 j w r v):
  ∃W S' α',kZ S1 r J=.ok W S'/\Ext α H α' w/\Wd g α' S' w/\DenE g.K H α' w W v:=by
 have k:=x2.trans X;have c:=d.back λb h=>L.free h;unfold kZ;by_cases I:NL S1 J
 .rw[iP I];obtain⟨t,D⟩: ∃t,j=i++t:=by obtain⟨t,e⟩:=P;obtain⟨u,e'⟩:=X.pre;exact⟨_,by rw[e',e,aA]⟩
  have F:=N.len;have y:Ext α H i w:=⟨⟨L.pre,k.tup,k.frz⟩,L.new,k.keep,k.has⟩
  have A:Wd g i (J.take S1.length) w:=by
   refine⟨by rw[lT,F,min_eq_left I.1],N.nd,λl a o h1 C=>?_⟩;have n:l<S1.length:=by rw[<-F];exact(gS.mp h1).1
   rw[Ī n]at C;have Q:j[l]? =some a:=by rw[D,á (by rw[F];exact n)];exact h1
   have q:=s.obj l a o Q C;rw[D]at q;refine q.back ?_;rcases I.2 l n with e|⟨o',e,lo'⟩
   .rw[e]at C;exact(N.obj l a o h1 C).lo
   .rw[C]at e;cases e;rw[F];exact lo'
  have p: ∀d,lo S1.length d->Den g.K j w d v->DenE g.K H i w _ v:=λd hd q=>.val ((D▸q:Den g.K _ w d v).back (by rw[F];exact hd))
  cases r with
  |new ds=>
   dsimp only;split
   .rename_i n;obtain⟨⟨b,vs,rfl,h1,C,h3⟩,Z⟩:=c;exact⟨_,_,i,rfl,y,A,⟨b,vs,rfl,h1,λz=>C (by rw[D];exact ă _ z),(D▸h3:DenL g.K _ w ds vs).back (by rw[F];exact n)⟩,Z⟩
   .exact⟨_,_,j,rfl,k,s,c⟩
  |val mv=>
   have B:Den g.K j w mv v:=c.1
   cases mv with
   |loc l=>
    dsimp only;split
    .rename_i n;exact⟨_,_,i,rfl,y,A,p _ (by unfold lo;exact n) B⟩
    .rename_i n;obtain⟨a,rfl,M⟩:=gG B;split
     .rename_i ds Y;split
      .rename_i T;obtain⟨vs,h1,C⟩:=s.obj l a _ M Y
       have G:a∉i:=λz=>by
        obtain⟨m,U⟩:=getElem?_of_mem z;have S:m<i.length:=(gS.mp U).1;have O:j[m]? =some a:=by rw[D,á S];exact U
        obtain⟨u1,e1⟩:=gS.mp O;obtain⟨u2,e2⟩:=gS.mp M;have:=(getElem_inj s.nd).mp (e1.trans e2.symm)
        lia
       refine⟨_,_,i,rfl,y,A,⟨a,vs,rfl,h1,G,(D▸C:DenL g.K _ w ds vs).back (by rw[F];exact T)⟩,λb e=>?_⟩;cases e;rcases k.new a (è M)with z|z
       .obtain⟨u,eu⟩:=L.pre;exact absurd (by rw[eu];exact ă _ z) G
       .exact z
      .exact⟨_,_,j,rfl,k,s,c⟩
     .exact⟨_,_,j,rfl,k,s,c⟩
   |non=>dsimp only;split;(· rename_i n;exact⟨_,_,i,rfl,y,A,p _ n B⟩);(· exact⟨_,_,j,rfl,k,s,c⟩)
   |bl b=>dsimp only;split;(· rename_i n;exact⟨_,_,i,rfl,y,A,p _ n B⟩);(· exact⟨_,_,j,rfl,k,s,c⟩)
   |int b=>dsimp only;split;(· rename_i n;exact⟨_,_,i,rfl,y,A,p _ n B⟩);(· exact⟨_,_,j,rfl,k,s,c⟩)
   |str b=>dsimp only;split;(· rename_i n;exact⟨_,_,i,rfl,y,A,p _ n B⟩);(· exact⟨_,_,j,rfl,k,s,c⟩)
   |typ b=>dsimp only;split;(· rename_i n;exact⟨_,_,i,rfl,y,A,p _ n B⟩);(· exact⟨_,_,j,rfl,k,s,c⟩)
   |obj b b' b''=>dsimp only;split;(· rename_i n;exact⟨_,_,i,rfl,y,A,p _ n B⟩);(· exact⟨_,_,j,rfl,k,s,c⟩)
   |tup b=>dsimp only;split;(· rename_i n;exact⟨_,_,i,rfl,y,A,p _ n B⟩);(· exact⟨_,_,j,rfl,k,s,c⟩)
   |scr b=>dsimp only;split;(· rename_i n;exact⟨_,_,i,rfl,y,A,p _ n B⟩);(· exact⟨_,_,j,rfl,k,s,c⟩)
 .rw[iN I];exact⟨_,_,j,rfl,k,s,c⟩
def QZ(g:Gm)(n:Nat)(F:List MV->Sto->R Er):Sp:=λvs H Q _=> ∃α S ds,Wd g α S H/\DenL g.K α H ds vs/\ds.length=n/\Post g W0 α H (F ds S) Q
def zK(n:Nat)(F:List MV->Sto->R Er)(rs:List Er)(S:Sto):R Er:=if rs.length=n then(noX (F (zF rs S).1 (zF rs S).2)).bind λr S2=>kZ S r S2 else .no
section
variable{X:Cx}{W:XW}{e:Expr}{es:C5}{af:Rho->Sto->R (List Er)}{pos:Pos}
def HN{n:Nat}{F:List MV->Sto->R Er}{vs:List V}{a:B6}{H1:Hp}{S1:Sto}{Q:VK}(e:Ext α H a H1)(d:Wd X.g a S1 H1)(s:ArgsE X.K H a H1 rs vs)(q:Post X.g W α H (zK n F rs S1) Q):
  QZ X.g n F vs H1 Q E0:=by
 unfold zK at q;split at q
 .rename_i i;obtain⟨b,m,u,j,l2⟩:=pT d e s;refine⟨b,_,_,j,l2,by rw[vK];exact i,?_⟩
  cases z:F (zF rs S1).1 (zF rs S1).2 with
  |ok r S3=>
   rw[z]at q;intro v y A p o h;obtain⟨D,S',α',k,w,C,B⟩:=Hx e d u.pre m p o h;have q:Post X.g W α H (kZ S1 r S3) Q:=q;rw[k]at q;exact q v α' A w C B
  |exc c fs S3=>rw[z]at q;exact q.elim
  |no=>rw[z]at q;exact q.elim
 .exact q.elim
def Hy{k n:Nat}{fa:Addr}{fd:FuncData}{ps:B7}{F:List MV->Sto->R Er}{x:Str}{p:Pos}(G:FnOk X.prog X.w X.K X.mg X.base DP k fa fd ps (QZ X.g n F))(r:Room k X.A)(b:Gl X x)(d:X.mg x=some (.ref fa))
  (hk:PySem.W.keepIn X.K (.ref fa)=true) (hb:Binds X.K fd ps []) (a:CN X W (e::es) af) (hdb:(x==("__debug__":Str))=false:=by decide)
  (he:q9 X e es:=by rfl) (hpl:Q0 X pos es:=by rfl):
  zN X W (.Call (.Name x p) (e::es) [] pos) (λρ S=>(af ρ S).bind λrs S1=>zK n F rs S1):=by
 obtain⟨t,a,c⟩:=a;refine⟨_,Gf G r b d hk hb .nil Xj a hdb he hpl,λα ρ S σ H Q s sl q=>c α ρ S σ H _ s sl (q.bind λvs rs S1 j H1 u o i m h=>?_)⟩;rw[aN];exact HN o i m h
end
noncomputable def zT(N:B7)(ds:C8):Rho:=ds.map some++List.replicate (N.length - ds.length) none
noncomputable def yC:R Fl->R Er
 |.ok (.next _) S=>.ok (.val .non) S
 |.ok (.ret r) S=>.ok r S
 |.exc c fs S=>.exc c fs S
 |_=>.no
def NN{K:C6}{N:B7}{ds:C8}{vs:List V}(l:DenL K α H ds vs):Slots K α H (zT N ds) (start N vs):=by
 have a:=l.length;refine⟨?_,λi d e=>?_⟩
 .unfold start zT;rw[lA,lA,lM,lM,Ċ,Ċ,a]
 .unfold zT at e;by_cases hi:i<ds.length
  .rw[á (by simpa using hi),ö]at e
   cases z:ds[i]? with
   |none=>rw[z]at e;cases e
   |some d'=>
    rw[z]at e;obtain⟨v,h1,b⟩:=l.at z;have c:=ä (ä e);subst c;refine⟨v,?_,b⟩;unfold start;rw[á (by rw[lM,a];exact hi),ö,h1];rfl
  .rw[æ (by simpa using hi),List.getElem?_replicate]at e;split at e<;>cases e
section
variable{P:Ō}{w:World}{K:C6}{mg:B8}{base:Heap}
def okM{x qual:Str}{st:Stmt}{f:Addr}{fd:FuncData}{N ps:B7}{k:Nat}(i:AY)(F:Fun K x qual st f fd)(n:FnScope N ps (zP st))
  (hbody: ∀(b:Ŋ)(A:ŋ)(a:List Env)(s:ŉ)(H:Hp)(E:XK),Room k (A.deeper (envOfC qual (zP st) ↑0 f b))->
   vL (JC DP P w K mg base N qual (zP st) f b A a s H E).nox W0 (gC st) i):
  FnOk P w K mg base DP (k+1) f fd ps (QZ ⟨K,mg,P,w⟩ ps.length λds S=>yC (i (zT N ds) S)):=by
 refine F.ok n (λvs H Q E h=>?_) (λb A a s H vs Q E o h=>?_)
 .obtain⟨α,S,ds,_,l,j,_⟩:=h;rw[l.length,j]
 .obtain⟨α,S,ds,u,l,j,q⟩:=h;obtain⟨t,m,y⟩:=hbody b A a s H E o;refine⟨t,m,y α _ S _ H _ u (NN l) ?_⟩;dsimp only at q
  cases z:i _ S with
  |ok fl S'=>
   rw[z]at q
   cases fl with
   |next ρ=>exact λσ α' H' e d s'=>q .non α' H' e d (DenE.val tL)
   |ret r=>exact λv α' H' e d p=>q v α' H' e d p
   |brk ρ=>exact q.elim
   |cont ρ=>exact q.elim
  |exc c fs S'=>rw[z]at q;exact λα' H' e d=>q α' H' e d
  |no=>rw[z]at q;exact q
end
inductive Vw where
 |fl (v:V)|tp (ds:C8)|ls (ds:C8)
noncomputable def jD(S:Sto):Er->Option (List MV)
 |.new ds=>some ds
 |.val (.scr ds)=>some ds
 |.val (.loc l)=>match S[l]? with
  |some (.lst ds)=>some ds
  |_=>none
 |_=>none
def HP(S:Sto):Er->Option Vw
 |.val .non=>some (.fl .non)
 |.val (.bl b)=>some (.fl (.bl b))
 |.val (.int i)=>some (.fl (.int i))
 |.val (.str x)=>some (.fl (.str (fR x)))
 |.val (.tup ds)=>some (.tp ds)
 |.val (.typ _)=>none
 |.val (.obj _ _ _)=>none
 |r=>(jD S r).map .ls
noncomputable def BC(e:MV->MV->Option Bool):List MV->List MV->Option (List Bool)
 |d::ds,f::fs=>(e d f).bind λk=>(BC e ds fs).map (k::·)
 |_,_=>some []
def Qr(e:MV->MV->Option Bool):Vw->Vw->Option Bool
 |.fl x,.fl y=>some (Gq x y)
 |.tp ds,.tp es=>(BC e ds es).map λbs=>bs.all id&&ds.length==es.length
 |.ls ds,.ls es=>if ds.length=es.length then(BC e ds es).map λbs=>bs.all id else some false
 |_,_=>some false
theorem RA(e:MV->MV->Option Bool)(ds es:C8):Qr e (.tp ds) (.tp es)=(BC e ds es).map λbs=>bs.all id&&ds.length==es.length:=rfl
theorem RB(e:MV->MV->Option Bool)(ds es:C8):Qr e (.ls ds) (.ls es)=if ds.length=es.length then(BC e ds es).map λbs=>bs.all id else some false:=rfl
noncomputable def eqv(S:Sto):Nat->MV->MV->Option Bool
 |0,_,_=>none
 |n+1,a,b=>(HP S (.val a)).bind λx=>(HP S (.val b)).bind λy=>Qr (eqv S n) x y
def CG(S:Sto)(n:Nat)(a b:Er):Option Bool:=(HP S a).bind λx=>(HP S b).bind λy=>Qr (eqv S n) x y
section
variable{X:Cx}{α:B6}{S:Sto}{H:Hp}
def tN{K:C6}{g:Gm}(c:g.K=K)(j:Wd g α S H){r:Er}{ds:C8}{x:V}(e:jD S r=some ds)(d:DenX K α H r x): ∃a vs,x=.ref a/\SqL K H a vs/\DenL K α H ds vs:=by
 subst c;unfold jD at e;split at e
 .cases e;obtain⟨b,vs,rfl,h,_,l⟩:=d;exact⟨b,vs,rfl,.of h,l⟩
 .cases e;obtain⟨a,vs,rfl,s,l⟩:=DX d;exact⟨a,vs,rfl,s.l,l⟩
 .rename_i n;obtain⟨a,rfl,h⟩:=aU d;split at e
  .rename_i es i;cases e;obtain⟨vs,h1,l⟩:=j.obj n a _ h i;exact⟨a,vs,rfl,.of h1,l⟩
  .cases e
 .cases e
def oZ{r:Er}{x y:V}(e:HP S r=some (.fl y))(d:DenX X.K α H r x):x=y/\lP y=true:=by
 unfold HP at e;split at e
 .cases e;exact⟨vI d,rfl⟩
 .cases e;exact⟨DW d,rfl⟩
 .cases e;exact⟨yP d,rfl⟩
 .cases e;exact⟨bP d,rfl⟩
 .cases e
 .cases e
 .cases e
 .cases z:jD S r<;>rw[z]at e<;>cases e
def pC{r:Er}{x:V}{ds:C8}(e:HP S r=some (.tp ds))(d:DenX X.K α H r x): ∃a vs,x=.ref a/\SqT X.K H a vs/\DenL X.K α H ds vs:=by
 unfold HP at e;split at e
 .cases e
 .cases e
 .cases e
 .cases e
 .cases e;exact dF d
 .cases e
 .cases e
 .cases z:jD S r<;>rw[z]at e<;>cases e
def pD(b:Wd X.g α S H){r:Er}{x:V}{ds:C8}(e:HP S r=some (.ls ds))(d:DenX X.K α H r x): ∃a vs,x=.ref a/\SqL X.K H a vs/\DenL X.K α H ds vs:=by
 unfold HP at e;split at e
 .cases e
 .cases e
 .cases e
 .cases e
 .cases e
 .cases e
 .cases e
 .cases z:jD S r with
  |none=>rw[z]at e;cases e
  |some es=>rw[z]at e;cases e;exact tN rfl b z d
theorem qP{e:MV->MV->Option Bool}: ∀{ds es:C8}{bs:C1},BC e ds es=some bs->bs.length=min ds.length es.length
 |[],_,_,h=>by simp[BC]at h;subst h;simp
 |_::_,[],_,h=>by simp[BC]at h;subst h;simp
 |d::ds,f::fs,bs,h=>by
  unfold BC at h
  cases z:e d f with
  |none=>rw[z]at h;cases h
  |some k=>
   rw[z]at h
   cases a:BC e ds fs with
   |none=>simp[a]at h
   |some cs=>
    simp[a]at h;subst h;simp[qP a]
theorem JR{e:MV->MV->Option Bool}: ∀{ds es:C8}{bs:C1}{j:Nat}{d f:MV},BC e ds es=some bs->ds[j]? =some d->es[j]? =some f->e d f=some (bs.getD j true)
 |[],_,_,_,_,_,h,h1,_=>by simp at h1
 |_::_,[],_,_,_,_,h,_,h2=>by simp at h2
 |d::ds,f::fs,bs,j,d',f',h,h1,h2=>by
  unfold BC at h
  cases z:e d f with
  |none=>rw[z]at h;cases h
  |some k=>
   rw[z]at h
   cases a:BC e ds fs with
   |none=>simp[a]at h
   |some cs=>
    simp[a]at h;subst h
    cases j with
    |zero=>simp at h1 h2;subst h1 h2;simpa using z
    |succ j=>simpa using JR a (by simpa using h1) (by simpa using h2)
def range_all{bs:C1}{n:Nat}(h:bs.length=n):(List.range n).all (λj=>bs.getD j true)=bs.all id:=by
 subst h;rw[Bool.eq_iff_iff,ą,ą];constructor
 .intro h x b;obtain⟨i,hi,rfl⟩:=List.getElem_of_mem b;have:=h i (mem_range.mpr hi);simpa [List.getD_eq_getElem?_getD,hi]using this
 .intro h i hi;have a:=mem_range.mp hi;have:=h bs[i] (getElem_mem a);simpa [List.getD_eq_getElem?_getD,a]using this
variable{pins:C0}{σ:St}{s:ŉ}
def tO(I:↑1){a:Addr}{ys:List V}(h:SqL X.K H a xs)(h':SqT X.K H a ys):False:=by obtain⟨_,_,i,_⟩:=I.list h;obtain⟨_,_,pt,_⟩:=I.tuple h';obtain⟨o,n,e,c,_,_⟩:=i;obtain⟨o',d,b,_⟩:=pt;rw[e]at d;cases d;rw[c]at b;exact absurd b (by simp)
theorem Ar(I:↑1)(n:Wd X.g α S H){e:MV->MV->Option Bool}(F: ∀d f v k,Den X.K α H d v->Den X.K α H f v->e d f=some k->k=true){a b:Er}{x:V}{p q:Vw}{k:Bool}
  (ha:HP S a=some p) (hb:HP S b=some q) (da:DenX X.K α H a x) (db:DenX X.K α H b x) (h:Qr e p q=some k):k=true:=by
 have B: ∀{ds es:C8}{vs:List V}{bs:C1},DenL X.K α H ds vs->DenL X.K α H es vs->BC e ds es=some bs->bs.all id=true:=by
  intro ds es vs bs l1 l2 z;rw[ą];intro k E;obtain⟨i,hi,rfl⟩:=List.getElem_of_mem E;have J:=qP z;have h1:i<ds.length:=by lia
  have A:i<es.length:=by lia
  obtain⟨v,G,g2⟩:=l1.at (gE h1);obtain⟨L,w,C⟩:=l2.at (gE A);rw[G]at w;cases w;have:=F _ _ _ _ g2 C (JR z (gE h1) (gE A));simpa [List.getD_eq_getElem?_getD,hi]using this
 cases p with
 |fl y=>
  obtain⟨rfl,u⟩:=oZ ha da
  cases q with
  |fl z=>obtain⟨rfl,o⟩:=oZ hb db;cases h;exact Ai u
  |tp ds=>obtain⟨a,vs,rfl,_⟩:=pC hb db;exact absurd u xF0
  |ls ds=>obtain⟨a,vs,rfl,_⟩:=pD n hb db;exact absurd u xF0
 |tp ds=>
  obtain⟨D,vs,rfl,m,l1⟩:=pC ha da
  cases q with
  |fl z=>obtain⟨rfl,o⟩:=oZ hb db;exact absurd o xF0
  |tp es=>
   obtain⟨r,us,c,j,l2⟩:=pC hb db;cases c;cases I.tuple_inj m j;rw[RA]at h
   cases z:BC e ds es with
   |none=>rw[z]at h;cases h
   |some bs=>
    rw[z]at h;cases h;show(bs.all id&&ds.length==es.length)=true;rw[B l1 l2 z, <-l1.length, <-l2.length];simp
  |ls es=>obtain⟨r,us,c,j,l2⟩:=pD n hb db;cases c;exact(tO I j m).elim
 |ls ds=>
  obtain⟨D,vs,rfl,m,l1⟩:=pD n ha da
  cases q with
  |fl z=>obtain⟨rfl,o⟩:=oZ hb db;exact absurd o xF0
  |tp es=>obtain⟨r,us,c,j,l2⟩:=pC hb db;cases c;exact(tO I m j).elim
  |ls es=>
   obtain⟨r,us,c,j,l2⟩:=pD n hb db;cases c;cases I.list_inj m j;rw[RB]at h;rw[iP (by rw[<-l1.length, <-l2.length])]at h
   cases z:BC e ds es with
   |none=>rw[z]at h;cases h
   |some bs=>rw[z]at h;cases h;exact B l1 l2 z
theorem EA(I:↑1)(c:Wd X.g α S H): ∀(n:Nat)(d f:MV)(v:V)(k:Bool),Den X.K α H d v->Den X.K α H f v->eqv S n d f=some k->k=true
 |0,_,_,_,_,_,_,h=>by cases h
 |n+1,d,f,v,k,h1,h2,h=>by
  unfold eqv at h
  cases a:HP S _ with
  |none=>rw[a]at h;cases h
  |some p=>
   cases b:HP S _ with
   |none=>rw[a,b]at h;cases h
   |some q=>
    rw[a,b]at h;exact Ar I c (EA I c n) a b h1 h2 h
def tP{e:MV->MV->Option Bool}{A:ŋ}(m: ∀d f x y u v k,Den X.K α H d x->Den X.K α H f y->RelV x u->RelV y v->e d f=some k->SeqAt.EqAt A s u v k)
  {ds es:C8} {vs us:List V} {its its2:A0} {bs:C1} (l1:DenL X.K α H ds vs) (l2:DenL X.K α H es us) (r1:Vals vs its) (r2:Vals us its2) (z:BC e ds es=some bs):
  ∀j (h1:j<its.toArray.size) (a:j<its2.toArray.size),SeqAt.EqAt A s its.toArray[j] its2.toArray[j] (bs.getD j true):=by
 intro j h1 a;have b:j<vs.length:=by rw[r1.length];simpa using h1
 have g2:j<us.length:=by rw[r2.length];simpa using a
 obtain⟨d,o,i⟩:=l1.get (gE b);obtain⟨f,w,q⟩:=l2.get (gE g2);obtain⟨u,p,r⟩:=r1.get (gE b);obtain⟨v,c,B⟩:=r2.get (gE g2);have n:its.toArray[j]=u:=by have:its[j]? =some (its[j]'(by simpa using h1)):=gE _;rw[p]at this;simpa using(ä this).symm
 have h:its2.toArray[j]=v:=by have:its2[j]? =some (its2[j]'(by simpa using a)):=gE _;rw[c]at this;simpa using(ä this).symm
 rw[n,h];exact m d f _ _ u v _ i q r B (JR z o w)
theorem vN(I:↑1)(E:Wd X.g α S H): ∀(n:Nat)(A:ŋ)(d f:MV)(x y:V)(u v:Ŋ)(k:Bool),A.units+n<cLine->Den X.K α H d x->Den X.K α H f y->RelV x u->RelV y v->eqv S n d f=some k->SeqAt.EqAt A s u v k
 |0,_,_,_,_,_,_,_,_,_,_,_,_,_,h=>by cases h
 |n+1,A,d,f,x,y,u,v,k,hu,h1,h2,rx,ry,h=>by
  have i:A.units<cLine:=by lia
  have o:=h;unfold eqv at h
  cases G:HP S (.val d)with
  |none=>rw[G]at h;cases h
  |some p=>
   cases r:HP S (.val f)with
   |none=>rw[G,r]at h;cases h
   |some q=>
    rw[G,r]at h;have h:Qr _ p q=some k:=h;have Q:=λd f x y u v k a b c U e=>vN I E n A.in1 d f x y u v k (show A.units+1+n<cLine by lia) a b c U e
    cases p with
    |fl x'=>
     obtain⟨rfl,N⟩:=oZ G h1
     cases q with
     |fl y'=>obtain⟨rfl,J⟩:=oZ r h2;cases h;exact Pi rx ry N J
     |tp es=>
      obtain⟨b,us,rfl,w,l2⟩:=pC r h2;cases ry;cases h;obtain⟨its,_,pt,_⟩:=I.tuple w;exact(AW rx N pt i).2.1
     |ls es=>
      obtain⟨b,us,rfl,w,l2⟩:=pD E r h2;cases ry;cases h;obtain⟨its,_,C,_⟩:=I.list w;exact(HG rx N C.isList i).2.1
    |tp ds=>
     obtain⟨a,vs,rfl,P,l1⟩:=pC G h1;cases rx;obtain⟨its,B,pt,_⟩:=I.tuple P
     cases q with
     |fl y'=>obtain⟨rfl,J⟩:=oZ r h2;cases h;exact(AW ry J pt i).1
     |tp es=>
      obtain⟨b,us,rfl,w,l2⟩:=pC r h2;cases ry;by_cases m:a=b
      .subst m;rw[EA I E (n+1) d f _ k h1 h2 o];exact SeqAt.EqAt.same _
      .obtain⟨j,F,M,_⟩:=I.tuple w;rw[RA]at h
       cases z:BC (eqv S n) ds es with
       |none=>rw[z]at h;cases h
       |some bs=>
        rw[z]at h;cases h;have:=SeqAt.RcAt.tuples pt M i (tP Q l1 l2 B F z);have D:=qP z;rw[range_all (by rw[D];simp[<-B.length, <-F.length,l1.length,l2.length])]at this;have T:(its.toArray.size==j.toArray.size)=(ds.length==es.length):=by simp[<-B.length, <-F.length,l1.length,l2.length]
        rw[T]at this;exact SeqAt.EqAt.of_refs m this
     |ls es=>
      obtain⟨b,us,rfl,w,l2⟩:=pD E r h2;cases ry;cases h;obtain⟨j,_,C,_⟩:=I.list w;exact SeqAt.EqAt.tuple_list pt C.isList i
    |ls ds=>
     obtain⟨a,vs,rfl,P,l1⟩:=pD E G h1;cases rx;obtain⟨its,B,C,_⟩:=I.list P
     cases q with
     |fl y'=>obtain⟨rfl,J⟩:=oZ r h2;cases h;exact(HG ry J C.isList i).1
     |tp es=>
      obtain⟨b,us,rfl,w,l2⟩:=pC r h2;cases ry;cases h;obtain⟨j,_,pt,_⟩:=I.tuple w;exact SeqAt.EqAt.list_tuple C.isList pt i
     |ls es=>
      obtain⟨b,us,rfl,w,l2⟩:=pD E r h2;cases ry;by_cases m:a=b
      .subst m;rw[EA I E (n+1) d f _ k h1 h2 o];exact SeqAt.EqAt.same _
      .obtain⟨j,F,L,_⟩:=I.list w;rw[RB]at h;by_cases D:ds.length=es.length
       .rw[iP D]at h
        cases z:BC (eqv S n) ds es with
        |none=>rw[z]at h;cases h
        |some bs=>
         rw[z]at h;cases h;have hs:its.toArray.size=j.toArray.size:=by simp[<-B.length, <-F.length,l1.length,l2.length,D]
         have:=SeqAt.RcAt.lists C.isList L.isList hs i (tP Q l1 l2 B F z);have O:=qP z;rw[range_all (by rw[O];simp[<-B.length,l1.length,D])]at this;exact SeqAt.EqAt.of_refs m this
       .rw[iN D]at h;cases h;exact SeqAt.EqAt.of_refs m (SeqAt.RcAt.lists_lengths C.isList L.isList (by simpa [<-B.length, <-F.length,l1.length,l2.length]using D) i)
theorem Mx{r:ŋ->ŉ->Ŋ->Ŋ->Bool->Prop}{tr:Bool->Bool}{A:ŋ}
  (hff: ∀x y u v,RelV x u->RelV y v->lP x=true->lP y=true->r A s u v (tr (Gq x y)))
  (hfl: ∀x v l items,RelV x v->lP x=true->s.heap.IsList l items->A.units<cLine->r A s v (.ref l) (tr false)/\r A s (.ref l) v (tr false))
  (hft: ∀x v l items,RelV x v->lP x=true->s.heap.IsTuple l items->A.units<cLine->r A s v (.ref l) (tr false)/\r A s (.ref l) v (tr false))
  (hlt: ∀l b items i,s.heap.IsList l items->s.heap.IsTuple b i->A.units<cLine->r A s (.ref l) (.ref b) (tr false)/\r A s (.ref b) (.ref l) (tr false))
  (htt: ∀(l b:Addr)(items i:B0)(e:Nat->Bool),s.heap.IsTuple l items->s.heap.IsTuple b i->A.units<cLine->(∀j (h1:j<items.size) (h2:j<i.size),SeqAt.EqAt A.in1 s items[j] i[j] (e j))->r A s (.ref l) (.ref b) (tr ((List.range (min items.size i.size)).all e&&items.size==i.size)))
  (hll: ∀(l b:Addr)(items i:B0)(e:Nat->Bool),s.heap.IsList l items->s.heap.IsList b i->items.size=i.size->A.units<cLine->(∀j (h1:j<items.size) (h2:j<i.size),SeqAt.EqAt A.in1 s items[j] i[j] (e j))->r A s (.ref l) (.ref b) (tr ((List.range items.size).all e)))
  (hln: ∀(l b:Addr)(items i:B0),s.heap.IsList l items->s.heap.IsList b i->(items.size !=i.size)=true->A.units<cLine->r A s (.ref l) (.ref b) (tr false))
  (I:↑1) (wd:Wd X.g α S H) (n:Nat) {a b:Er} {x y:V} {u v:Ŋ} {k:Bool} (hu:A.units+(n+1)<cLine) (h1:DenX X.K α H a x) (h2:DenX X.K α H b y) (rx:RelV x u) (ry:RelV y v) (h:CG S n a b=some k):r A s u v (tr k):=by
 have m:A.units<cLine:=by lia
 unfold CG at h
 cases G:HP S a with
 |none=>rw[G]at h;cases h
 |some p=>
  cases w:HP S b with
  |none=>rw[G,w]at h;cases h
  |some q=>
   rw[G,w]at h;have h:Qr _ p q=some k:=h;have Q:=λd f x y u v k a b c U e=>vN I wd n A.in1 d f x y u v k (show A.units+1+n<cLine by lia) a b c U e
   cases p with
   |fl x'=>
    obtain⟨rfl,N⟩:=oZ G h1
    cases q with
    |fl y'=>obtain⟨rfl,J⟩:=oZ w h2;cases h;exact hff _ _ _ _ rx ry N J
    |tp es=>
     obtain⟨b,us,rfl,B,l2⟩:=pC w h2;cases ry;cases h;obtain⟨its,_,pt,_⟩:=I.tuple B;exact(hft _ _ _ _ rx N pt m).1
    |ls es=>
     obtain⟨b,us,rfl,B,l2⟩:=pD wd w h2;cases ry;cases h;obtain⟨its,_,D,_⟩:=I.list B;exact(hfl _ _ _ _ rx N D.isList m).1
   |tp ds=>
    obtain⟨a,vs,rfl,P,l1⟩:=pC G h1;cases rx;obtain⟨its,C,pt,_⟩:=I.tuple P
    cases q with
    |fl y'=>obtain⟨rfl,J⟩:=oZ w h2;cases h;exact(hft _ _ _ _ ry J pt m).2
    |tp es=>
     obtain⟨b,us,rfl,B,l2⟩:=pC w h2;cases ry;obtain⟨o,F,M,_⟩:=I.tuple B;rw[RA]at h
     cases z:BC _ ds es with
     |none=>rw[z]at h;cases h
     |some bs=>
      rw[z]at h;cases h;have:=htt _ _ _ _ _ pt M m (tP Q l1 l2 C F z);have E:=qP z;rw[range_all (by rw[E];simp[<-C.length, <-F.length,l1.length,l2.length])]at this;have T:(its.toArray.size==o.toArray.size)=(ds.length==es.length):=by simp[<-C.length, <-F.length,l1.length,l2.length]
      rw[T]at this;exact this
    |ls es=>
     obtain⟨b,us,rfl,B,l2⟩:=pD wd w h2;cases ry;cases h;obtain⟨o,_,D,_⟩:=I.list B;exact(hlt _ _ _ _ D.isList pt m).2
   |ls ds=>
    obtain⟨a,vs,rfl,P,l1⟩:=pD wd G h1;cases rx;obtain⟨its,C,D,_⟩:=I.list P
    cases q with
    |fl y'=>obtain⟨rfl,J⟩:=oZ w h2;cases h;exact(hfl _ _ _ _ ry J D.isList m).2
    |tp es=>
     obtain⟨b,us,rfl,B,l2⟩:=pC w h2;cases ry;cases h;obtain⟨o,_,pt,_⟩:=I.tuple B;exact(hlt _ _ _ _ D.isList pt m).1
    |ls es=>
     obtain⟨b,us,rfl,B,l2⟩:=pD wd w h2;cases ry;obtain⟨o,F,L,_⟩:=I.list B;rw[RB]at h;by_cases E:ds.length=es.length
     .rw[iP E]at h
      cases z:BC _ ds es with
      |none=>rw[z]at h;cases h
      |some bs=>
       rw[z]at h;cases h;have hs:its.toArray.size=o.toArray.size:=by simp[<-C.length, <-F.length,l1.length,l2.length,E]
       have:=hll _ _ _ _ _ D.isList L.isList hs m (tP Q l1 l2 C F z);have O:=qP z;rw[range_all (by rw[O];simp[<-C.length,l1.length,E])]at this;exact this
     .rw[iN E]at h;cases h;exact hln _ _ _ _ D.isList L.isList (by simpa [<-C.length, <-F.length,l1.length,l2.length]using E) m
def Qs(I:↑1)(p:Wd X.g α S H)(n:Nat){A:ŋ}{a b:Er}{x y:V}{u v:Ŋ}{k:Bool}(m:A.units+(n+1)<cLine)(h1:DenX X.K α H a x)(i:DenX X.K α H b y)(j:RelV x u)(o:RelV y v)(h:CG S n a b=some k):SeqAt.RcAt A s u v k:=
 Mx (tr:=id) (λ_ _ _ _ a b c d=>(Ah a b c d).1) (λ_ _ _ _ a b c d=>⟨(HG a b c d).2.2.2.1,(HG a b c d).2.2.1⟩) (λ_ _ _ _ a b c d=>⟨(AW a b c d).2.2.2.1,(AW a b c d).2.2.1⟩)
  (λ_ _ _ _ a b c=>⟨SeqAt.RcAt.list_tuple a b c,SeqAt.RcAt.tuple_list b a c⟩) (λ_ _ _ _ _ a b c d=>SeqAt.RcAt.tuples a b c d) (λ_ _ _ _ _ a b c d e=>SeqAt.RcAt.lists a b c d e) (λ_ _ _ _ a b c d=>SeqAt.RcAt.lists_lengths a b c d)
  I p n m h1 i j o h
def Qt(I:↑1)(p:Wd X.g α S H)(n:Nat){A:ŋ}{a b:Er}{x y:V}{u v:Ŋ}{k:Bool}(m:A.units+(n+1)<cLine)(h1:DenX X.K α H a x)(i:DenX X.K α H b y)(j:RelV x u)(o:RelV y v)(h:CG S n a b=some k):SeqAt.RcNeAt A s u v (!k):=
 Mx (λ_ _ _ _ a b c d=>(Ah a b c d).2) (λ_ _ _ _ a b c d=>⟨(HG a b c d).2.2.2.2.2,(HG a b c d).2.2.2.2.1⟩) (λ_ _ _ _ a b c d=>⟨(AW a b c d).2.2.2.2.2,(AW a b c d).2.2.2.2.1⟩)
  (λ_ _ _ _ a b c=>⟨SeqAt.RcNeAt.list_tuple a b c,SeqAt.RcNeAt.tuple_list b a c⟩) (λ_ _ _ _ _ a b c d=>SeqAt.RcNeAt.tuples a b c d) (λ_ _ _ _ _ a b c d e=>SeqAt.RcNeAt.lists a b c d e) (λ_ _ _ _ a b c d=>SeqAt.RcNeAt.lists_lengths a b c d)
  I p n m h1 i j o h
theorem TH{α β:Type}: ∀{a c:List α}{b d:List β},a.length=b.length->c.length=d.length->a.zip b=c.zip d->a=c/\b=d
 |[],[],[],[],_,_,_=>⟨rfl,rfl⟩
 |[],_::_,[],_::_,_,_,e=>by simp at e
 |_::_,[],_::_,[],_,_,e=>by simp at e
 |x::a,y::c,z::b,w::d,h1,h2,e=>by simp only[Ĩ,List.cons.injEq,Prod.mk.injEq]at e;obtain⟨rfl,rfl⟩:=TH (by simpa using h1) (by simpa using h2) e.2;exact⟨by rw[e.1.1],by rw[e.1.2]⟩
mutual
theorem Den.inj(I:↑1)(r:Wd X.g α S H): ∀{d f:MV}{v:V},Den X.K α H d v->Den X.K α H f v->d=f
 |.non,f,v,h,h'=>by cases dD h;cases f<;>first |rfl|(have:=oY h';cases this;done)|(have:=xI h';cases this;done)|(have:=xK h';cases this;done)|(have:=dE h';cases this;done)|(obtain⟨_,_,e,_⟩:=yO h';cases e;done)|(obtain⟨_,_,e,_⟩:=bO h';cases e;done)|(obtain⟨_,e,_⟩:=gG h';cases e;done)|(obtain⟨_,_,_,_,_,e,_⟩:=bN h';cases e;done)
 |.bl b,f,v,h,h'=>by cases oY h;cases f<;>first |(have:=oY h';cases this;rfl;done)|(have:=dD h';cases this;done)|(have:=xI h';cases this;done)|(have:=xK h';cases this;done)|(have:=dE h';cases this;done)|(obtain⟨_,_,e,_⟩:=yO h';cases e;done)|(obtain⟨_,_,e,_⟩:=bO h';cases e;done)|(obtain⟨_,e,_⟩:=gG h';cases e;done)|(obtain⟨_,_,_,_,_,e,_⟩:=bN h';cases e;done)
 |.int b,f,v,h,h'=>by cases xI h;cases f<;>first |(have:=xI h';cases this;rfl;done)|(have:=dD h';cases this;done)|(have:=oY h';cases this;done)|(have:=xK h';cases this;done)|(have:=dE h';cases this;done)|(obtain⟨_,_,e,_⟩:=yO h';cases e;done)|(obtain⟨_,_,e,_⟩:=bO h';cases e;done)|(obtain⟨_,e,_⟩:=gG h';cases e;done)|(obtain⟨_,_,_,_,_,e,_⟩:=bN h';cases e;done)
 |.str b,f,v,h,h'=>by cases xK h;cases f<;>first |(have:=xK h';rw[tH (V.str.inj this)];done)|(have:=dD h';cases this;done)|(have:=oY h';cases this;done)|(have:=xI h';cases this;done)|(have:=dE h';cases this;done)|(obtain⟨_,_,e,_⟩:=yO h';cases e;done)|(obtain⟨_,_,e,_⟩:=bO h';cases e;done)|(obtain⟨_,e,_⟩:=gG h';cases e;done)|(obtain⟨_,_,_,_,_,e,_⟩:=bN h';cases e;done)
 |.typ b,f,v,h,h'=>by cases dE h;cases f<;>first |(have:=dE h';cases this;rfl;done)|(have:=dD h';cases this;done)|(have:=oY h';cases this;done)|(have:=xI h';cases this;done)|(have:=xK h';cases this;done)|(obtain⟨_,_,e,_⟩:=yO h';cases e;done)|(obtain⟨_,_,e,_⟩:=bO h';cases e;done)|(obtain⟨_,e,_⟩:=gG h';cases e;done)|(obtain⟨_,_,_,_,_,e,_⟩:=bN h';cases e;done)
 |.tup ds,f,v,h,h'=>by
  obtain⟨a,vs,rfl,i,l1⟩:=yO h
  cases f with
  |tup es=>
   obtain⟨p,us,j,u,l2⟩:=yO h';cases j;cases I.tuple_inj i u;rw[DenL.inj I r l1 l2]
  |scr es=>obtain⟨p,us,j,u,l2⟩:=bO h';cases j;exact(tO I u.l i).elim
  |loc l=>
   obtain⟨p,j,k⟩:=gG h';cases j;obtain⟨F,k1,k2,q⟩:=r.mem (è k);rcases i with(i|⟨o,i⟩)|⟨o,its,n,i,_⟩
   .rw[k1]at i;exact absurd (ä i) (k2 _)
   .rw[k1]at i;exact(let ⟨_,z⟩:=q _ _ (ä i);by cases z)
   .have:=(I.bs a o (I.mod.kin a o i)).2;rw[k1]at this;cases this
  |non=>cases dD h'
  |bl b=>cases oY h'
  |int b=>cases xI h'
  |str b=>cases xK h'
  |typ b=>cases dE h'
  |obj c ns es=>
   obtain⟨p,C,B,us,D,j,k,_⟩:=bN h';cases j;rcases i with(i|⟨o,i⟩)|⟨o,its,n,i,_⟩
   .rw[k]at i;cases i
   .rw[k]at i;cases i
   .have:=(I.bs a o (I.mod.kin a o i)).2;rw[k]at this;cases this
 |.scr ds,f,v,h,h'=>by
  obtain⟨a,vs,rfl,i,l1⟩:=bO h
  cases f with
  |scr es=>
   obtain⟨p,us,j,u,l2⟩:=bO h';cases j;cases I.list_inj i.l u.l;rw[DenL.inj I r l1 l2]
  |tup es=>obtain⟨p,us,j,u,l2⟩:=yO h';cases j;exact(tO I i.l u).elim
  |loc l=>
   obtain⟨p,j,k⟩:=gG h';cases j;obtain⟨F,k1,k2,q⟩:=r.mem (è k);rcases i with⟨o,i⟩|⟨o,its,n,i,_⟩
   .rw[k1]at i;exact(let ⟨_,z⟩:=q _ _ (ä i);by cases z)
   .have:=(I.bs a o (I.mod.kin a o i)).2;rw[k1]at this;cases this
  |non=>cases dD h'
  |bl b=>cases oY h'
  |int b=>cases xI h'
  |str b=>cases xK h'
  |typ b=>cases dE h'
  |obj c ns es=>
   obtain⟨p,C,B,us,D,j,k,_⟩:=bN h';cases j;rcases i with⟨o,i⟩|⟨o,its,n,i,_⟩
   .rw[k]at i;cases i
   .have:=(I.bs a o (I.mod.kin a o i)).2;rw[k]at this;cases this
 |.loc l,f,v,h,h'=>by
  obtain⟨a,rfl,h1⟩:=gG h;obtain⟨F,k1,k2,q⟩:=r.mem (è h1)
  cases f with
  |loc m=>
   obtain⟨p,j,k⟩:=gG h';cases j;by_cases y:l=m
   .rw[y]
   .exact absurd rfl (r.ne h1 k y)
  |tup es=>
   obtain⟨p,us,j,i,l2⟩:=yO h';cases j;rcases i with(i|⟨o,i⟩)|⟨o,its,n,i,_⟩
   .rw[k1]at i;exact absurd (ä i) (k2 _)
   .rw[k1]at i;exact(let ⟨_,z⟩:=q _ _ (ä i);by cases z)
   .have:=(I.bs a o (I.mod.kin a o i)).2;rw[k1]at this;cases this
  |scr es=>
   obtain⟨p,us,j,i,l2⟩:=bO h';cases j;rcases i with⟨o,i⟩|⟨o,its,n,i,_⟩
   .rw[k1]at i;exact(let ⟨_,z⟩:=q _ _ (ä i);by cases z)
   .have:=(I.bs a o (I.mod.kin a o i)).2;rw[k1]at this;cases this
  |non=>cases dD h'
  |bl b=>cases oY h'
  |int b=>cases xI h'
  |str b=>cases xK h'
  |typ b=>cases dE h'
  |obj c ns es=>
   obtain⟨p,C,B,us,D,j,k,_⟩:=bN h';cases j;rw[k1]at k;exact(let ⟨_,z⟩:=q _ _ (ä k);by cases z)
 |.obj c ns ds,f,v,h,h'=>by
  obtain⟨a,C,B,us,D,rfl,k,O,N,G,l1⟩:=bN h
  cases f with
  |obj c' ns' es=>
   obtain⟨p,C2,L,M,P,j,w,J,A,E,l2⟩:=bN h';cases j;rw[k]at w;injection w with w
   injection w with _ w
   injection w with e1 j e3
   subst e1;rw[N]at A;cases A;obtain⟨rfl,rfl⟩:=TH G E e3;rw[DenL.inj I r l1 l2]
  |tup es=>
   obtain⟨p,us,j,i,l2⟩:=yO h';cases j;rcases i with(i|⟨o,i⟩)|⟨o,its,n,i,_⟩
   .rw[k]at i;cases i
   .rw[k]at i;cases i
   .have:=(I.bs a o (I.mod.kin a o i)).2;rw[k]at this;cases this
  |scr es=>
   obtain⟨p,us,j,i,l2⟩:=bO h';cases j;rcases i with⟨o,i⟩|⟨o,its,n,i,_⟩
   .rw[k]at i;cases i
   .have:=(I.bs a o (I.mod.kin a o i)).2;rw[k]at this;cases this
  |loc l=>
   obtain⟨p,j,h1⟩:=gG h';cases j;obtain⟨F,k1,k2,q⟩:=r.mem (è h1);rw[k1]at k;exact(let ⟨_,z⟩:=q _ _ (ä k);by cases z)
  |non=>cases dD h'
  |bl b=>cases oY h'
  |int b=>cases xI h'
  |str b=>cases xK h'
  |typ b=>cases dE h'
theorem DenL.inj(I:↑1)(b:Wd X.g α S H): ∀{ds fs:C8}{vs:List V},DenL X.K α H ds vs->DenL X.K α H fs vs->ds=fs
 |[],fs,vs,h,h'=>by
  cases h.isnil
  cases fs with
  |nil=>rfl
  |cons f fs=>obtain⟨_,_,e,_⟩:=h'.uncons;cases e
 |d::ds,fs,vs,h,h'=>by
  obtain⟨v,r,rfl,a,l⟩:=h.uncons
  cases fs with
  |nil=>cases h'.isnil
  |cons f fs=>
   obtain⟨k,j,e,i,c⟩:=h'.uncons;cases e;rw[Den.inj I b a i,DenL.inj I b l c]
end
end
inductive LexR(A:ŋ)(s:ŉ):List Ŋ->List Ŋ->Bool->Prop
 |nn:LexR A s [] [] false
 |nc (x xs):LexR A s [] (x::xs) true
 |cn (y ys):LexR A s (y::ys) [] false
 |eq {y x ys xs k}:SeqAt.EqAt A s y x true->LexR A s ys xs k->LexR A s (y::ys) (x::xs) k
 |ne {y x ys xs k}:SeqAt.EqAt A s y x false->(∀(prog:Ō)(w:World)(E Q:VP),Q (.bool k) s->wpAny (model prog w) A (richCompare .Lt y x) Q E s)->LexR A s (y::ys) (x::xs) k
section
open PySem.SeqAt
open PySem.AutoSeq1 (wpAny_loadPart')
open PySem.MeetsSeq PySem.MeetsSeq2 PySem.MeetsSeq3
theorem EB(l b:Addr)(its e:B0)(n D:Nat)(z q:Option Addr)(sl o:Array (Option Ŋ))(k:Bool):
  Meets (Builtin.«tuple.__lt__» ⟨[.ref l,.ref b],[]⟩)
   (λA R s=>s.heap.get? l=some {cls:=.type "tuple",dict:=z,data:=.seq its n,slots:=sl}/\s.heap.get? b=some {cls:=.type "tuple",dict:=q,data:=.seq e D,slots:=o}/\
    LexR A.in1 s its.toList e.toList k/\R (.ok (.ret (.bool k))) s):=
 .of_wp λprog w A R s h=>by
  obtain⟨v,g,d,u,r⟩:=s;obtain⟨B,C,m,h⟩:=h;have H:=AutoSeq1.sub_tuple_tuple
  wp_walk using ÿ B,ÿ C,wpAny_forIn_list _ (λrest b s'=>b.1=none/\s'=⟨v,g,d,u,r⟩/\ ∃(vs ws:A0),rest=vs.zip ws/\
   LexR A.in1 ⟨v,g,d,u,r⟩ vs ws k/\vs.length+e.size=ws.length+its.size) _
  case turn=>
   rintro⟨y,x⟩ rest b s' ⟨i,rfl,vs,ws,c,j,a⟩
   cases j with
   |nn=>rw[zip_nil_left]at c;cases c
   |nc x xs=>rw[zip_nil_left]at c;cases c
   |cn y ys=>rw[List.zip_nil_right]at c;cases c
   |@eq y' x' ys xs k' he hr=>
    rw[Ĩ]at c;injection c with hyx hrest
    injection hyx with hy m
    subst hy m;simp only[lC]at a;refine wB (he prog w _ _ ?_)
    wp_walk
    exact⟨rfl,rfl,_,_,hrest,hr,by lia⟩
   |@ne y' x' ys xs k' he hr=>
    rw[Ĩ]at c;injection c with hyx hrest
    injection hyx with hy m
    subst hy m;refine wB (he prog w _ _ ?_);have p:=hr prog w
    wp_walk using p
    exact⟨_,rfl,by simpa using h⟩
  case fin=>
   rintro⟨G,F⟩ s' ⟨i,rfl,vs,ws,c,j,a⟩;simp only at i;subst i
   have E:k=decide (its.size<e.size):=by
    cases j with
    |nn=>simp only[ú]at a;exact(dF0 #[0]).symm
    |nc x xs=>simp only[ú,lC]at a;exact(dT0 #[0]).symm
    |cn y ys=>simp only[ú,lC]at a;exact(dF0 #[0]).symm
    |eq he hr=>rw[Ĩ]at c;cases c
    |ne he hr=>rw[Ĩ]at c;cases c
   rw[E]at h
   wp_walk
   exact⟨_,rfl,by simpa [Builtin.Tuple.tupleCompareSizes]using h⟩
  case h=>
   exact⟨rfl,rfl,_,_,rfl,m,by simp;lia⟩
end
def As{A:ŋ}{s:ŉ}{l b:Addr}{a:B0}{k:Bool}(v:IsTup s.heap l its)(u:IsTup s.heap b a)(B:LexR A.in1 s its.toList a.toList k)(y:A.units<cLine)(prog:Ō)(w:World)(E Q:VP)(h:Q (.bool k) s):
  wpAny (model prog w) A (richCompare .Lt (.ref l) (.ref b)) Q E s:=by
 obtain⟨⟨C,q,o,sl⟩,p,r,n,hd⟩:=id v;obtain⟨⟨m,e,_,d⟩,c,j,z,i⟩:=id u;subst r hd j i
 exact richCompare_meets_room ⟨_,p,rfl⟩ ⟨_,c,rfl⟩ PySem.F.slot_tuple_lt PySem.F.entry_tuple_lt (PySem.F.args_tuple_lt_2 _ _) (EB l b its a n z q e sl d k)
  ⟨p,c,B,show Value.bool k≠Value.notImplemented/\Q _ s from⟨(λx=>nomatch x),h⟩⟩ y
noncomputable def vO(e l:MV->MV->Option Bool):List MV->List MV->Option Bool
 |[],[]=>some false
 |[],_::_=>some true
 |_::_,[]=>some false
 |d::ds,f::fs=>(e d f).bind λk=>if k=true then vO e l ds fs else l d f
def BD(S:Sto):Nat->MV->MV->Option Bool
 |0,_,_=>none
 |n+1,.int i,.int j=>some (decide (i<j))
 |n+1,.str x,.str y=>some (decide (x<y))
 |n+1,.tup ds,.tup es=>vO (eqv S n) (BD S n) ds es
 |_,_,_=>none
section
variable{X:Cx}{α:B6}{S:Sto}{H:Hp}{pins:C0}{σ:St}{s:ŉ}
theorem TJ{A:ŋ}{e l:MV->MV->Option Bool}(j: ∀d f x y u v k,Den X.K α H d x->Den X.K α H f y->RelV x u->RelV y v->e d f=some k->SeqAt.EqAt A s u v k)
  (hl: ∀d f x y u v k,Den X.K α H d x->Den X.K α H f y->RelV x u->RelV y v->l d f=some k-> ∀(prog:Ō)(w:World)(E Q:VP),Q (.bool k) s->wpAny (model prog w) A (richCompare .Lt u v) Q E s):
  ∀{ds fs:C8}{vs us:List V}{its c:A0}{k:Bool},DenL X.K α H ds vs->DenL X.K α H fs us->Vals vs its->Vals us c->vO e l ds fs=some k->LexR A s its c k
 |[],[],_,_,_,_,k,l1,l2,r1,r2,h=>by cases l1.isnil;cases l2.isnil;cases r1;cases r2;cases h;exact .nn
 |[],f::fs,_,_,_,_,k,l1,l2,r1,r2,h=>by
  cases l1.isnil;obtain⟨v,r,rfl,a,l⟩:=l2.uncons;cases r1
  cases r2 with
  |cons a b=>cases h;exact .nc _ _
 |d::ds,[],_,_,_,_,k,l1,l2,r1,r2,h=>by
  cases l2.isnil;obtain⟨v,r,rfl,a,l⟩:=l1.uncons;cases r2
  cases r1 with
  |cons a b=>cases h;exact .cn _ _
 |d::ds,f::fs,_,_,_,_,k,l1,l2,r1,r2,h=>by
  obtain⟨v,r,rfl,a,n⟩:=l1.uncons;obtain⟨p,o,rfl,i,m⟩:=l2.uncons
  cases r1 with
  |cons b1 c1=>
   cases r2 with
   |cons b2 c2=>
    unfold vO at h
    cases z:e d f with
    |none=>rw[z]at h;cases h
    |some kk=>
     rw[z]at h;have h:(if kk=true then vO e l ds fs else l d f)=some k:=h
     cases kk with
     |true=>
      exact .eq (j d f _ _ _ _ _ a i b1 b2 z) (TJ j hl n m c1 c2 h)
     |false=>
      exact .ne (j d f _ _ _ _ _ a i b1 b2 z) (hl d f _ _ _ _ _ a i b1 b2 h)
theorem JS(I:↑1)(p:Wd X.g α S H): ∀(n:Nat)(A:ŋ)(d f:MV)(x y:V)(u v:Ŋ)(k:Bool),A.units+n<cLine->Den X.K α H d x->Den X.K α H f y->RelV x u->RelV y v->BD S n d f=some k->
  ∀(prog:Ō)(w:World)(E Q:VP),Q (.bool k) s->wpAny (model prog w) A (richCompare .Lt u v) Q E s
 |0,_,_,_,_,_,_,_,_,_,_,_,_,_,h=>by cases h
 |n+1,A,d,f,x,y,u,v,k,hu,h1,h2,rx,ry,h=>by
  intro prog w E Q j;unfold BD at h;split at h
  .cases h
  .cases h;cases xI h1;cases xI h2;obtain⟨t,rfl⟩:=rx;obtain⟨t',rfl⟩:=ry;exact(PyProof.Rows.lt_int j:wpAny _ A _ Q E s)
  .cases h;cases xK h1;cases xK h2;obtain⟨t,rfl⟩:=rx;obtain⟨t',rfl⟩:=ry;refine(PySem.P.lt_str ?_:wpAny _ A _ Q E s);exact j
  .rename_i D ds es z;obtain⟨a,vs,rfl,B,l1⟩:=yO h1;obtain⟨b,us,rfl,C,l2⟩:=yO h2;cases rx;cases ry;obtain⟨its,q,pt,_⟩:=I.tuple B;obtain⟨o,r,i,_⟩:=I.tuple C;cases z;refine As pt i ?_ #[0] prog w E Q j
   exact TJ (λd f x y u v k a b c m e=>vN I p n A.in1 d f x y u v k (show A.units+1+n<cLine by lia) a b c m e)
    (λd f x y u v k a b c m e=>JS I p n A.in1 d f x y u v k (show A.units+1+n<cLine by lia) a b c m e) l1 l2 q r h
  .cases h
end
section
variable{X:Cx}{W:XW}{a b c e:Expr}{es:C5}{f g h:AX}{pos:Pos}
noncomputable def Fg(C:Int->Int->Prop)[∀i j,Decidable (C i j)](g:Int->Int->Int):Er->Er->Sto->R Er
 |.val (.int i),.val (.int j),S=>if C i j then .ok (.val (.int (g i j))) S else .no
 |_,_,_=>.no
noncomputable def A7(g:Int->Int->Bool):Er->Er->Sto->R Er
 |.val (.int i),.val (.int j),S=>.ok (.val (.bl (g i j))) S
 |_,_,_=>.no
def RD{C b:Int->Int->Prop}[∀i j,Decidable (C i j)]{g:Int->Int->Int}(h: ∀i j,C i j->b i j):QX X W (rI b λi j=>.int (g i j)) (Fg C g):=by
 intro p q x y α S H Q k c e a;unfold Fg at a;split at a
 .split at a
  .rename_i d;exact⟨_,_,yP c,yP e,h _ _ d,Post.val a k (yV _)⟩
  .exact a.elim
 .exact a.elim
def JT{g:Int->Int->Int}:QX X W (Fz λi j=>.int (g i j)) (Fg (λ_ _=>True) g):=by
 intro p q x y α S H Q d b c a;unfold Fg at a;split at a
 .rw[iP trivial]at a;exact⟨_,_,yP b,yP c,Post.val a d (yV _)⟩
 .exact a.elim
def Qu{g:Int->Int->Bool}:QX X W (Fz λi j=>.bl (g i j)) (A7 g):=by
 intro p q x y α S H Q d b c a;unfold A7 at a;split at a
 .exact⟨_,_,yP b,yP c,Post.val a d (dC _)⟩
 .exact a.elim
abbrev Au:=Fg (λ_ _=>True) λi j=>i - j
def Qv(c:zN X W a f)(d:zN X W b g):zN X W (.BinOp a .Sub b pos) (λρ S=>(f ρ S).bind λp S1=>(g ρ S1).bind λq S2=>Au p q S2):=BB Ov JT c d
def Hz(_ j:Int):Prop:=0<j/\j.natAbs.log2<9000
instance(i j:Int):Decidable (Hz i j):=inferInstanceAs (Decidable (_/\_))
abbrev NO:=Fg Hz λi j=>i / j
theorem Av:OpR X (binaryOp .FloorDiv) (rI Hz λi j=>.int (i / j)):=A4 λi j _ _ _ _ _ a q=>by have e:=Int.fdiv_eq_ediv_of_nonneg i (Int.le_of_lt a.1);refine floordiv_int (by have:=a.1;lia) ?_ (.inl (PyProof.noPylong_of_log2 a.2));rw[e];exact q
def Qw(d:zN X W a f)(c:zN X W b g):zN X W (.BinOp a .FloorDiv b pos) (λρ S=>(f ρ S).bind λp S1=>(g ρ S1).bind λq S2=>NO p q S2):=BB Av (RD λi j h=>h) d c
abbrev GF:=Fg (λ_ j=>0<j) λi j=>i % j
def Qx(d:zN X W a f)(c:zN X W b g):zN X W (.BinOp a .Mod b pos) (λρ S=>(f ρ S).bind λp S1=>(g ρ S1).bind λq S2=>GF p q S2):=BB Ow (RD λi j h=>h) d c
def Qy(i j:Int):Prop:=0<=j/\(Builtin.Int.intBits i:Int) * j<=2 ^ 27
instance(i j:Int):Decidable (Qy i j):=inferInstanceAs (Decidable (_/\_))
abbrev Ia:=Fg Qy λi j=>i ^ j.toNat
def Ib:OpR X (binaryOp .Pow) (rI Qy λi j=>.int (i ^ j.toNat)):=A4 λ_ _ _ _ _ _ _ a q=>pow_int a.1 a.2 q
def Qz(d:zN X W a f)(c:zN X W b g):zN X W (.BinOp a .Pow b pos) (λρ S=>(f ρ S).bind λp S1=>(g ρ S1).bind λq S2=>Ia p q S2):=BB Ib (RD λi j h=>h) d c
def shlC(i j:Int):Prop:=0<=j/\j<=1000000/\i.natAbs<2 ^ 64
instance(i j:Int):Decidable (shlC i j):=inferInstanceAs (Decidable (_/\_/\_))
noncomputable def Aw(S:Sto):Er->Option (List MV)
 |.new ds=>some ds
 |.val (.loc l)=>match S[l]? with
  |some (.lst ds)=>some ds
  |_=>none
 |_=>none
def JU(i:Wd X.g α S H){r:Er}{ds:C8}{x:V}(e:Aw S r=some ds)(d:DenX X.K α H r x): ∃a vs,x=.ref a/\H a=some (.lst vs)/\DenL X.K α H ds vs:=by
 unfold Aw at e;split at e
 .cases e;obtain⟨b,vs,rfl,h,_,l⟩:=d;exact⟨b,vs,rfl,h,l⟩
 .rename_i n;obtain⟨a,rfl,h⟩:=aU d;split at e
  .rename_i es c;cases e;obtain⟨vs,h1,l⟩:=i.obj n a _ h c;exact⟨a,vs,rfl,h1,l⟩
  .cases e
 .cases e
def TL(p q:Er)(S:Sto):R Er:=match Aw S p,Aw S q with
 |some x,some y=>if x.length+y.length<=sizeLine then .ok (.new (x++y)) S else .no
 |_,_=>.no
def wH:Er->Er->Sto->R Er
 |.val (.int i),.val (.int j),S=>.ok (.val (.int (i+j))) S
 |.val (.str x),.val (.str y),S=>if x.length+y.length<=sizeLine then .ok (.val (.str (x++y))) S else .no
 |.val (.tup x),.val (.tup y),S=>if x.length+y.length<=sizeLine then .ok (.val (.tup (x++y))) S else .no
 |p,q,S=>TL p q S
def Ax:OpR X (binaryOp .Add) (λx y H Q=> ∃a b ys,x=.ref a/\y=.ref b/\SqT X.K H a []/\SqT X.K H b ys/\Q (.ref b) H):=by
 intro pins s σ H x y v u Q I G A h;obtain⟨a,b,ys,rfl,rfl,w,D,q⟩:=h;cases G;cases A;obtain⟨its,z,p1,_⟩:=I.tuple w;obtain⟨p,L,p2,_⟩:=I.tuple D;have B:=z.nil_iff.mpr rfl;subst B;obtain⟨⟨C,r,m,sl⟩,o,E,n,hd⟩:=id p1;obtain⟨⟨k,e,_,d⟩,c,j,J,i⟩:=id p2;subst E hd j i
 exact concat_meets ⟨_,o,rfl⟩ ⟨_,c,rfl⟩ noFill_tuple_add seq_tuple_add PySem.F.slot_tuple_add PySem.F.entry_tuple_add (PySem.F.args_tuple_add_2 _ _)
  (tuple_addW0 a b _ _ n J r e sl d rfl) ⟨o,c,⟨.ref b,H,I,rfl,q⟩⟩
def Ra(w:zN X W a f)(B:zN X W b g):zN X W (.BinOp a .Add b pos) (λρ S=>(f ρ S).bind λp S1=>(g ρ S1).bind λq S2=>wH p q S2):=by
 refine BB (Ou.or (QP.or (Pk.or (Gj.or Ax)))) ?_ w B;intro p q x y α S H Q d h k c;unfold wH at c;split at c
 .exact .inl ⟨_,_,yP h,yP k,Post.val c d (yV _)⟩
 .split at c
  .rename_i e;refine .inr (.inl ⟨_,_,bP h,bP k,by rw[gF];exact e,?_⟩);rw[Gy];exact Post.val c d (mN _)
  .exact c.elim
 .split at c
  .rename_i v u e;obtain⟨j,vs,rfl,n,l1⟩:=dF h;obtain⟨i,us,rfl,r,l2⟩:=dF k;by_cases s:vs=[]
   .subst s;have m:=l1.length;refine .inr (.inr (.inr (.inr ⟨j,i,us,rfl,rfl,n,r,?_⟩)));have:v=[]:=by cases v with |nil=>rfl|cons _ _=>simp at m
    subst this;exact Post.val c d (nB r l2)
   .refine .inr (.inr (.inr (.inl ⟨j,i,vs,us,rfl,rfl,n,r,s,by rw[l1.length,l2.length];exact e,λh1=>?_,λh1 p o=>Post.newt c d o (l1.append l2)⟩)));subst h1;have m:=l2.length;have:u=[]:=by cases u with |nil=>rfl|cons _ _=>simp at m
    subst this;rw[aN]at c;exact Post.val c d (nB n l1)
  .exact c.elim
 .unfold TL at c;split at c
  .rename_i A z E D;split at c
   .rename_i e;obtain⟨j,vs,rfl,h1,l1⟩:=JU d E h;obtain⟨i,us,rfl,C,l2⟩:=JU d D k;exact .inr (.inr (.inl ⟨j,i,vs,us,rfl,rfl,h1,C,by rw[l1.length,l2.length];exact e,λp o=>Post.newl c d o (l1.append l2)⟩))
   .exact c.elim
  .exact c.elim
def mulC(i j:Int):Prop:=(-(2 ^ 64)<i/\i<2 ^ 64)\/(-(2 ^ 64)<j/\j<2 ^ 64)\/(i.natAbs.log2<4000/\j.natAbs.log2<4000)
theorem TN{i:Int}(h:i.natAbs.log2<4000):Builtin.Int.intBits i<=2 ^ 20:=by unfold Builtin.Int.intBits;split<;>lia
def mulC.ok{i j:Int}(h:mulC i j):IntMulOk i j:=by
 rcases h with h|h|⟨h1,h2⟩
 .exact CMul.ok (.inl h)
 .exact CMul.ok (.inr h)
 .exact .of_bits (TN h1) (TN h2)
def Ic{X:Cx}:OpR X (binaryOp .Mult) (rI mulC λi j=>.int (i * j)):=A4 λ_ _ _ _ _ _ _ a q=>mul_int q a.ok
instance(i j:Int):Decidable (mulC i j):=inferInstanceAs (Decidable (_\/_\/_))
noncomputable def Mz(p:Er)(k:Int)(S:Sto):R Er:=match Aw S p with
 |some x=>if 0<=k/\k<100000/\x.length * k.toNat<=sizeLine then .ok (.new (List.replicate k.toNat x).flatten) S else .no
 |none=>.no
def tQ:Er->Er->Sto->R Er
 |.val (.int i),.val (.int j),S=>if mulC i j then .ok (.val (.int (i * j))) S else .no
 |.val (.str x),.val (.int k),S=>if 0<=k/\k<1000/\x.length<=1000 then .ok (.val (.str (GD x k))) S else .no
 |p,.val (.int k),S=>Mz p k S
 |_,_,_=>.no
theorem DenL.rep{K:C6}{ds:C8}{vs:List V}(l:DenL K α H ds vs): ∀k:Nat,DenL K α H (List.replicate k ds).flatten (List.replicate k vs).flatten
 |0=>zW
 |k+1=>by rw[ĭ];exact l.append (DenL.rep l k)
theorem Rb(k:zN X W a f)(j:zN X W b g):zN X W (.BinOp a .Mult b pos) (λρ S=>(f ρ S).bind λp S1=>(g ρ S1).bind λq S2=>tQ p q S2):=by
 refine BB (Ic.or (QW.or Pl)) ?_ k j;intro p q x y α S H Q e h i c;unfold tQ at c;split at c
 .split at c
  .rename_i d;exact .inl ⟨_,_,yP h,yP i,d,Post.val c e (yV _)⟩
  .exact c.elim
 .split at c
  .rename_i d;exact .inr (.inl ⟨_,_,bP h,yP i,d.1,d.2.1,d.2.2,Post.val c e (mN _)⟩)
  .exact c.elim
 .unfold Mz at c;split at c
  .rename_i ds m;split at c
   .rename_i d;obtain⟨n,vs,rfl,h1,l1⟩:=JU e m h;exact .inr (.inr ⟨n,_,vs,rfl,yP i,h1,by lia,by lia,by rw[l1.length];exact d.2.2,λp o=>Post.newl c e o (l1.rep _)⟩)
   .exact c.elim
  .exact c.elim
 .exact c.elim
noncomputable def zH:Nat:=40
noncomputable def vP(p q:Er)(S:Sto):R Er:=match CG S zH p q with
 |some k=>.ok (.val (.bl k)) S
 |none=>.no
def RE(p q:Er)(S:Sto):R Er:=match CG S zH p q with
 |some k=>.ok (.val (.bl !k)) S
 |none=>.no
theorem Ay(m:X.A.units+64<cLine):OpR X (compareOp .Eq) (λx y H Q=> ∃α S p q k,Wd X.g α S H/\DenX X.K α H p x/\DenX X.K α H q y/\CG S zH p q=some k/\Q (.bl k) H):=by intro pins s σ H x y v u Q I b c h;obtain⟨α,S,p,q,k,j,a,i,e,d⟩:=h;exact Qs I j zH (by unfold zH;lia) a i b c e X.prog X.w _ _ ⟨.bl k,H,I,rfl,d⟩
theorem Re(m:X.A.units+64<cLine):OpR X (compareOp .NotEq) (λx y H Q=> ∃α S p q k,Wd X.g α S H/\DenX X.K α H p x/\DenX X.K α H q y/\CG S zH p q=some k/\Q (.bl (!k)) H):=by intro pins s σ H x y v u Q I b c h;obtain⟨α,S,p,q,k,j,a,i,e,d⟩:=h;exact Qt I j zH (by unfold zH;lia) a i b c e X.prog X.w _ _ ⟨.bl (!k),H,I,rfl,d⟩
def TQ:QX X W (λx y H Q=> ∃α S p q k,Wd X.g α S H/\DenX X.K α H p x/\DenX X.K α H q y/\CG S zH p q=some k/\Q (.bl k) H) vP:=by
 intro p q x y α S H Q b c d a;unfold vP at a;split at a
 .rename_i k e;exact⟨α,S,p,q,k,b,c,d,e,Post.val a b (dC _)⟩
 .exact a.elim
def Id:QX X W (λx y H Q=> ∃α S p q k,Wd X.g α S H/\DenX X.K α H p x/\DenX X.K α H q y/\CG S zH p q=some k/\Q (.bl (!k)) H) RE:=by
 intro p q x y α S H Q b c d a;unfold RE at a;split at a
 .rename_i k e;exact⟨α,S,p,q,k,b,c,d,e,Post.val a b (dC _)⟩
 .exact a.elim
def Xr(c:X.A.units+64<cLine)(e:zN X W a f)(d:zN X W b g):zN X W (.Compare a [.Eq] [b] pos) (λρ S=>(f ρ S).bind λp S1=>(g ρ S1).bind λq S2=>vP p q S2):=Ak (Ay c) TQ e d
def Xs(c:X.A.units+64<cLine)(e:zN X W a f)(d:zN X W b g):rO X W (.Compare a [.Eq] [b] pos) (λρ S=>((f ρ S).bind λp S1=>(g ρ S1).bind λq S2=>vP p q S2).bind aV):=pS (Ay c) TQ e d
def Xt(c:X.A.units+64<cLine)(e:zN X W a f)(d:zN X W b g):rO X W (.Compare a [.NotEq] [b] pos) (λρ S=>((f ρ S).bind λp S1=>(g ρ S1).bind λq S2=>RE p q S2).bind aV):=pS (Re c) Id e d
def Rf:Er->Er->Sto->R Er
 |.val d,.val f,S=>match BD S zH d f with
  |some k=>.ok (.val (.bl k)) S
  |none=>.no
 |_,_,_=>.no
theorem Rg(n:X.A.units+64<cLine):OpR X (compareOp .Lt) (λx y H Q=> ∃α S d f k,Wd X.g α S H/\Den X.K α H d x/\Den X.K α H f y/\BD S zH d f=some k/\Q (.bl k) H):=by intro pins s σ H x y v u Q I b c h;obtain⟨α,S,d,f,k,m,a,j,e,i⟩:=h;exact JS I m zH X.A d f x y v u k (by unfold zH;lia) a j b c e X.prog X.w _ _ ⟨.bl k,H,I,rfl,i⟩
def Ie:QX X W (λx y H Q=> ∃α S d f k,Wd X.g α S H/\Den X.K α H d x/\Den X.K α H f y/\BD S zH d f=some k/\Q (.bl k) H) Rf:=by
 intro p q x y α S H Q b c h a;unfold Rf at a;split at a
 .split at a
  .rename_i k e;exact⟨α,S,_,_,k,b,c,h,e,Post.val a b (dC _)⟩
  .exact a.elim
 .exact a.elim
def Xu(c:X.A.units+64<cLine)(e:zN X W a f)(d:zN X W b g):rO X W (.Compare a [.Lt] [b] pos) (λρ S=>((f ρ S).bind λp S1=>(g ρ S1).bind λq S2=>Rf p q S2).bind aV):=pS (Rg c) Ie e d
abbrev gtF:=A7 λi j=>decide (j<i)
def Xv(c:zN X W a f)(d:zN X W b g):rO X W (.Compare a [.Gt] [b] pos) (λρ S=>((f ρ S).bind λp S1=>(g ρ S1).bind λq S2=>gtF p q S2).bind aV):=pS Wx Qu c d
noncomputable def HQ:Er->Er->Sto->R Er
 |.val .non,.val .non,S=>.ok (.val (.bl false)) S
 |_,.val .non,S=>.ok (.val (.bl true)) S
 |_,_,_=>.no
theorem Az{p:Er}{x:V}(d:DenX X.K α H p x)(n:p≠.val .non):decide (x=.non)=false:=by
 cases p with
 |new ds=>obtain⟨b,vs,rfl,_⟩:=d;rfl
 |val m=>
  cases m with
  |non=>exact absurd rfl n
  |bl b=>cases DW d;rfl
  |int b=>cases yP d;rfl
  |str b=>cases bP d;rfl
  |typ b=>cases Aj d;rfl
  |obj b b' b''=>obtain⟨_,_,_,_,_,rfl,_⟩:=Ps d;rfl
  |tup b=>obtain⟨_,_,rfl,_⟩:=dF d;rfl
  |scr b=>obtain⟨_,_,rfl,_⟩:=DX d;rfl
  |loc b=>obtain⟨_,rfl,_⟩:=aU d;rfl
def Ba:QX X W (λx y H Q=>y=.non/\Q (.bl (!decide (x=.non))) H) HQ:=by
 intro p q x y α S H Q e c d a;unfold HQ at a;split at a
 .cases vI c;exact⟨vI d,Post.val a e (dC _)⟩
 .rename_i h S' b;rw[Az c (λz=>by first |exact b z|exact b z rfl|exact b _ z|exact b rfl z)];exact⟨vI d,Post.val a e (dC _)⟩
 .exact a.elim
def Bb(c:zN X W a f)(d:zN X W b g):rO X W (.Compare a [.IsNot] [b] pos) (λρ S=>((f ρ S).bind λp S1=>(g ρ S1).bind λq S2=>HQ p q S2).bind aV):=pS Gb Ba c d
noncomputable def getL(ds:C8):Er->Sto->R Er
 |.val (.int i),S=>match tE ds i with |some d=>.ok (.val d) S|none=>.no
 |_,_=>.no
def fW:Er->Er->Sto->R Er
 |.val (.str x),.val (.int i),S=>if x.length<=sizeLine then match tE x i with |some c=>.ok (.val (.str [c])) S|none=>.no else .no
 |.val (.tup ds),q,S=>getL ds q S
 |p,q,S=>match jD S p with |some ds=>getL ds q S|none=>.no
def Ig{K:C6}{ds:C8}{vs:List V}{i:Int}{d:MV}(l:DenL K α H ds vs)(e:tE ds i=some d): ∃v,tE vs i=some v/\Den K α H d v:=by
 unfold tE at e ⊢;rw[l.length]
 cases z:JD ds.length i with
 |none=>rw[z]at e;cases e
 |some j=>
  rw[z]at e;obtain⟨v,h1,a⟩:=l.at e;exact⟨v,h1,a⟩
def Xw(u:zN X W a f)(w:zN X W b g)(hs:CL b:=by exact λ_ _=>rfl):zN X W (.Subscript a b pos) (λρ S=>(f ρ S).bind λp S1=>(g ρ S1).bind λq S2=>fW p q S2):=by
 refine Mv Ph ?_ u w hs;intro p q x y α S H Q n k r c;have h: ∀{ds:C8}{vs:List V}{i:Int}{d:MV},DenL X.K α H ds vs->tE ds i=some d->Post X.g W α H _ Q-> ∃v,tE vs i=some v/\Q v H:=λl e c=>by obtain⟨v,h1,j⟩:=Ig l e;exact⟨v,h1,Post.val c n j⟩
 unfold fW at c;split at c
 .split at c
  .rename_i z;split at c
   .rename_i s e;refine .inr (.inr ⟨_,_,s,bP k,yP r,by rw[gF];exact z,by rw[Gx];exact e,?_⟩);exact Post.val c n (mN [s])
   .exact c.elim
  .exact c.elim
 .unfold getL at c;split at c
  .split at c
   .rename_i d e;obtain⟨m,vs,rfl,o,l1⟩:=dF k;obtain⟨v,h1,j⟩:=h l1 e c;exact .inr (.inl ⟨m,vs,_,v,rfl,yP r,o,h1,j⟩)
   .exact c.elim
  .exact c.elim
 .split at c
  .rename_i ds A;unfold getL at c;split at c
   .split at c
    .rename_i d e;obtain⟨m,vs,rfl,o,l1⟩:=tN rfl n A k;obtain⟨v,h1,j⟩:=h l1 e c;exact .inl ⟨m,vs,_,v,rfl,yP r,o,h1,j⟩
    .exact c.elim
   .exact c.elim
  .exact c.elim
end
def GH{prog:Ō}{w:World}{A:ŋ}{E:VP}{s:ŉ}{t sl:Addr}{e j:Ŋ}{lo hi:C4}(i:IsTup s.heap t its)(hs:s.heap.IsSliceOf sl e j .none)(n:IsPart e lo)(m:IsPart j hi)
  (h0:HT.sIx its.size 0 lo=0) (h1:HT.sIx its.size its.size hi=its.size) (h:Q (.ref t) s):wpAny (model prog w) A (getItem (.ref t) (.ref sl)) Q E s:=by
 have b:s.TypeIs (.ref sl) "slice":=by obtain⟨k,d,c,_⟩:=id hs;exact⟨k,d,c⟩
 have a:=i.typeIs;unfold getItem
 try with_reducible refine ù ?_
 first |refine wB _|skip
 refine wB (wpAny_sequenceKey a (by decide) ?_);refine wB (î a ġ (ì ġ a entry_tuple_getitem ?_ (args_tuple_getitem _ _)));show wpAny _ _ (Builtin.Tuple.tupleItemsOf _ >>= _) _ _ s;refine wB (tupleItemsOf_ i (wB (ĝ b ?_)));refine wB (HT.sliceApplied_gen hs n m ?_);show wpAny _ _ (if _=true then _ else _) _ _ s;rw[iP (by rw[h0,h1];simp)];refine wB (wB (ĝ a (wP ?_)));refine wB (ĕ ?_)
 first
  |exact wP ⟨_,rfl,wP h⟩
  |exact wB _
  |exact wB _
section
variable{X:Cx}{W:XW}{a e:Expr}{f h:AX}{pos:Pos}
def Ih:SlR X (λx lo hi H Q=> ∃a xs,x=.ref a/\SqT X.K H a xs/\HT.sIx xs.length 0 lo=0/\HT.sIx xs.length xs.length hi=xs.length/\Q (.ref a) H):=by
 intro pins s σ H x v m o lo hi sl Q I e hs j d h;obtain⟨a,xs,rfl,k,i,h1,q⟩:=h;cases e;obtain⟨its,r,c,n⟩:=I.tuple k;have b:its.toArray.size=xs.length:=by rw[sA0];exact r.length.symm
 exact⟨_,_,PyProof.Rows.slot_tuple_getitem.lookup,c.typeIs,GH c hs j d (by rw[b];exact i) (by rw[b];exact h1) ⟨.ref a,H,I,rfl,q⟩⟩
def vQ:Er->Option Int->Option Int->Sto->R Er
 |.val (.str x),lo,hi,S=>if x.length<=sizeLine then .ok (.val (.str (fS x lo hi))) S else .no
 |.val (.tup ds),lo,hi,S=>.ok (.val (.tup (fS ds lo hi))) S
 |p,lo,hi,S=>match jD S p with |some ds=>.ok (.new (fS ds lo hi)) S|none=>.no
def XE{α:Type}{ds:List α}{lo hi:C4}(a:HT.sIx ds.length 0 lo=0)(h1:HT.sIx ds.length ds.length hi=ds.length):fS ds lo hi=ds:=by unfold fS;rw[a,h1];simp
def Rh{lo hi:Option Expr}{lf k:Rho->Sto->R (Option Int)}{p2:Pos}(n:zN X W a f)(q:Pt X W lo lf)(m:Pt X W hi k):zN X W (.Subscript a (.Slice lo hi none p2) pos) (λρ S=>(f ρ S).bind λp S1=>(lf ρ S1).bind λl S2=>(k ρ S2).bind λu o=>vQ p l u o):=by
 refine Ao (Po.or (Gp.or (Pf.or Ih))) ?_ n q m;intro p lo hi x α S H Q d i b;unfold vQ at b;split at b
 .split at b
  .rename_i r;exact .inl ⟨_,bP i,r,Post.val b d (mN _)⟩
  .exact b.elim
 .rename_i _ _ _ ds;obtain⟨h,vs,rfl,c,l1⟩:=dF i;by_cases hw:HT.sIx vs.length 0 lo=0/\HT.sIx vs.length vs.length hi=vs.length
  .have e:=XE (by rw[<-l1.length];exact hw.1) (by rw[<-l1.length];exact hw.2);rw[e]at b;exact .inr (.inr (.inr ⟨h,vs,rfl,c,hw.1,hw.2,Post.val b d (nB c l1)⟩))
  .exact .inr (.inr (.inl ⟨h,vs,rfl,c,hw,λp j=>Post.newt b d j (l1.cut lo hi)⟩))
 .split at b
  .rename_i ds s;obtain⟨h,vs,rfl,c,l1⟩:=tN rfl d s i;exact .inr (.inl ⟨h,vs,rfl,c,λp j=>Post.newl b d j (l1.cut lo hi)⟩)
  .exact b.elim
theorem DenL.pick{K:C6}{ds:C8}{vs:List V}(l:DenL K α H ds vs): ∀idx:List Nat,DenL K α H (idx.filterMap (ds[·]?)) (idx.filterMap (vs[·]?))
 |[]=>zW
 |i::idx=>by
  cases z:ds[i]? with
  |none=>
   have b:vs[i]? =none:=by rw[ĸ,l.length];exact ĸ.mp z
   rw[Ľ z,Ľ b];exact DenL.pick l idx
  |some d=>
   obtain⟨v,h1,a⟩:=l.at z;rw[Ł z,Ł h1];exact zQ a (DenL.pick l idx)
theorem Vals.pick{us:A0}(r:Vals xs us): ∀idx:List Nat,Vals (idx.filterMap (xs[·]?)) (idx.filterMap (us[·]?))
 |[]=>.nil
 |i::idx=>by
  cases z:xs[i]? with
  |none=>rw[Ľ z,Ľ (r.none_of z)];exact Vals.pick r idx
  |some d=>
   obtain⟨v,h1,a⟩:=r.get z;rw[Ł z,Ł h1];exact .cons a (Vals.pick r idx)
end
section
variable{X:Cx}{W:XW}{a b c e:Expr}{f g h:AX}{pos:Pos}
def NP(S:Sto)(n:Nat)(d:MV):List MV->Option (List Bool)
 |[]=>some []
 |y::ys=>(eqv S n y d).bind λk=>(NP S n d ys).map (k::·)
section
variable{α:B6}{S:Sto}{H:Hp}{pins:C0}{σ:St}{s:ŉ}
def Ii(X:Cx)(α:B6)(S:Sto)(H:Hp)(n:Nat)(d:MV)(u:Ŋ):Bool:=open Classical in decide (∃y x,Den X.K α H y x/\RelV x u/\eqv S n y d=some true)
open Classical in
def Ij(I:↑1)(i:Wd X.g α S H){n:Nat}{d y:MV}{x:V}{u:Ŋ}{k:Bool}(c:Den X.K α H y x)(r:RelV x u)(e:eqv S n y d=some k):Ii X α S H n d u=k:=by
 unfold Ii
 cases k with
 |true=>exact dT0 ⟨y,x,c,r,e⟩
 |false=>
  refine dF0 λ⟨m,j,a,h,b⟩=>?_;have ex:=r.inj h;subst ex;rw[c.inj I i a]at e;rw[e]at b;cases b
theorem tR(I:↑1)(h:Wd X.g α S H){n:Nat}{A:ŋ}{d:MV}{x:V}{v:Ŋ}(b:A.units+n<cLine)(i:Den X.K α H d x)(m:RelV x v): ∀{ys:C8}{vs:List V}{us:A0}{bs:C1},DenL X.K α H ys vs->Vals vs us->NP S n d ys=some bs->
  us.map (Ii X α S H n d)=bs/\ ∀u∈us,SeqAt.EqAt A s u v (Ii X α S H n d u)
 |[],_,_,bs,l,r,e=>by cases l.isnil;cases r;cases e;exact⟨rfl,λu b=>by cases b⟩
 |y::ys,_,_,bs,l,r,e=>by
  obtain⟨B,w,rfl,o,q⟩:=l.uncons
  cases r with
  |cons r1 r2=>
   unfold NP at e
   cases z:eqv S n y d with
   |none=>rw[z]at e;cases e
   |some k=>
    rw[z]at e
    cases c:NP S n d ys with
    |none=>simp[c]at e
    |some cs=>
     simp[c]at e;subst e;obtain⟨h1,p⟩:=tR I h b i m q r2 c;have j:=Ij I h o r1 z;refine⟨by rw[å,h1,j],λu a=>?_⟩;rcases mC.mp a with rfl|a
     .rw[j];exact vN I h n A y d _ _ _ _ k b o i r1 m z
     .exact p u a
end
theorem any_map{us:A0}{f:Ŋ->Bool}{bs:C1}(h:us.map f=bs):us.toArray.any f=bs.any id:=by subst h;simp[List.any_map]
def itemsOf(S:Sto):Er->Option (List MV)
 |.val (.tup ds)=>some ds
 |r=>jD S r
def tS(b:Wd X.g α S H){r:Er}{ds:C8}{x:V}(e:itemsOf S r=some ds)(d:DenX X.K α H r x): ∃a vs,x=.ref a/\(SqL X.K H a vs\/SqT X.K H a vs)/\DenL X.K α H ds vs:=by
 unfold itemsOf at e;split at e
 .cases e;obtain⟨a,vs,rfl,s,l⟩:=dF d;exact⟨a,vs,rfl,.inr s,l⟩
 .obtain⟨a,vs,rfl,s,l⟩:=tN rfl b e d;exact⟨a,vs,rfl,.inl s,l⟩
noncomputable def JV(a:Bool)(p q:Er)(S:Sto):R Er:=match p with
 |.val d=>match itemsOf S q with
  |some ys=>match NP S zH d ys with
   |some bs=>.ok (.val (.bl (if a=true then !bs.any id else bs.any id))) S
   |none=>.no
  |none=>.no
 |.new _=>.no
def CO(a:Bool):Er->Er->Sto->R Er
 |.val (.str [c]),.val (.str y),S=>.ok (.val (.bl (if a=true then !decide (c∈y)else decide (c∈y)))) S
 |p,q,S=>JV a p q S
abbrev Bc(X:Cx)(a:Bool):R2:=λx y H Q=> ∃α S d q ys bs,Wd X.g α S H/\Den X.K α H d x/\DenX X.K α H q y/\itemsOf S q=some ys/\NP S zH d ys=some bs/\Q (.bl (if a=true then !bs.any id else bs.any id)) H
theorem Ri(B:X.A.units+64<cLine):OpR X (compareOp .In) (Bc X false):=by
 intro pins s σ H x y v u Q I m o h;obtain⟨α,S,d,q,ys,bs,e,j,z,p,n,k⟩:=h;obtain⟨a,vs,rfl,b,l⟩:=tS e p z;cases o;rcases b with b|b
 .obtain⟨its,r,c,_⟩:=I.list b;obtain⟨h1,i⟩:=tR I e (A:=X.A.in1) (by show X.A.units+1+zH<cLine;unfold zH;lia) j m l r n;refine SeqAt.in_listAt _ c.isList (λw hw=>i w (by simpa using hw)) ⟨.bl _,H,I,rfl,?_⟩;rw[any_map h1];exact k
 .obtain⟨its,r,c,_⟩:=I.tuple b;obtain⟨h1,i⟩:=tR I e (A:=X.A.in1) (by show X.A.units+1+zH<cLine;unfold zH;lia) j m l r n;refine SeqAt.in_tupleAt _ c (λw hw=>i w (by simpa using hw)) ⟨.bl _,H,I,rfl,?_⟩;rw[any_map h1];exact k
theorem XF(B:X.A.units+64<cLine):OpR X (compareOp .NotIn) (Bc X true):=by
 intro pins s σ H x y v u Q I m o h;obtain⟨α,S,d,q,ys,bs,e,j,z,p,n,k⟩:=h;obtain⟨a,vs,rfl,b,l⟩:=tS e p z;cases o;rcases b with b|b
 .obtain⟨its,r,c,_⟩:=I.list b;obtain⟨h1,i⟩:=tR I e (A:=X.A.in1) (by show X.A.units+1+zH<cLine;unfold zH;lia) j m l r n;refine SeqAt.notIn_listAt _ c.isList (λw hw=>i w (by simpa using hw)) ⟨.bl _,H,I,rfl,?_⟩;rw[any_map h1];exact k
 .obtain⟨its,r,c,_⟩:=I.tuple b;obtain⟨h1,i⟩:=tR I e (A:=X.A.in1) (by show X.A.units+1+zH<cLine;unfold zH;lia) j m l r n;refine SeqAt.notIn_tupleAt _ c (λw hw=>i w (by simpa using hw)) ⟨.bl _,H,I,rfl,?_⟩;rw[any_map h1];exact k
def JW{b:Bool}:QX X W (λx y H Q=>(∃i j,x=.str i/\y=.str j/\Q (.bl (if b=true then !(!(Builtin.Str.occurrences j i 0 j.length 1).isEmpty)else !(Builtin.Str.occurrences j i 0 j.length 1).isEmpty)) H)\/Bc X b x y H Q) (CO b):=by
 intro p q x y α S H Q c e h a;unfold CO at a;split at a
 .refine .inl ⟨_,_,bP e,bP h,?_⟩;rw[<-Gz,PySem.StrLaws.found_one];exact Post.val a c (dC _)
 .unfold JV at a;split at a
  .rename_i d _;split at a
   .rename_i ys m;split at a
    .rename_i bs k;exact .inr ⟨α,S,_,q,ys,bs,c,e,h,m,k,Post.val a c (dC _)⟩
    .exact a.elim
   .exact a.elim
  .exact a.elim
def OpR.imp{f:Ŋ->Ŋ->Sem Ŋ}{r a:R2}(h:OpR X f r)(i: ∀x y H Q,a x y H Q->r x y H Q):OpR X f a:=λpins s σ H x y v u Q I b c q=>h pins s σ H x y v u Q I b c (i x y H Q q)
def Bd(a:X.A.units+64<cLine):OpR X (compareOp .In) (λx y H Q=>(∃i j,x=.str i/\y=.str j/\Q (.bl (if(false:Bool)=true then !(!(Builtin.Str.occurrences j i 0 j.length 1).isEmpty)else !(Builtin.Str.occurrences j i 0 j.length 1).isEmpty)) H)\/Bc X false x y H Q):=
 OpR.imp (WL.or (Ri a)) λx y H Q q=>q.imp (λq=>q) λq=>q
def XG(a:X.A.units+64<cLine):OpR X (compareOp .NotIn) (λx y H Q=>(∃i j,x=.str i/\y=.str j/\Q (.bl (if(true:Bool)=true then !(!(Builtin.Str.occurrences j i 0 j.length 1).isEmpty)else !(Builtin.Str.occurrences j i 0 j.length 1).isEmpty)) H)\/Bc X true x y H Q):=
 OpR.imp (JB.or (XF a)) λx y H Q q=>q.imp (λq=>q) λq=>q
def Xx(c:X.A.units+64<cLine)(e:zN X W a f)(d:zN X W b g)(h:behindInMarks .In b=false:=by with_unfolding_all rfl):zN X W (.Compare a [.In] [b] pos) (λρ S=>(f ρ S).bind λp S1=>(g ρ S1).bind λq S2=>CO false p q S2):=Ak (Bd c) JW e d h
def Xy(c:X.A.units+64<cLine)(e:zN X W a f)(d:zN X W b g)(h:behindInMarks .In b=false:=by with_unfolding_all rfl):rO X W (.Compare a [.In] [b] pos) (λρ S=>((f ρ S).bind λp S1=>(g ρ S1).bind λq S2=>CO false p q S2).bind aV):=pS (Bd c) JW e d h
def Be(c:X.A.units+64<cLine)(e:zN X W a f)(d:zN X W b g)(h:behindInMarks .NotIn b=false:=by with_unfolding_all rfl):rO X W (.Compare a [.NotIn] [b] pos) (λρ S=>((f ρ S).bind λp S1=>(g ρ S1).bind λq S2=>CO true p q S2).bind aV):=pS (XG c) JW e d h
def lR{K:C6}{r:Er}{vs:List V}(d:ArgsX K α H [r] vs): ∃v,vs=[v]/\DenX K α H r v:=by
 cases d with
 |cons a l=>cases l;exact⟨_,rfl,a⟩
def Xz{K:C6}{r b:Er}{vs:List V}(d:ArgsX K α H [r,b] vs): ∃v u,vs=[v,u]/\DenX K α H r v/\DenX K α H b u:=by
 cases d with
 |cons a l=>obtain⟨u,rfl,c⟩:=lR l;exact⟨_,u,rfl,a,c⟩
def mR:List Er->Sto->R Er
 |[.val (.str x)],S=>if x.length<=sizeLine then .ok (.val (.int x.length)) S else .no
 |[r],S=>match itemsOf S r with |some ds=>.ok (.val (.int ds.length)) S|none=>.no
 |_,_=>.no
def Rj:pU X W (λxs H Q=>(∃z,xs=[.str z]/\z.length<=sizeLine/\Q (.int z.length) H)\/ ∃p ys,xs=[.ref p]/\(SqL X.K H p ys\/SqT X.K H p ys)/\Q (.int ys.length) H) mR:=by
 intro rs vs α S H Q h d b;unfold mR at b;split at b
 .split at b
  .rename_i i;obtain⟨v,rfl,c⟩:=lR d;cases bP c;refine .inl ⟨_,rfl,by rw[gF];exact i,?_⟩;exact Post.val b h (yV _)
  .exact b.elim
 .split at b
  .rename_i ds e;obtain⟨v,rfl,c⟩:=lR d;obtain⟨a,us,rfl,j,l⟩:=tS h e c;refine .inr ⟨a,us,rfl,j,?_⟩;rw[l.length];exact Post.val b h (yV _)
  .exact b.elim
 .exact b.elim
def XH:CallR X (.builtin "len") (λxs H Q=>(∃z,xs=[.str z]/\z.length<=sizeLine/\Q (.int z.length) H)\/ ∃p ys,xs=[.ref p]/\(SqL X.K H p ys\/SqT X.K H p ys)/\Q (.int ys.length) H):=JK.or JH
def EC(S:Sto):Er->Option String
 |.val .non=>some "NoneType"
 |.val (.bl _)=>some "bool"
 |.val (.int _)=>some "int"
 |.val (.str _)=>some "str"
 |.val (.tup _)=>some "tuple"
 |.val (.typ _)=>none
 |.val (.obj _ _ _)=>none
 |r=>(jD S r).map λ_=>"list"
noncomputable def Ik(t T:String):Bool:=t==T || (t=="bool"&&T=="int")
noncomputable def known(T:String):Bool:=T=="int" || T=="bool" || T=="str" || T=="tuple" || T=="list"
noncomputable def vR:List Er->Sto->R Er
 |[r,.val (.typ T)],S=>match EC S r with
  |some t=>if known T=true then .ok (.val (.bl (Ik t T))) S else .no
  |none=>.no
 |_,_=>.no
theorem aO(K:C6){t T:String}(c:t="NoneType"\/t="bool"\/t="int"\/t="str"\/t="tuple"\/t="list")(b:known T=true):PySem.W.kitOne K (.type t) (.type T)=some (Ik t T):=by
 have a:T="int"\/T="bool"\/T="str"\/T="tuple"\/T="list":=by
  unfold known at b;simp only[Bool.or_eq_true,beq_iff_eq]at b;rcases b with(((h|h)|h)|h)|h
  .exact .inl h
  .exact .inr (.inl h)
  .exact .inr (.inr (.inl h))
  .exact .inr (.inr (.inr (.inl h)))
  .exact .inr (.inr (.inr (.inr h)))
 rcases c with rfl|rfl|rfl|rfl|rfl|rfl<;>rcases a with rfl|rfl|rfl|rfl|rfl<;>kernel_rfl
def Bf:CallR X (.builtin "isinstance") (λxs H Q=> ∃α S r x t T,xs=[x,.ty T]/\Wd X.g α S H/\DenX X.K α H r x/\EC S r=some t/\known T=true/\Q (.bl (Ik t T)) H):=by
 intro pins s σ H xs us Q I n h;obtain⟨α,S,r,x,t,T,rfl,v,d,b,c,q⟩:=h;obtain⟨u,w,rfl,e,p⟩:=vals2 n;cases p;have fin: ∀k,EP X pins σ Q _ {s with toks:=k}:=λk=>⟨.bl _,H,I.tok _,rfl,q⟩
 unfold EC at b;split at b
 .cases b;cases vI d;cases e;exact PySem.W.kia_one PySem.W.kitx_none I.kIn True.intro (aO X.K (.inl rfl) c) (λz=>nomatch z) fin
 .cases b;cases DW d;cases e;exact PySem.W.kia_one PySem.W.kitx_bool I.kIn True.intro (aO X.K (.inr (.inl rfl)) c) (λz=>nomatch z) fin
 .cases b;cases yP d;obtain⟨t,rfl⟩:=e;exact PySem.W.kia_one PySem.W.kitx_int I.kIn True.intro (aO X.K (.inr (.inr (.inl rfl))) c) (λz=>nomatch z) fin
 .cases b;cases bP d;obtain⟨t,rfl⟩:=e;exact PySem.W.kia_one PySem.W.kitx_str I.kIn True.intro (aO X.K (.inr (.inr (.inr (.inl rfl)))) c) (λz=>nomatch z) fin
 .cases b;obtain⟨a,vs,rfl,i,l⟩:=dF d;cases e;obtain⟨its,m,p1,_⟩:=I.tuple i;obtain⟨o,h1,j,_⟩:=p1;exact PySem.W.kia_one PySem.W.kitx_tuple I.kIn ⟨o,h1,j⟩ (aO X.K (.inr (.inr (.inr (.inr (.inl rfl))))) c) (λz=>nomatch z) fin
 .cases b
 .cases b
 .cases z:jD S r with
  |none=>rw[z]at b;cases b
  |some ds=>
   rw[z]at b;cases b;obtain⟨a,vs,rfl,i,l⟩:=tN rfl v z d;cases e;obtain⟨its,m,p1,_⟩:=I.list i;obtain⟨o,h1,j,_⟩:=p1.isList;exact PySem.W.kia_one PySem.W.kitx_list I.kIn ⟨o,h1,j⟩ (aO X.K (.inr (.inr (.inr (.inr (.inr rfl))))) c) (λz=>nomatch z) fin
def Rk:pU X W (λxs H Q=> ∃α S r x t T,xs=[x,.ty T]/\Wd X.g α S H/\DenX X.K α H r x/\EC S r=some t/\known T=true/\Q (.bl (Ik t T)) H) vR:=by
 intro rs vs α S H Q b d a;unfold vR at a;split at a
 .split at a
  .rename_i t c;split at a
   .rename_i e;obtain⟨v,u,rfl,i,h⟩:=Xz d;cases Aj h;exact⟨α,S,_,v,t,_,rfl,b,i,c,e,Post.val a b (dC _)⟩
   .exact a.elim
  .exact a.elim
 .exact a.elim
def bS:List Er->Sto->R Er
 |[.val (.tup ds)],S=>.ok (.val (.tup ds)) S
 |[r],S=>match jD S r with |some ds=>.ok (.val (.tup ds)) S|none=>.no
 |_,_=>.no
def Bg:pU X W (λxs H Q=> ∃p ys,xs=[.ref p]/\((SqL X.K H p ys/\ ∀l,H l=none->Q (.ref l) (xR H l (.tup ys)))\/(SqT X.K H p ys/\Q (.ref p) H))) bS:=by
 intro rs vs α S H Q i d b;unfold bS at b;split at b
 .obtain⟨v,rfl,h⟩:=lR d;obtain⟨a,us,rfl,c,l⟩:=dF h;exact⟨a,us,rfl,.inr ⟨c,Post.val b i (nB c l)⟩⟩
 .split at b
  .rename_i ds e;obtain⟨v,rfl,h⟩:=lR d;obtain⟨a,us,rfl,c,l⟩:=tN rfl i e h;exact⟨a,us,rfl,.inl ⟨c,λp j=>Post.newt b i j l⟩⟩
  .exact b.elim
 .exact b.elim
def NQ:List Er->Sto->R Er
 |[r],S=>match itemsOf S r with |some ds=>.ok (.new ds) S|none=>.no
 |_,_=>.no
def Il:pU X W (λxs H Q=> ∃p ys,xs=[.ref p]/\(SqL X.K H p ys\/SqT X.K H p ys)/\ ∀l,H l=none->Q (.ref l) (xR H l (.lst ys))) NQ:=by
 intro rs vs α S H Q c d b;unfold NQ at b;split at b
 .split at b
  .rename_i ds e;obtain⟨v,rfl,h⟩:=lR d;obtain⟨a,us,rfl,i,l⟩:=tS c e h;exact⟨a,us,rfl,i,λp j=>Post.newl b c j l⟩
  .exact b.elim
 .exact b.elim
def Rl:bootBuiltins "len"=some (.builtin "len"):=by decide+kernel
def GI:bootBuiltins "isinstance"=some (.builtin "isinstance"):=by decide+kernel
def Rm:bootBuiltins "int"=some (.type "int"):=by decide+kernel
def Ro:bootBuiltins "str"=some (.type "str"):=by decide+kernel
def Bh:bootBuiltins "tuple"=some (.type "tuple"):=by decide+kernel
def CP:bootBuiltins "list"=some (.type "list"):=by decide+kernel
end
section
variable{X:Cx}{W:XW}{a e o i:Expr}{es:C5}{f g h:AX}{af:Rho->Sto->R (List Er)}{pos apos:Pos}
def NS:CallR X (.type "int") (λxs H Q=>((∃i,xs=[.int i]/\Q (.int i) H)\/ ∃k,xs=[.bl k]/\Q (.int (if k then 1 else 0)) H)\/ ∃x n,xs=[.str x]/\PySem.intText? x=some n/\x.length<=640/\Q (.int n) H):=by refine WM.or ?_;intro pins s σ H xs us Q I r h;obtain⟨x,n,rfl,b,a,q⟩:=h;obtain⟨u,rfl,t,rfl⟩:=vals1 r;exact PySem.W.KIN.call_text b a ⟨.int n,H,I.tok _,⟨_,rfl⟩,q⟩
noncomputable def Bi:List Er->Sto->R Er
 |[.val (.int i)],S=>.ok (.val (.int i)) S
 |[.val (.bl k)],S=>.ok (.val (.int (if k then 1 else 0))) S
 |[.val (.str x)],S=>match PySem.intText? (fR x)with
  |some n=>if x.length<=640 then .ok (.val (.int n)) S else .no
  |none=>.no
 |_,_=>.no
def Rp:pU X W (λxs H Q=>((∃i,xs=[.int i]/\Q (.int i) H)\/ ∃k,xs=[.bl k]/\Q (.int (if k then 1 else 0)) H)\/ ∃x n,xs=[.str x]/\PySem.intText? x=some n/\x.length<=640/\Q (.int n) H) Bi:=by
 intro rs vs α S H Q c d a;unfold Bi at a;split at a
 .obtain⟨v,rfl,b⟩:=lR d;cases yP b;exact .inl (.inl ⟨_,rfl,Post.val a c (yV _)⟩)
 .obtain⟨v,rfl,b⟩:=lR d;cases DW b;exact .inl (.inr ⟨_,rfl,Post.val a c (yV _)⟩)
 .obtain⟨v,rfl,b⟩:=lR d;cases bP b;split at a
  .rename_i n e;split at a
   .rename_i h;exact .inr ⟨_,n,rfl,e,by rw[gF];exact h,Post.val a c (yV _)⟩
   .exact a.elim
  .exact a.elim
 .exact a.elim
def xZ(p:Er)(S:Sto):Bool:=(jD S p).isSome
def RF:TyM X "list" xZ:=by
 intro p x α S H b d h;unfold xZ at h
 cases z:jD S p with
 |none=>rw[z]at h;cases h
 |some ds=>
  obtain⟨a,vs,rfl,s,l⟩:=tN rfl b z d;exact .inl ⟨rfl,vs,s⟩
noncomputable def strIdx(x y:Db):Option Nat:=(Builtin.Str.occurrences (fR x) (fR y) 0 (fR x).length 1).head?
noncomputable def GK(p:Er)(S:Sto)(G:List MV->Option (List MV)):R Er:=match p with
 |.val (.loc l)=>match S[l]? with
  |some (.lst ds)=>match G ds with
   |some es=>.ok (.val .non) (S.set l (.lst es))
   |none=>.no
  |_=>.no
 |_=>.no
def HR{c:B6}{p:Er}{x:V}{G:List MV->Option (List MV)}{Q:VK}(d:Wd X.g α S H)(r:Ext c H0 α H)(j:DenX X.K α H p x)(b:Post X.g W c H0 (GK p S G) Q):
  ∃a vs ds es,x=.ref a/\H a=some (.lst vs)/\DenL X.K α H ds vs/\G ds=some es/\ ∀us,DenL X.K α H es us->Q .non (xR H a (.lst us)):=by
 unfold GK at b;split at b
 .rename_i l;obtain⟨a,rfl,h⟩:=aU j;obtain⟨n,h1,k⟩:=d.of h;rw[h1]at b
  cases n with
  |lst ds=>
   obtain⟨vs,e,l1⟩:=k;have b:Post X.g W c H0 (match G ds with |some es=>R.ok _ _|none=>R.no) Q:=b;split at b
   .rename_i es q;refine⟨a,vs,ds,es,rfl,e,l1,q,λus m=>?_⟩;have i:=d.writex h (Fc e) (o:=.lst us);exact(b.shift (r.trans i)).val (d.write h (Fc e) ⟨us,zS,m.ext i⟩) tL
   .exact b.elim
  |dic _=>exact b.elim
  |ins _ _=>exact b.elim
  |rcd _ _=>exact b.elim
  |fdc _=>exact b.elim
 .exact b.elim
def aW:Er->List Er->Sto->R Er
 |p,[r],S=>(wQ r S).bind λy S1=>GK p S1 λds=>if ds.length<sizeLine then some (ds++[y])else none
 |_,_,_=>.no
def XI:NG X W SX aW:=by
 intro p rs x vs α S H0 H Q i u A j c b
 match rs,c,b with
 |[],_,b=>exact b.elim
 |_::_::_,_,b=>exact b.elim
 |[r],c,b=>
  cases c with
  |cons d n l=>
   cases l;obtain⟨B,S',α',v,z,s,q,o⟩:=bR u A d;have b:Post X.g W i H0 ((wQ r S).bind λy S1=>GK p S1 λds=>if ds.length<sizeLine then some _ else none) Q:=b;rw[v]at b
   have h:DenX X.K α' H p x:=by
    cases p with
    |val m=>exact Den.ex0 s j
    |new ds=>exact b.elim
   obtain⟨a,us,ds,es,rfl,h1,l1,e,k⟩:=HR q z h b;split at e
   .rename_i w;cases e;exact⟨a,us,_,rfl,rfl,h1,by rw[l1.length];exact w,k _ (l1.append (zQ o zW))⟩
   .cases e
def XJ(ho:zN X W a f)(b:CN X W (e::es) af)
  (hbase:attributeBase a "append" X.env (eval a X.env)=eval a X.env:=by rfl)
  (hfew:((backTo pos (starEach (e::es) X.env)).all (λx=>!x.1)&&(backToKw pos (keywordEach [] X.env)).all (λx=>x.1.isSome)
   &&decide ((e::es).length+([]:List Keyword).length+(if([]:List Keyword).isEmpty then 0 else 1)<30))=true:=by rfl)
  (hline:(apos.endLine==pos.line)=true:=by rfl) (hs:q9 X e es:=by rfl) (hplain:Q0 X pos es:=by rfl):
  zN X W (.Call (.Attribute a "append" apos) (e::es) [] pos) (λρ S=>(f ρ S).bind λp S1=>if xZ p S1=true then(af ρ S1).bind λrs S2=>aW p rs S2 else .no):=
 JP PySem.F.plainAttrs_list PySem.F.slot_list_append PySem.F.type_list_append WR XI RF ho b hbase hfew hline hs hplain
def HS(p q:Er)(d:MV)(ρ:Rho)(S:Sto):R Rho:=match p,q with
 |.val (.loc l),.val (.int k)=>match S[l]? with
  |some (.lst ds)=>match JD ds.length k with
   |some j=>.ok ρ (S.set l (.lst (ds.set j d)))
   |none=>.no
  |_=>.no
 |_,_=>.no
def Rq(ho:zN X W o f)(hi:zN X W i g)
  (ha: ∀v,assign (.Subscript o i pos) X.env v=(do
   let ov <-holding [v] (eval o X.env);let r <-holding [v,ov] (eval i X.env)
   standAt pos
   holding [v,ov,r] (setItem ov r v)
   release [v,ov,r] []):=by intro _;rfl):XA X W (.Subscript o i pos) (λd ρ S=>(f ρ S).bind λp S1=>(g ρ S1).bind λq S2=>HS p q d ρ S2):=by
 obtain⟨to,ho,M⟩:=ho;obtain⟨T,hi,J⟩:=hi;refine⟨_,QL ho hi set_list ha,λα ρ S σ H d v Q I sl N q=>M α ρ S σ H _ I sl (q.bind λu p S1 s H1 P m F G L=>J s ρ S1 σ H1 _ F (sl.ext m) ((L.shift m).bind λU p2 S2 c B O e z E b=>?_))⟩
 replace b:=b.shift e
 have A:=DenX.ext e G.1;unfold HS at b;split at b
 .rename_i l k;obtain⟨a,rfl,h⟩:=aU A;cases yP E.1;obtain⟨D,h1,K⟩:=z.of h;rw[h1]at b
  cases D with
  |lst ds=>
   obtain⟨vs,y,l1⟩:=K;have b:Post X.g W c B (match JD ds.length k with |some j=>R.ok ρ _|none=>R.no) Q:=b;split at b
   .rename_i j C;have w:=z.writex h (Fc y) (o:=.lst (vs.set j v));have n:=((sl.ext m).ext e).ext w;exact⟨a,vs,k,j,rfl,rfl,y,by rw[l1.length];exact C,b σ c _ w (z.write h (Fc y) ⟨_,zS,(l1.set ((N.ext m).ext e) j).ext w⟩) n⟩
   .exact b.elim
  |dic _=>exact b.elim
  |ins _ _=>exact b.elim
  |rcd _ _=>exact b.elim
  |fdc _=>exact b.elim
 .exact b.elim
end
def _root_.L2.Inv.turnedL{X:Cx}{pins:C0}{s:ŉ}{h':Heap}{t':Nat}{fp:B6}(I:↑1)(k: ∀b o,b∉fp->s.heap.get? b=some o->h'.get? b=some o)
  (hf: ∀b∈fp,pH X pins H b):Inv X pins σ H {s with heap:=h',toks:=t'}:=by
 have d: ∀b u,H b=some u->b∉fp:=λb u e z=>by rw[(hf b z).1]at e;cases e
 refine I.step (λb h=>⟨(hf b h).2.2.2.1,(hf b h).2.1,(hf b h).2.2.2.2.1,(hf b h).2.2.2.2.2⟩) (λb o _ _ a e _=>k b o a e) (λb o _ _ a e _=>⟨_,k b o a e⟩) (λ_ _ _ _ n=>n)
  (λb o a e=>⟨o,k b o a e⟩) (λ_ _ e=>e) (λ_ _ _ e=>e) (λb ps e=>⟨#[],by rw[e];simp⟩) (λm i=>?_) (λb u e=>?_) I.bare
 .obtain⟨o,es,ep,j,r⟩:=i;exact⟨o,es,ep,k _ o (λz=>(hf _ z).2.1 rfl) j,r⟩
 .refine(I.hok b u e).stay (λc v a q=>k c v ?_ q) (λ_ q=>q) λ_ _ q=>q;rcases a with z|z
  .rw[z];exact d b u e
  .exact d c _ z
def IsSub(k:Bool)(h:Heap)(it l:Addr)(i:Nat):Prop:=if k=true then h.IsListIter it l i else h.IsTupleIter it l i
def IsSeq(k:Bool)(h:Heap)(l:Addr)(its:B0):Prop:=if k=true then h.IsList l its else h.IsTuple l its
noncomputable def pV(k:Bool)(l:Addr):Obj:={cls:=.type (if k=true then "list_iterator" else "tuple_iterator"),data:=.fields #[.ref l,.int 0 0]}
def IsSub.mk'{k:Bool}{h:Heap}{it l:Addr}(e:h.get? it=some (pV k l)):IsSub k h it l 0:=by
 cases k with
 |true=>exact⟨_,e,rfl,rfl⟩
 |false=>exact⟨_,e,rfl,rfl⟩
def IsSub.there{k:Bool}{h:Heap}{it l:Addr}{i:Nat}(x:IsSub k h it l i): ∃o,h.get? it=some o/\ ∀v,o.data≠.cell v:=by
 cases k with
 |true=>obtain⟨o,e,_,d⟩:=(x:h.IsListIter it l i);exact⟨o,e,λv z=>by rw[d]at z;cases z⟩
 |false=>obtain⟨o,e,_,d⟩:=(x:h.IsTupleIter it l i);exact⟨o,e,λv z=>by rw[d]at z;cases z⟩
def IsSub.move{k:Bool}{h h':Heap}{it l:Addr}{i:Nat}(x:IsSub k h it l i)(f: ∀o,h.get? it=some o->h'.get? it=some o):IsSub k h' it l i:=by
 cases k with
 |true=>obtain⟨o,e,r⟩:=(x:h.IsListIter it l i);exact⟨o,f o e,r⟩
 |false=>obtain⟨o,e,r⟩:=(x:h.IsTupleIter it l i);exact⟨o,f o e,r⟩
def IsSeq.move{k:Bool}{h h':Heap}{l:Addr}(x:IsSeq k h l its)(f: ∀o,h.get? l=some o->h'.get? l=some o):IsSeq k h' l its:=by
 cases k with
 |true=>obtain⟨o,e,r⟩:=(x:h.IsList l its);exact⟨o,f o e,r⟩
 |false=>obtain⟨o,e,r⟩:=(x:h.IsTuple l its);exact⟨o,f o e,r⟩
section
variable{prog:Ō}{w:World}{A:ŋ}{E:VP}{s:ŉ}
def pX{k:Bool}{l:Addr}(a:IsSeq k s.heap l its)(h:Q (.ref ↑0) {s with heap:=s.heap.push (pV k l)}):wpAny (model prog w) A (pyIter (.ref l)) Q E s:=by
 cases k with
 |true=>exact wpAny_pyIter_list a h
 |false=>exact wpAny_pyIter_tuple a h
def aX{k:Bool}{it l:Addr}{i:Nat}{x:Ŋ}(b:IsSub k s.heap it l i)(h:IsSeq k s.heap l its)(j:its[i]? =some x)
  (hQ: ∀h',IsSub k h' it l (i+1)->Heap.SameBut it s.heap h'->Q x {s with heap:=h'}):wpAny (model prog w) A (Builtin.SmallTypes.nextOf (.ref it)) Q E s:=by
 cases k with
 |true=>exact wpAny_nextOf_list_item b h j hQ
 |false=>
  have a:=b;obtain⟨o,c,m,hd⟩:=id a;obtain⟨p,d,_,n,e⟩:=(h:s.heap.IsTuple l its)
  refine wB (î a.typeIs Ĵ (ì Ĵ a.typeIs F.entry_tuple_iterator_next ?_ (F.args_tuple_iterator_next_1 _)));show wpAny _ _ (field _ 0 >>= _) _ _ s;refine wB (ñ c hd rfl ?_);show wpAny _ _ _ _ _ s;show wpAny _ _ _ _ _ s;refine wB (ñ c hd rfl ?_);show wpAny _ _ _ _ _ s;refine wB (č d e ?_);simp only[Ď,j];refine wB (wpAny_setField c hd (by simp) (wP ⟨x,rfl,wP (hQ _ ?_ (ď ..))⟩));exact⟨_,Heap.get?_update_self _ c (Obj.isFreed_of_fields (Obj.data_mapFields hd _)),(Obj.cls_mapFields ..).trans m,by rw[Obj.data_mapFields hd];simp[rawInt]⟩
def tU{k:Bool}{it l:Addr}{i:Nat}(h:A.handled=none)(b:IsSub k s.heap it l i)(m:IsSeq k s.heap l its)(n:its[i]? =none)
  (hE: ∀h' e,Heap.ExtBut it s.heap h'->(∃o,h'.get? e=some o/\o.cls=.type "StopIteration")->E (.ref e) {s with heap:=h'}):wpAny (model prog w) A (Builtin.SmallTypes.nextOf (.ref it)) Q E s:=by
 cases k with
 |true=>exact wpAny_nextOf_list_end h b m n hE
 |false=>
  have a:s.heap.IsTupleIter it l i:=b;obtain⟨o,j,p,hd⟩:=id a;obtain⟨r,c,_,q,d⟩:=(m:s.heap.IsTuple l its)
  unfold Builtin.SmallTypes.nextOf;refine wB (î a.typeIs Ĵ (ì Ĵ a.typeIs F.entry_tuple_iterator_next ?_ (F.args_tuple_iterator_next_1 _)));show wpAny _ _ (field (.ref it) 0 >>= _) _ _ s;refine wB (ñ j hd (x:=.ref l) rfl ?_);show wpAny _ _ _ _ _ s;rw[iN (show¬((Value.ref l==Value.none)=true)from xF0)];show wpAny _ _ _ _ _ s;refine wB (ñ j hd rfl ?_);show wpAny _ _ _ _ _ s;refine wB (č c d ?_);simp only[Ď,n];refine wB (ĕ (wB (wpAny_setField j hd (by simp) ?_)));show wpAny _ _ _ _ _ _;refine wB ?_;simp only[newExc,newTuple];refine wB (ć ?_ (by size_fits));refine wB (wpAny_of_eq (by first |rfl|(simp only[firstArgMember];rfl)) ?_);refine ć ?_ (by size_fits);simp only[raiseNew];refine wB (wpAny_handled ?_)
  first |rw[show A.in1.handled=none from h]|rw[h]
  refine wB (wP (wpAny_throw ?_));exact hE _ _ (((ď ..).extBut.push _).push _) ⟨_,ã _ rfl,rfl⟩
end
structure ZipSt(k1 k2:Bool)(z TI TO i1 i2 l1 l2:Addr)(i:Nat)(h:Heap):Prop where
 z:IsZip h z TI TO .none
 ti:IsPair h TI (.ref i1) (.ref i2)
 to: ∃a b,IsPair h TO a b
 s1:IsSub k1 h i1 l1 i
 s2:IsSub k2 h i2 l2 i
structure Apart5(z TI TO i1 i2:Addr):Prop where
 TIz:TI≠z
 TOz:TO≠z
 i1z:i1≠z
 i2z:i2≠z
 TITO:TI≠TO
 TIi1:TI≠i1
 TIi2:TI≠i2
 TOi1:TO≠i1
 TOi2:TO≠i2
 i12:i1≠i2
section
variable{prog:Ō}{w:World}{A:ŋ}{E:VP}{s:ŉ}{k1 k2:Bool}{z TI TO i1 i2 l1 l2:Addr}{i:Nat}{xs ys:B0}
def Off(l z TO i1 i2:Addr):Prop:=l≠z/\l≠TO/\l≠i1/\l≠i2
def NT{x y:Ŋ}(D:Apart5 z TI TO i1 i2)(o1:Off l1 z TO i1 i2)(P:Off l2 z TO i1 i2)(st:ZipSt k1 k2 z TI TO i1 i2 l1 l2 i s.heap)(af:IsSeq k1 s.heap l1 xs)(S:IsSeq k2 s.heap l2 ys)(hx:xs[i]? =some x)(hy:ys[i]? =some y)
  (hQ: ∀h',IsZip h' z TI TO (rawInt ↑0)->IsPair h' TO x y->IsSub k1 h' i1 l1 (i+1)->IsSub k2 h' i2 l2 (i+1)->IsPair h' ↑0 x y->
   (∀c o,c≠z->c≠TO->c≠i1->c≠i2->s.heap.get? c=some o->h'.get? c=some o)->Q (.ref ↑0) {s with heap:=h'}):
  wpAny (model prog w) A (Builtin.«zip.__next__» ⟨[.ref z],[]⟩) (λfin s'=> ∃v,fin=.done (.ret v)/\Q v s') E s:=by
 obtain⟨K,aa,⟨a,b,X⟩,h1,h2⟩:=st;show wpAny _ _ (field (.ref z) 2 >>= _) _ _ _;refine wB (ñ K rfl (x:=.bool false) rfl ?_);show wpAny _ _ (field (.ref z) 3 >>= _) _ _ _;refine wB (ñ K rfl (x:=.ref TI) rfl (wB (č aa rfl ?_)));show wpAny _ _ (Builtin.SmallTypes.ownedTupleIsFree (.ref z) >>= _) _ _ _;refine wB ?_;unfold Builtin.SmallTypes.ownedTupleIsFree;refine wB (ñ K rfl (x:=.none) rfl (wP ?_));simp only[if_true];refine wB (ĕ (wB (ñ K rfl (x:=.ref TO) rfl (wB (ô K (by simp) λha u h=>?_)))))
 replace u:IsZip ha z TI TO .ellipsis:=u
 refine wB ?_;simp only[zipIdx_cons,zipIdx_nil,forIn_cons,forIn_nil];refine wB (wB (wpAny_onRaise ?_));show wpAny _ _ (Builtin.SmallTypes.nextOf (.ref i1) >>= _) _ _ _;refine wB (aX (h1.move λo e=>h.extBut _ _ D.i1z e) (af.move λo e=>h.extBut _ _ o1.1 e) hx λhb Z m=>wP ?_);have I:IsPair hb TO a b:=m.extBut _ _ D.TOi1 (h.extBut _ _ D.TOz X);refine wB (č I rfl (wB (wpAny_updateSeq_pair I λhc B p=>wB (wpAny_letGo (wP ?_)))))
 replace B:IsPair hc TO x b:=B
 refine wB (wB (wpAny_onRaise ?_));show wpAny _ _ (Builtin.SmallTypes.nextOf (.ref i2) >>= _) _ _ _;have O: ∀c o,c≠z->c≠TO->c≠i1->s.heap.get? c=some o->hc.get? c=some o:=λc o n1 N n3 e=>p.extBut _ _ N (m.extBut _ _ n3 (h.extBut _ _ n1 e));refine wB (aX (h2.move λo e=>O _ o D.i2z D.TOi2.symm D.i12.symm e) (S.move λo e=>O _ o P.1 P.2.1 P.2.2.1 e) hy λhd W j=>wP ?_);have C:IsPair hd TO x b:=j.extBut _ _ D.TOi2 B;refine wB (č C rfl (wB (wpAny_updateSeq_pair C λd n k=>wB (wpAny_letGo (wP (wP ?_))))))
 replace n:IsPair d TO x y:=n
 refine wB (č n rfl (wB (wpAny_newTuple ?_)));have J:d.objs.size=s.heap.objs.size:=by rw[k.1,j.1,p.1,m.1,h.1]
 have ze:IsZip d z TI TO .ellipsis:=k.extBut _ _ D.TOz.symm (j.extBut _ _ D.i2z.symm (p.extBut _ _ D.TOz.symm (m.extBut _ _ D.i1z.symm u)));have ab: ∀c o,c≠z->c≠TO->c≠i1->c≠i2->s.heap.get? c=some o->d.get? c=some o:=λc o n1 N n3 n4 e=>k.extBut _ _ N (j.extBut _ _ n4 (O c o n1 N n3 e));have T:IsSub k1 d i1 l1 (i+1):=Z.move λo e=>k.extBut _ _ D.TOi1.symm (j.extBut _ _ D.i12 (p.extBut _ _ D.TOi1.symm e));have ae:IsSub k2 d i2 l2 (i+1):=W.move λo e=>k.extBut _ _ D.TOi2.symm e;have r:z<d.objs.size:=â ze;show wpAny _ _ (Builtin.SmallTypes.ownedTupleHandOut (.ref z) (.ref d.objs.size) >>= _) _ _ _;refine wB ?_;unfold Builtin.SmallTypes.ownedTupleHandOut;have zf:IsZip (d.push {cls:=.type "tuple",data:=.seq #[x,y]}) z TI TO .ellipsis:=hP0 _ ze;refine wB (ô zf (by simp) λY U F=>?_)
 replace U:IsZip Y z TI TO (rawInt d.objs.size):=U
 refine ô U (by simp) λq L H=>?_
 replace L:IsZip q z TI TO (rawInt d.objs.size):=L
 have M: ∀c o,c≠z->d.get? c=some o->q.get? c=some o:=λc o G e=>H.extBut _ _ G (F.extBut _ _ G (hP0 _ e));have tT:IsPair q d.objs.size x y:=H.extBut _ _ (ø r) (F.extBut _ _ (ø r) (ã _ rfl));rw[J]at L tT;refine wP ⟨_,rfl,?_⟩;show Q (.ref d.objs.size) _;rw[J];exact hQ q L (M _ _ D.TOz n) (T.move λo e=>M _ o D.i1z e) (ae.move λo e=>M _ o D.i2z e) tT λc o G c2 c3 c4 e=>M c o G (ab c o G c2 c3 c4 e)
def TR{Q:Fin->ŉ->Prop}(Z:A.handled=none)(D:Apart5 z TI TO i1 i2)(Y:Off l1 z TO i1 i2)(K:Off l2 z TO i1 i2)(st:ZipSt k1 k2 z TI TO i1 i2 l1 l2 i s.heap)(I:IsSeq k1 s.heap l1 xs)(L:IsSeq k2 s.heap l2 ys)(F:xs[i]? =none\/ys[i]? =none)
  (hE: ∀h' e,(∀c o,c≠z->c≠TO->c≠i1->c≠i2->s.heap.get? c=some o->h'.get? c=some o)->(∃o,h'.get? e=some o/\o.cls=.type "StopIteration")->E (.ref e) {s with heap:=h'}):
  wpAny (model prog w) A (Builtin.«zip.__next__» ⟨[.ref z],[]⟩) Q E s:=by
 obtain⟨G,W,⟨a,b,N⟩,h1,h2⟩:=st;show wpAny _ _ (field (.ref z) 2 >>= _) _ _ _;refine wB (ñ G rfl (x:=.bool false) rfl ?_);show wpAny _ _ (field (.ref z) 3 >>= _) _ _ _;refine wB (ñ G rfl (x:=.ref TI) rfl (wB (č W rfl ?_)));show wpAny _ _ (Builtin.SmallTypes.ownedTupleIsFree (.ref z) >>= _) _ _ _;refine wB ?_;unfold Builtin.SmallTypes.ownedTupleIsFree;refine wB (ñ G rfl (x:=.none) rfl (wP ?_));simp only[if_true];refine wB (ĕ (wB (ñ G rfl (x:=.ref TO) rfl (wB (ô G (by simp) λha p d=>?_)))))
 replace p:IsZip ha z TI TO .ellipsis:=p
 refine wB ?_;simp only[zipIdx_cons,zipIdx_nil,forIn_cons,forIn_nil];refine wB (wB (wpAny_onRaise ?_));show wpAny _ _ (Builtin.SmallTypes.nextOf (.ref i1) >>= _) _ _ _
 cases X:xs[i]? with
 |none=>
  refine wB (tU Z (h1.move λo e=>d.extBut _ _ D.i1z e) (I.move λo e=>d.extBut _ _ Y.1 e) X λS e k U=>?_);obtain⟨M,j,n⟩:=U;have u:IsZip S z TI TO .ellipsis:=k _ _ D.i1z.symm p;have r:e≠z:=λq=>by subst q;rw[u]at j;cases j;simp at n
  exact ô u (by simp) λT _ m=>hE T e (λc o B _ O _ q=>m.extBut _ _ B (k _ _ O (d.extBut _ _ B q))) ⟨M,m.extBut _ _ r j,n⟩
 |some x=>
  have hy:ys[i]? =none:=by rcases F with h|h;(rw[X]at h;cases h);exact h
  refine wB (aX (h1.move λo e=>d.extBut _ _ D.i1z e) (I.move λo e=>d.extBut _ _ Y.1 e) X λS aa k=>wP ?_);have C:IsPair S TO a b:=k.extBut _ _ D.TOi1 (d.extBut _ _ D.TOz N);refine wB (č C rfl (wB (wpAny_updateSeq_pair C λT ab m=>wB (wpAny_letGo (wP ?_)))));refine wB (wB (wpAny_onRaise ?_));show wpAny _ _ (Builtin.SmallTypes.nextOf (.ref i2) >>= _) _ _ _;have J: ∀c o,c≠z->c≠TO->c≠i1->s.heap.get? c=some o->T.get? c=some o:=λc o n1 n2 n3 e=>m.extBut _ _ n2 (k.extBut _ _ n3 (d.extBut _ _ n1 e));refine wB (tU Z (h2.move λo e=>J _ o D.i2z D.TOi2.symm D.i12.symm e) (L.move λo e=>J _ o K.1 K.2.1 K.2.2.1 e) hy λhd e y U=>?_);obtain⟨M,j,n⟩:=U;have H:IsZip hd z TI TO .ellipsis:=y _ _ D.i2z.symm (m.extBut _ _ D.TOz.symm (k.extBut _ _ D.i1z.symm p));have r:e≠z:=λq=>by subst q;rw[H]at j;cases j;simp at n
  exact ô H (by simp) λP _ v=>hE P e (λc o B c2 O c4 q=>v.extBut _ _ B (y _ _ c4 (J c o B c2 O q))) ⟨M,v.extBut _ _ r j,n⟩
def RG(k1 k2:Bool)(l1 l2:Addr)(xs ys:B0):
  Meets (Builtin.«zip.__new__» ⟨[.type "zip",.ref l1,.ref l2],[]⟩) (λ_ R s=>IsSeq k1 s.heap l1 xs/\IsSeq k2 s.heap l2 ys/\
   R (.ok (.ret (.ref (↑0+4)))) {s with heap:=((((s.heap.push (pV k1 l1)).push (pV k2 l2)).push {cls:=.type "tuple",data:=.seq #[.ref ↑0,.ref (↑0+1)]}).push {cls:=.type "tuple",data:=.seq #[.none,.none]}).push {cls:=.type "zip",data:=.fields #[.none,.bool false,.bool false,.ref (↑0+2),.ref (↑0+3)]}}):=
 .of_wp λprog w A R s h=>by
  obtain⟨n,g,d,k,j⟩:=s;obtain⟨b,a,h⟩:=h;have m:=sub_zip;have c:IsSeq k1 (Shared.heap ⟨n,g,d,k,j⟩) l1 xs:=b;have i:IsSeq k2 (Shared.heap ⟨n.push (pV k1 l1),g,d,k,j⟩) l2 ys:=a.move λo e=>hP0 _ e;have p: ∀(h:Heap)(o:Obj),(h.push o).objs.size=h.objs.size+1:=λh o=>į ..;simp only[p]at h ⊢
  wp_walk using pX c,pX i
  exact⟨_,rfl,by simp only[p];exact h⟩
def NU(j:IsSeq k1 s.heap l1 xs)(k:IsSeq k2 s.heap l2 ys)
  (h: ∀h',ZipSt k1 k2 (↑0+4) (↑0+2) (↑0+3) ↑0 (↑0+1) l1 l2 0 h'->(∀c o,s.heap.get? c=some o->h'.get? c=some o)->Q (.ref (↑0+4)) {s with heap:=h'}):
  wpAny (model prog w) A (call (.type "zip") [.ref l1,.ref l2]) Q E s:=by
 refine callType_new F.called_zip (by decide) (F.typeCall_zip_2 _ _) (F.newCall_zip_2 _ _) (λi=>F.args_object_init_3 i _ _) F.entry_zip_new (RG k1 k2 l1 l2 xs ys) ⟨j,k,?_⟩;have d: ∀(h:Heap)(o:Obj),(h.push o).objs.size=h.objs.size+1:=λh o=>į ..;have b: ∀(h:Heap)(o:Obj)(n:Nat),o.isFreed=false->h.objs.size=n->(h.push o).get? n=some o:=λh o n m e=>by subst e;exact ã _ m
 have a: ∀(h:Heap)(o u:Obj)(n:Nat),h.get? n=some u->(h.push o).get? n=some u:=λh o u n e=>hP0 _ e;refine⟨⟨_,b _ _ _ rfl (by simp only[d]),rfl⟩,h _ ⟨b _ _ _ rfl (by simp only[d]),a _ _ _ _ (a _ _ _ _ (b _ _ _ rfl (by simp only[d]))),⟨.none,.none,a _ _ _ _ (b _ _ _ rfl (by simp only[d]))⟩,?_,?_⟩ λc o e=>a _ _ _ _ (a _ _ _ _ (a _ _ _ _ (a _ _ _ _ (a _ _ _ _ e))))⟩
 .exact IsSub.mk' (a _ _ _ _ (a _ _ _ _ (a _ _ _ _ (a _ _ _ _ (b _ _ _ rfl rfl)))))
 .exact IsSub.mk' (a _ _ _ _ (a _ _ _ _ (a _ _ _ _ (b _ _ _ rfl (by simp only[d])))))
end
def apart_new(n:Nat):Apart5 (n+4) (n+2) (n+3) n (n+1):=by constructor<;>(show(_:Nat)≠_;omega)
def FY(k:Bool)(K:C6)(H:Hp)(a:Addr)(xs:List V):Prop:=if k=true then SqL K H a xs else SqT K H a xs
noncomputable def Itz(K:C6)(k1 k2:Bool)(l1 l2:Addr):It:=
 ⟨λi H=> ∃xs ys x y,FY k1 K H l1 xs/\FY k2 K H l2 ys/\xs[i]? =some x/\ys[i]? =some y,
   λi H v H'=> ∃p x y,H p=none/\v=.ref p/\H'=xR H p (.tup [x,y])/\(∀xs,FY k1 K H l1 xs->xs[i]? =some x)/\ ∀ys,FY k2 K H l2 ys->ys[i]? =some y,
   λi H=> ∃xs ys,FY k1 K H l1 xs/\FY k2 K H l2 ys/\(xs.length<=i\/ys.length<=i)⟩
section
variable{X:Cx}{pins:C0}{σ:St}{H:Hp}{s:ŉ}
def _root_.L2.Inv.seqK(I:↑1){k:Bool}{a:Addr}(h:FY k X.K H a xs): ∃its:List Ŋ,Vals xs its/\IsSeq k s.heap a its.toArray/\xs.length<=sizeLine:=by
 cases k with
 |true=>obtain⟨its,r,p,z⟩:=I.list h;exact⟨its,r,p.isList,z⟩
 |false=>obtain⟨its,r,p,z⟩:=I.tuple h;exact⟨its,r,p,z⟩
def _root_.L2.Inv.seqK_inj(I:↑1){k:Bool}{a:Addr}{ys:List V}(h:FY k X.K H a xs)(h':FY k X.K H a ys):xs=ys:=by
 cases k with
 |true=>exact I.list_inj h h'
 |false=>exact I.tuple_inj h h'
def fX(I:↑1){k:Bool}{l b:Addr}(h:FY k X.K H l xs)(a:pH X pins H b):l≠b:=by
 rintro rfl
 have d: ∀o,X.K.lookup l=some o->False:=λo e=>by
  have c:=I.mod.kin l o e;rcases a.2.2.2.1 with z|z
  .exact I.ok.noex l o c z
  .exact absurd (ç (â c) (õ I.ok.bsz z)) (ı _)
 cases k with
 |true=>
  rcases (h:SqL X.K H l xs)with(h|⟨o,h⟩)|⟨o,its,n,h,_⟩
  .rw[a.1]at h;cases h
  .rw[a.1]at h;cases h
  .exact d o h
 |false=>
  rcases (h:SqT X.K H l xs)with(h|⟨o,h⟩)|⟨o,its,n,h,_⟩
  .rw[a.1]at h;cases h
  .rw[a.1]at h;cases h
  .exact d o h
end
def Bj{P:Ō}{w:World}{K:C6}{elts:C5}{kt:Nat}{pt:Pos}{k1 k2:Bool}{z TI TO i1 i2 l1 l2:Addr}(D:Apart5 z TI TO i1 i2):
  Turn P w K (.Tuple elts kt pt) (Itz K k1 k2 l1 l2) [z,TI,TO,i1,i2] z (λi h=>ZipSt k1 k2 z TI TO i1 i2 l1 l2 i h) where
 mem:=by simp
 obj:=λi h st b hb=>by
  obtain⟨hz,hTI,⟨a,b',hTO⟩,h1,h2⟩:=st;have hb':b=z\/b=TI\/b=TO\/b=i1\/b=i2:=by simpa using hb
  rcases hb' with rfl|rfl|rfl|rfl|rfl
  .exact⟨_,hz,λv q=>by cases q⟩
  .exact⟨_,hTI,λv q=>by cases q⟩
  .exact⟨_,hTO,λv q=>by cases q⟩
  .exact h1.there
  .exact h2.there
 keep:=λi h h' st k=>by obtain⟨hz,hTI,⟨a,b',hTO⟩,h1,h2⟩:=st;exact⟨k z (by simp) _ hz,k TI (by simp) _ hTI,⟨a,b',k TO (by simp) _ hTO⟩,h1.move λo e=>k i1 (by simp) o e,h2.move λo e=>k i2 (by simp) o e⟩
 item:=by
  intro X hP hw hK hc i pins s σ H E I hf st hg;subst hP hw hK;obtain⟨xs,ys,x,y,q1,q2,hx,hy⟩:=hg;obtain⟨its,r1,p1,_⟩:=I.seqK q1;obtain⟨its2,r2,p2,_⟩:=I.seqK q2;obtain⟨u,hu,ru⟩:=r1.get hx;obtain⟨v,hv,rv⟩:=r2.get hy;have off: ∀{k:Bool}{l:Addr}{xs:List V},FY k X.K H l xs->Off l z TO i1 i2:=λq=>⟨fX I q (hf z (by simp)),fX I q (hf TO (by simp)),fX I q (hf i1 (by simp)),fX I q (hf i2 (by simp))⟩
  have hT:s.TypeIs (.ref z) "zip":=⟨_,st.z,rfl⟩
  unfold pyNext
  refine wB (Ĉ (î (name:=Str.ofString "__next__") hT ĉ (ì ĉ hT ľ
   (NT D (off q1) (off q2) st p1 p2 (x:=u) (y:=v) (by simpa using hu) (by simpa using hv) λh' a1 a2 a3 a4 a5 a6=>wP ⟨_,rfl,?_⟩) (ķ _))))
  refine wpAny_letOwnedTupleGo_zip a1 λh2 z2 sb2=>?_;have hpn:H ↑0=none:=I.hok.fresh (à _)
  have I0:Inv X pins σ (xR H ↑0 (.tup [x,y])) {s with heap:=s.heap.push {cls:=.type "tuple",data:=.seq #[u,v]}}:=
   I.laid (t':=s.toks) (o:=.tup [x,y]) (λb o e=>hP0 _ e) (à _) ⟨by show 2<=sizeLine;decide,[u,v],.cons ru (.cons rv .nil),⟨_,ã _ rfl,rfl,_,rfl⟩⟩
  have lt: ∀b∈[z,TI,TO,i1,i2],b<s.heap.objs.size:=λb hb=>by
   have: ∃o,s.heap.get? b=some o:=by
    obtain⟨hz,hTI,⟨a,b',hTO⟩,g1,g2⟩:=st;have hb':b=z\/b=TI\/b=TO\/b=i1\/b=i2:=by simpa using hb
    rcases hb' with rfl|rfl|rfl|rfl|rfl
    .exact⟨_,hz⟩
    .exact⟨_,hTI⟩
    .exact⟨_,hTO⟩
    .obtain⟨o,e,_⟩:=g1.there;exact⟨o,e⟩
    .obtain⟨o,e,_⟩:=g2.there;exact⟨o,e⟩
   obtain⟨o,e⟩:=this;exact â e
  have fr: ∀b∈[z,TI,TO,i1,i2],xR H ↑0 (.tup [x,y]) b=none:=λb hb=>by rw[zG (ë (lt b hb))];exact(hf b hb).1
  have zne:↑0≠z:=ø (lt z (by simp))
  have mv: ∀b o,b∉[z,TI,TO,i1,i2]->(s.heap.push {cls:=.type "tuple",data:=.seq #[u,v]}).get? b=some o->h2.get? b=some o:=λb o hb e=>by
   simp only[mC,nM,or_false,not_or]at hb;refine sb2.extBut _ _ hb.1 ?_;by_cases hbs:b=↑0
   .subst hbs;rw[ã _ rfl]at e;cases e;exact a5
   .rw[Heap.get?_push_ne _ _ _ hbs]at e;exact a6 b o hb.1 hb.2.2.1 hb.2.2.2.1 hb.2.2.2.2 e
  have I2:=I0.turnedL (h':=h2) (t':=s.toks) mv λb hb=>let ⟨_,c2,c3,c4,c5,c6⟩:=hf b hb;⟨fr b hb,c2,c3,c4,c5,c6⟩;refine⟨.ref ↑0,_,I2,rfl,⟨↑0,x,y,hpn,rfl,rfl,λzs hz=>?_,λzs hz=>?_⟩,⟨z2,?_,⟨u,v,?_⟩,?_,?_⟩,fr⟩
  .rw[I.seqK_inj hz q1];exact hx
  .rw[I.seqK_inj hz q2];exact hy
  .exact sb2.extBut _ _ D.TIz (a6 TI _ D.TIz D.TITO D.TIi1 D.TIi2 st.ti)
  .exact sb2.extBut _ _ D.TOz a2
  .exact a3.move λo e=>sb2.extBut _ _ D.i1z e
  .exact a4.move λo e=>sb2.extBut _ _ D.i2z e
 done:=by
  intro X hP hw hK hc i pins s σ H E I hf st hg;subst hP hw hK;obtain⟨xs,ys,q1,q2,hx⟩:=hg;obtain⟨its,r1,p1,_⟩:=I.seqK q1;obtain⟨its2,r2,p2,_⟩:=I.seqK q2;have off: ∀{k:Bool}{l:Addr}{xs:List V},FY k X.K H l xs->Off l z TO i1 i2:=λq=>⟨fX I q (hf z (by simp)),fX I q (hf TO (by simp)),fX I q (hf i1 (by simp)),fX I q (hf i2 (by simp))⟩
  have hT:s.TypeIs (.ref z) "zip":=⟨_,st.z,rfl⟩
  have e1:=r1.length;have e2:=r2.length;unfold pyNext
  refine wB (Ĉ (î (name:=Str.ofString "__next__") hT ĉ (ì ĉ hT ľ
   (TR (I.ok.hd hc) D (off q1) (off q2) st p1 p2 (by rcases hx with h|h;(exact .inl (by simp;omega));exact .inr (by simp;omega)) λh' e hk he=>?_) (ķ _))))
  obtain⟨o,ho,hcl⟩:=he;refine wB (Ğ (T:="StopIteration") (b:=true) ⟨o,ho,hcl⟩ isSubtype_stop (wP ⟨rfl,?_⟩));refine I.turnedL (h':=h') (t':=s.toks) (λb o hb e=>?_) hf;simp only[mC,nM,or_false,not_or]at hb;exact hk b o hb.1 hb.2.2.1 hb.2.2.2.1 hb.2.2.2.2 e
 self:=λ_ _ _ _ _ st h=>wpAny_pyIter_zip st.z h
structure Sr where
 k:Bool
 ds:List MV
 gs:List (Nat×List MV)
noncomputable def srcOf(S:Sto):Er->Option Sr
 |.val (.tup ds)=>some ⟨false,ds,[]⟩
 |.new ds=>some ⟨true,ds,[]⟩
 |.val (.scr ds)=>some ⟨true,ds,[]⟩
 |.val (.loc l)=>match S[l]? with
  |some (.lst ds)=>some ⟨true,ds,[(l,ds)]⟩
  |_=>none
 |_=>none
structure SrcD(X:Cx)(q:Sr)(l:Addr)(P:List Addr->Sto->Hp->Prop):Prop where
 get: ∀α S H,P α S H-> ∃vs,FY q.k X.K H l vs/\DenL X.K α H q.ds vs
 stays: ∀α1 S1 H1 α2 S2 H2,P α1 S1 H1->Ext α1 H1 α2 H2->Wd X.g α2 S2 H2->stay q.gs S2->P α2 S2 H2
 st: ∀α S H,P α S H->stay q.gs S
def vS{X:Cx}(A:Wd X.g α S H){r:Er}{x:V}{q:Sr}(e:srcOf S r=some q)(d:DenX X.K α H r x): ∃l P,x=.ref l/\P α S H/\SrcD X q l P:=by
 unfold srcOf at e;split at e
 .rename_i ds;cases e;obtain⟨a,vs,rfl,s,l⟩:=dF d;exact⟨a,λα S H=> ∃vs,_,rfl,⟨vs,s,l⟩,λα S H h=>h,λi S1 H1 j S2 m ⟨vs,h1,c⟩ x w _=>⟨vs,x.sqT h1,c.ext x⟩,λ_ _ _ _=>gH⟩
 .rename_i ds;cases e;obtain⟨b,vs,rfl,h,n,l⟩:=d
  exact⟨b,λα S H=> ∃vs,H b=some (.lst vs)/\b∉α/\DenL X.K α H ds vs,rfl,⟨vs,h,n,l⟩,λα S H ⟨vs,h1,_,c⟩=>⟨vs,(SqL.of h1:SqL X.K H b vs),c⟩,
   λi S1 H1 j S2 m ⟨vs,h1,c,B⟩ x w _=>⟨vs,x.keep b _ h1 c,x.out h1 c,B.ext x⟩,λ_ _ _ _=>gH⟩
 .rename_i ds;cases e;obtain⟨a,vs,rfl,s,l⟩:=DX d;exact⟨a,λα S H=> ∃vs,SqF X.K H a vs/\DenL X.K α H ds vs,rfl,⟨vs,s,l⟩,λα S H ⟨vs,h1,c⟩=>⟨vs,h1.l,c⟩,λi S1 H1 j S2 m ⟨vs,h1,c⟩ x w _=>⟨vs,x.sqF h1,c.ext x⟩,λ_ _ _ _=>gH⟩
 .rename_i n;split at e
  .rename_i ds u;cases e;obtain⟨a,rfl,h⟩:=aU d;obtain⟨vs,h1,c⟩:=A.obj n a _ h u;refine⟨a,λα S H=> ∃vs,H a=some (.lst vs)/\DenL X.K α H ds vs/\α[n]? =some a/\S[n]? =some _,rfl,⟨vs,h1,c,h,u⟩,λα S H ⟨vs,h1,c,_⟩=>⟨vs,(SqL.of h1:SqL X.K H a vs),c⟩,?_,?_⟩
   .intro i S1 H1 j S2 m ⟨vs,E,D,v,o⟩ x w hs;have k:=hs (n,ds) (by simp);obtain⟨us,z,y⟩:=w.obj n a _ (x.at v) k;exact⟨us,z,y,x.at v,k⟩
   .intro α S H ⟨vs,_,_,_,o⟩ p C;have:=by simpa using C
    subst this;exact o
  .cases e
 .cases e
def iZip(K:C6)(ta:TA):TI:=λσ H R=>ta σ H λvs H1=> ∃k1 k2 l1 l2,vs=[.ref l1,.ref l2]/\(∃xs,FY k1 K H1 l1 xs)/\(∃ys,FY k2 K H1 l2 ys)/\R (Itz K k1 k2 l1 l2) H1
section
variable{X:Cx}{W:XW}{a b:Expr}{elts:C5}{kt:Nat}{pt p pos:Pos}{ta:TA}{af:Rho->Sto->R (List Er)}
def Bk:bootBuiltins "zip"=some (.type "zip"):=by decide+kernel
def Im:bootBuiltins "enumerate"=some (.type "enumerate"):=by decide+kernel
def Rr(k:Gl X "zip")(n:X.mg "zip"=none)(m:PA X [a,b] ta)(hs:starEach [a,b] X.env=[(false,eval a X.env),(false,eval b X.env)]:=by rfl)(e:starEach [b] X.env=[(false,eval b X.env)]:=by rfl):
  PI X (.Tuple elts kt pt) (.Call (.Name "zip" p) [a,b] [] pos) (iZip X.K ta):=by
 intro pins s σ H R I h;refine Call_ (mI I k n Bk (Č (jB (m pos pins s σ H _ I h) λus c ⟨vs,H1,I1,o,y⟩=>?_) (by rw[hs,e]) (by rw[e];rfl)));obtain⟨k1,k2,l1,l2,rfl,⟨xs,u⟩,⟨ys,v⟩,q⟩:=y
 cases o with
 |cons r rr=>
  cases rr with
  |cons r' rr=>
   cases rr;cases r;cases r';obtain⟨its,C,p1,_⟩:=I1.seqK u;obtain⟨j,D,p2,_⟩:=I1.seqK v;refine NU p1 p2 λh' st A=>wpAny_pyIter_zip st.z ?_;have B:Inv X pins σ H1 {c with heap:=h'}:=I1.kept (t':=c.toks) A;refine⟨_,_,_,_,H1,rfl,B,Bj (apart_new _),st,λb w=>?_,q⟩
   have d:c.heap.objs.size<=b:=by
    have i:b=c.heap.objs.size+4\/b=c.heap.objs.size+2\/b=c.heap.objs.size+3\/b=c.heap.objs.size\/b=c.heap.objs.size+1:=by simpa using w
    rcases i with h|h|h|h|h<;>rw[h]<;>(first |exact à _|exact đ _ _)
   exact I1.fpOk d (I1.hok.fresh d)
noncomputable def pairs(xs ys:C8):List MV:=List.zipWith (λx y=>.tup [x,y]) xs ys
noncomputable def Na(rs:List Er)(S:Sto):R Wk:=match rs with
 |[p,q]=>match srcOf S p with
  |some a=>match srcOf S q with
   |some b=>.ok ⟨pairs a.ds b.ds,a.gs++b.gs⟩ S
   |none=>.no
  |none=>.no
 |_=>.no
def Rt(hg:Gl X "zip")(hm:X.mg "zip"=none)(G:CN X W [a,b] af)(hs:starEach [a,b] X.env=[(false,eval a X.env),(false,eval b X.env)]:=by rfl)(I:starEach [b] X.env=[(false,eval b X.env)]:=by rfl):
  HL X W (.Tuple elts kt pt) (.Call (.Name "zip" p) [a,b] [] pos) (λρ S=>(af ρ S).bind Na):=by
 obtain⟨t,G,k⟩:=G;refine⟨_,Rr hg hm G hs I,λα ρ S σ H Rc Y sl q=>k α ρ S σ H _ Y sl (q.bind λvs rs S1 C H1 e x1 B U c=>?_)⟩
 replace c:=c.shift x1
 unfold Na at c;split at c
 .rename_i r1 r2;split at c
  .rename_i y Z;split at c
   .rename_i z e2;obtain⟨u,v,rfl,du,dv⟩:=Mw U;obtain⟨l1,P1,rfl,p1,n⟩:=vS B Z du;obtain⟨l2,P2,rfl,p2,m⟩:=vS B e2 dv;have g1:=n.get _ _ _ p1;have g2:=m.get _ _ _ p2;refine⟨y.k,z.k,l1,l2,rfl,⟨_,g1.choose_spec.1⟩,⟨_,g2.choose_spec.1⟩,c.here (u:=Itz X.K y.k z.k l1 l2) B ⟨λα S H=>P1 α S H/\P2 α S H,?_,⟨p1,p2⟩,?_,?_⟩⟩
    .intro i J S2 T ⟨s,r⟩ N;obtain⟨us,F,L⟩:=n.get _ _ _ s;obtain⟨ws,E,O⟩:=m.get _ _ _ r;have hl:(pairs y.ds z.ds).length=min us.length ws.length:=by unfold pairs;rw[List.length_zipWith,L.length,O.length]
     refine⟨λhi=>?_,λhi=>?_⟩
     .have hi:i<(pairs y.ds z.ds).length:=hi;have h1:i<us.length:=by omega
      have h2:i<ws.length:=by omega
      refine⟨⟨us,ws,us[i],ws[i],F,E,gE h1,gE h2⟩,?_⟩;rintro x H' ⟨pp,P,M,j,rfl,rfl,hx,hy⟩;obtain⟨d,hd,Q⟩:=L.get (hx us F);obtain⟨f,hf,df⟩:=O.get (hy ws E);have A:=N.newx (o:=.tup [P,M]) j;have D:=N.new (o:=.tup [P,M]) j;refine⟨A,D,⟨n.stays _ _ _ _ _ _ s A D (n.st _ _ _ s),m.stays _ _ _ _ _ _ r A D (m.st _ _ _ r)⟩,.tup [d,f],?_,?_⟩
      .unfold pairs;rw[List.getElem?_zipWith,hd,hf]
      .exact nB (.of zS) (zQ (Q.ext A) (zQ (df.ext A) zW))
     .have hi:(pairs y.ds z.ds).length<=i:=hi;refine⟨us,ws,F,E,?_⟩;by_cases h1:us.length<=i
      .exact .inl h1
      .exact .inr (by omega)
    .intro C S1 H1 J S2 T ⟨s,r⟩ x w hs;exact⟨n.stays _ _ _ _ _ _ s x w λp j=>hs p (ă _ j),m.stays _ _ _ _ _ _ r x w λp j=>hs p (ó _ j)⟩
    .intro p j;rcases é.mp j with h|h
     .exact n.st _ _ _ p1 p h
     .exact m.st _ _ _ p2 p h
   .exact c.elim
  .exact c.elim
 .exact c.elim
end
structure EnSt(k:Bool)(e it l:Addr)(i:Nat)(h:Heap):Prop where
 e: ∃old,IsEnum h e it i old
 s:IsSub k h it l i
section
variable{prog:Ō}{w:World}{A:ŋ}{E:VP}{s:ŉ}{k:Bool}{e it l:Addr}{i:Nat}{its:B0}
def Io{x old:Ŋ}(T:IsEnum s.heap e it i old)(Y:IsSub k s.heap it l i)(hl:IsSeq k s.heap l its)(hx:its[i]? =some x)(m:e≠it)
  (hQ: ∀h',IsEnumOut h' e it ((i:Int)+1) x ↑0->IsSub k h' it l (i+1)->h'.get? ↑0=some {cls:=.type "tuple",data:=.seq #[.int i s.toks,x]}->
   (∀b o,b≠e->b≠it->s.heap.get? b=some o->h'.get? b=some o)->Q (.ref ↑0) {s with heap:=h',toks:=s.toks+1}):
  wpAny (model prog w) A (Builtin.«enumerate.__next__» ⟨[.ref e],[]⟩) (λfin s'=> ∃v,fin=.done (.ret v)/\Q v s') E s:=by
 obtain⟨D,g,d,j,u⟩:=s;show wpAny _ _ (field (.ref e) 2 >>= _) _ _ _;refine wB (ñ T rfl rfl (wB (aX Y hl hx λy P a=>?_)))
 replace a:Heap.SameBut it D y:=a
 have U:IsEnum y e it i old:=(a.2 e m).trans T;show wpAny _ _ _ _ _ ⟨y,g,d,j,u⟩;refine wB (ñ U rfl rfl ?_);show wpAny _ _ _ _ _ ⟨y,g,d,j,u⟩;refine wB (ñ U rfl rfl ?_);show wpAny _ _ (mkInt i >>= _) _ _ ⟨y,g,d,j,u⟩;refine wB (wpAny_mkInt ?_);show wpAny _ _ _ _ _ ⟨y,g,d,_,u⟩;refine wB (ô U (by simp) λJ W c=>?_)
 replace c:Heap.SameBut e y J:=c
 replace W:IsEnum J e it ((i:Int)+1) old:=W
 show wpAny _ _ _ _ _ ⟨J,g,d,_,u⟩;refine wB (ô W (by simp) λp N h=>?_)
 replace h:Heap.SameBut e J p:=h
 replace N:IsEnum p e it ((i:Int)+1) old:=N
 show wpAny _ _ _ _ _ ⟨p,g,d,_,u⟩;refine wB (wpAny_newTuple ?_);have H:p.objs.size=D.objs.size:=by rw[h.1,c.1,a.1]
 have O:e<D.objs.size:=â T;have I:IsEnum (p.push {cls:=.type "tuple",data:=.seq #[.int i j,x]}) e it ((i:Int)+1) old:=hP0 _ N;have td:(p.push {cls:=.type "tuple",data:=.seq #[.int i j,x]}).get? D.objs.size=some {cls:=.type "tuple",data:=.seq #[.int i j,x]}:=by rw[<-H];exact ã _ rfl
 have kd: ∀b o,b≠e->b≠it->D.get? b=some o->(p.push {cls:=.type "tuple",data:=.seq #[.int i j,x]}).get? b=some o:=λb o G X q=>
  hP0 _ (h.extBut b o G (c.extBut b o G (a.extBut b o X q)))
 have Z:IsSub k (p.push {cls:=.type "tuple",data:=.seq #[.int i j,x]}) it l (i+1):=P.move λo q=>hP0 _ (h.extBut _ o (Ne.symm m) (c.extBut _ o (Ne.symm m) q));generalize p.push {cls:=.type "tuple",data:=.seq #[.int i j,x]}=hd at I td kd Z ⊢;show wpAny _ _ _ _ _ ⟨hd,g,d,_,u⟩;rw[H];refine wB ?_;unfold Builtin.SmallTypes.ownedTupleIsFree;refine wB (ñ I rfl rfl (wP ?_));simp only[if_true];refine wB (ĕ (wB (ñ I rfl rfl (wB (ô I (by simp) λK ef C=>?_)))))
 replace C:Heap.SameBut e hd K:=C
 replace ef:IsEnum K e it ((i:Int)+1) x:=ef
 show wpAny _ _ _ _ _ ⟨K,g,d,_,u⟩;refine wB ?_;unfold Builtin.SmallTypes.ownedTupleHandOut;refine wB (ô ef (by simp) λB M z=>?_)
 replace z:Heap.SameBut e K B:=z
 replace M:IsEnumOut B e it ((i:Int)+1) x D.objs.size:=M
 refine ô M (by simp) λr L F=>?_
 replace F:Heap.SameBut e B r:=F
 replace L:IsEnumOut r e it ((i:Int)+1) x D.objs.size:=L
 have S: ∀b o,b≠e->hd.get? b=some o->r.get? b=some o:=λb o n q=>F.extBut b o n (z.extBut b o n (C.extBut b o n q));exact wB (wpAny_letGo (wP ⟨_,rfl,hQ r L (Z.move λo q=>S _ o (Ne.symm m) q) (S _ _ (ø O) td) λb o G X q=>S b o G (kd b o G X q)⟩))
def RH(k:Bool)(l:Addr)(its:B0):
  Meets (Builtin.«enumerate.__new__» ⟨[.type "enumerate",.ref l],[]⟩) (λ_ R s=>IsSeq k s.heap l its/\
   R (.ok (.ret (.ref (↑0+1)))) {s with heap:=(s.heap.push (pV k l)).push {cls:=.type "enumerate",data:=.fields #[.none,.bool false,.ref ↑0,rawInt 0,.none,.none]}}):=
 .of_wp λprog w A R s h=>by
  obtain⟨n,g,d,m,j⟩:=s;obtain⟨i,h⟩:=h;have e:=sub_enumerate;have a:IsSeq k _ l its:=i;have b: ∀(h:Heap)(o:Obj),(h.push o).objs.size=h.objs.size+1:=λh o=>į ..
  wp_walk
  refine wpAny_stack_any λst=>wP ?_;split
  .rename_i c _ _ _ _ _;cases (c==Value.type "enumerate")
   .wp_walk using pX a
    exact⟨_,rfl,by simp only[b];exact h⟩
   .wp_walk using pX a
    exact⟨_,rfl,by simp only[b];exact h⟩
  .wp_walk using pX a
   exact⟨_,rfl,by simp only[b];exact h⟩
end
def HU(K:C6)(F:List MV->Sto->R Er):Sp:=λvs H Q _=> ∃ds,DenL K [] H ds vs/\ds.length=1/\ ∀g:Gm,g.K=K->Post g W0 [] H (F ds []) Q
def Bl{g:Gm}{F:List MV->Sto->R Er}: ∀vs H Q E,HU g.K F vs H Q E->QZ g 1 F vs H Q E:=λvs H Q E ⟨ds,l,b,q⟩=>⟨[],[],ds,⟨rfl,by simp,λl a o h=>by simp at h⟩,l,b,q g rfl⟩
def Ru{K:C6}{a:Addr}(b:Aa H)(h:SqL K H a xs):SqF K H a xs:=by
 rcases h with(h|⟨o,h⟩)|h
 .rcases b a with z|⟨o,ys,z⟩
  .rw[z]at h;cases h
  .rw[z]at h;cases h
 .exact .inl ⟨o,h⟩
 .exact .inr h
def Bm{K:C6}{F:List MV->Sto->R Er}{a:Addr}{b:Za}(e:Aa H)(c:SqL K H a (b.map V.int))(h: ∃S,F [.scr (b.map MV.int)] []=.ok (.val (.bl true)) S):HU K F [.ref a] H (λv _=>v=.bl true) λ_ _ _=>False:=by obtain⟨S,h⟩:=h;refine⟨_,zQ (TC (Ru e c) (HK b)) zW,rfl,λg _=>?_⟩;rw[h];exact λv α' H' x w d=>DW d.1
theorem bK(b:β)(S:Sto)(k:β->Sto->R γ):(R.ok b S).bind k=k b S:=by have h:=R.bind_ok b S k;exact Eq.trans h rfl
theorem Ip(d:MV)(S:Sto):He (some (some d)) S=.ok (.val d) S:=rfl
theorem pY:NL S (S++T):=⟨by rw[lA];lia,λl a=>.inl (á a)⟩
def vT(n:Nat)(i:Int):lo n (.int i):=by unfold lo;trivial
def RJ(n:Nat)(i:Db):lo n (.str i):=by unfold lo;trivial
def Ya(n:Nat)(i:Bool):lo n (.bl i):=by unfold lo;trivial
def Bn(n:Nat):lo n .non:=by unfold lo;trivial
def RK{n:Nat}{ds:C8}(h:tF n ds):lo n (.tup ds):=by unfold lo;exact h
theorem gI{n:Nat}: ∀{ds:C8},(∀d∈ds,lo n d)->tF n ds
 |[],_=>by unfold tF;trivial
 |d::ds,h=>by unfold tF;exact⟨h d mF0,gI λe a=>h e (mO _ a)⟩
def Bo{d:MV}(h:lo ↑2 d)(a: ∀l,d≠.loc l):kZ S (.val d) (S++T)=.ok (.val d) S:=by
 unfold kZ;rw[iP pY];have e:(S++T).take ↑2=S:=by simp
 cases d with
 |loc l=>exact absurd rfl (a l)
 |_=>dsimp only;rw[iP h,e]
def Bp{ds:C8}(h:tF ↑2 ds):kZ S (.new ds) (S++T)=.ok (.new ds) S:=by
 unfold kZ;rw[iP pY];have e:(S++T).take ↑2=S:=by simp
 dsimp only;rw[iP h,e]
theorem Bq{l:Nat}{ds:C8}(b:↑2<=l)(a:(S++T)[l]? =some (.lst ds))(h:tF ↑2 ds):kZ S (.val (.loc l)) (S++T)=.ok (.new ds) S:=by
 unfold kZ;rw[iP pY];have e:(S++T).take ↑2=S:=by simp
 dsimp only;rw[iN #[0],a];dsimp only;rw[iP h,e]
def ED{n:Nat}{F:List MV->Sto->R Er}{d:MV}(b:rs.length=n)(a:F (zF rs S).1 (zF rs S).2=.ok (.val d) (S++T))(h:lo ↑2 d)(hd: ∀l,d≠.loc l):zK n F rs S=.ok (.val d) S:=by unfold zK;rw[iP b,a];exact Bo h hd
def tV{n:Nat}{F:List MV->Sto->R Er}{ds:C8}(b:rs.length=n)(a:F (zF rs S).1 (zF rs S).2=.ok (.new ds) (S++T))(h:tF ↑2 ds):zK n F rs S=.ok (.new ds) S:=by unfold zK;rw[iP b,a];exact Bp h
def tW{n:Nat}{F:List MV->Sto->R Er}{l:Nat}{ds:C8}(d:rs.length=n)(a:F (zF rs S).1 (zF rs S).2=.ok (.val (.loc l)) (S++T))(c:↑2<=l)(b:(S++T)[l]? =some (.lst ds))(h:tF ↑2 ds):zK n F rs S=.ok (.new ds) S:=by unfold zK;rw[iP d,a];exact Bq c b h
def lU{n:Nat}{F:List MV->Sto->R Er}{d:MV}(b:rs.length=n)(a:F (zF rs S).1 (zF rs S).2=.ok (.val d) S)(h:lo ↑2 d)(hd: ∀l,d≠.loc l):zK n F rs S=.ok (.val d) S:=ED b (by rw[aN];exact a) h hd
section
variable{S:Sto}
theorem Yb(b:Bool)(S:Sto):aV (.val (.bl b)) S=.ok b S:=rfl
theorem as_int(i:Int)(S:Sto):Fe (.val (.int i)) S=.ok (some i) S:=rfl
theorem Rv(b:Bool)(S:Sto):DY (.val (.bl b)) S=.ok b S:=rfl
theorem add_int(i j:Int)(S:Sto):wH (.val (.int i)) (.val (.int j)) S=.ok (.val (.int (i+j))) S:=rfl
theorem sub_int(i j:Int)(S:Sto):Au (.val (.int i)) (.val (.int j)) S=.ok (.val (.int (i - j))) S:=rfl
def add_str{x y:Db}(h:x.length+y.length<=sizeLine):wH (.val (.str x)) (.val (.str y)) S=.ok (.val (.str (x++y))) S:=iP h
def TU{x y:C8}(h:x.length+y.length<=sizeLine):wH (.val (.tup x)) (.val (.tup y)) S=.ok (.val (.tup (x++y))) S:=iP h
def RL{p q:Er}{x y:C8}(h1:Aw S p=some x)(a:Aw S q=some y)(h:x.length+y.length<=sizeLine):wH p q S=.ok (.new (x++y)) S:=by
 have e:TL p q S=.ok (.new (x++y)) S:=by unfold TL;rw[h1,a];exact iP h
 unfold wH;split
 .cases h1
 .cases h1
 .cases h1
 .exact e
theorem Rx{g:Int->Int->Bool}(i j:Int)(S:Sto):A7 g (.val (.int i)) (.val (.int j)) S=.ok (.val (.bl (g i j))) S:=rfl
def Iq(i j:Int):Gq (.int i) (.int j)=decide (i=j):=by
 show(i==j)=_;by_cases h:i=j
 .subst h;simp
 .rw[dF0 h];simpa using h
def Ir(x y:Db):Gq (.str (fR x)) (.str (fR y))=decide (x=y):=by
 show(fR x==fR y)=_;by_cases h:x=y
 .subst h;simp
 .rw[dF0 h];have:=λz=>h (tH z);simpa using this
theorem JX(n:Nat)(i j:Int):eqv S (n+1) (.int i) (.int j)=some (decide (i=j)):=by rw[<-Iq];rfl
theorem tX(n:Nat)(x y:Db):eqv S (n+1) (.str x) (.str y)=some (decide (x=y)):=by rw[<-Ir];rfl
theorem Ry(n:Nat)(x:Int)(y:Db):eqv S (n+1) (.int x) (.str y)=some false:=rfl
theorem Rz(n:Nat)(x:Db)(y:Int):eqv S (n+1) (.str x) (.int y)=some false:=rfl
theorem Iu(d f:MV):vP (.val d) (.val f) S=match eqv S (zH+1) d f with |some k=>.ok (.val (.bl k)) S|none=>.no:=rfl
theorem Iv(d f:MV):RE (.val d) (.val f) S=match eqv S (zH+1) d f with |some k=>.ok (.val (.bl !k)) S|none=>.no:=rfl
def EE{d f:MV}{k:Bool}(h:eqv S (zH+1) d f=some k):vP (.val d) (.val f) S=.ok (.val (.bl k)) S:=by rw[Iu,h]
def RM{d f:MV}{k:Bool}(h:eqv S (zH+1) d f=some k):RE (.val d) (.val f) S=.ok (.val (.bl !k)) S:=by rw[Iv,h]
def eq_int(i j:Int)(S:Sto):vP (.val (.int i)) (.val (.int j)) S=.ok (.val (.bl (decide (i=j)))) S:=EE (JX _ i j)
def eq_str(x y:Db)(S:Sto):vP (.val (.str x)) (.val (.str y)) S=.ok (.val (.bl (decide (x=y)))) S:=EE (tX _ x y)
theorem lt_int(i j:Int)(S:Sto):Rf (.val (.int i)) (.val (.int j)) S=.ok (.val (.bl (decide (i<j)))) S:=rfl
theorem lt_str(i j:Db)(S:Sto):Rf (.val (.str i)) (.val (.str j)) S=.ok (.val (.bl (decide (i<j)))) S:=rfl
theorem JY{b:Int}(h:0<b)(d:b<1073741824)(a:Int)(S:Sto):NO (.val (.int a)) (.val (.int b)) S=.ok (.val (.int (a / b))) S:=by
 refine iP ⟨h,?_⟩;have c:b.natAbs<2 ^ 30:=by omega
 have:=(Nat.log2_lt (by omega:b.natAbs≠0)).mpr c
 lia
def mod_lit{b:Int}(h:0<b)(a:Int)(S:Sto):GF (.val (.int a)) (.val (.int b)) S=.ok (.val (.int (a % b))) S:=iP h
def CQ{b:Int}(h: -(2 ^ 64)<b/\b<2 ^ 64)(a:Int)(S:Sto):tQ (.val (.int a)) (.val (.int b)) S=.ok (.val (.int (a * b))) S:=iP (Or.inr (Or.inl h))
def NV{a:Int}(h: -(2 ^ 64)<a/\a<2 ^ 64)(b:Int)(S:Sto):tQ (.val (.int a)) (.val (.int b)) S=.ok (.val (.int (a * b))) S:=iP (Or.inl h)
theorem Iw(ρ:Rho)(i:Nat)(d:MV)(S:Sto):DZ ρ i (.val d) S=.ok (.next (ρ.set i (some d))) S:=rfl
theorem Iy(ρ:Rho)(i:Nat)(ds:C8)(S:Sto):DZ ρ i (.new ds) S=.ok (.next (ρ.set i (some (.loc ↑2)))) (S++[.lst ds]):=rfl
theorem Iz(S:Sto):zF [] S=([],S):=rfl
theorem Ja(d:MV)(rs:List Er)(S:Sto):zF (.val d::rs) S=(d::(zF rs S).1,(zF rs S).2):=rfl
theorem zC{F G:AY}{ρ':Rho}{S:Sto}(h:F ρ S=.ok (.next ρ') S'):zI F G ρ S=G ρ' S':=by unfold zI;rw[h];rfl
theorem mT{F G:AY}{S:Sto}{r:Er}(h:F ρ S=.ok (.ret r) S'):zI F G ρ S=.ok (.ret r) S':=by unfold zI;rw[h];rfl
def dZ(S:Sto):stay [] S:=gH
def zX{b:AY}{gs:E2}{d:MV}{ds:C8}{a ρ':Rho}{c:Sto}(e:gf d ρ S=.ok a c)(h:b a c=.ok (.next ρ') S')(hs:stay gs S'):xP gf b gs (d::ds) ρ S=xP gf b gs ds ρ' S':=by
 conv=>lhs;unfold xP
 rw[e,bK,h,bK];dsimp only;rw[iP hs]
def Jb{b:AY}{gs:E2}{d:MV}{ds:C8}{a:Rho}{c:Sto}{r:Er}(e:gf d ρ S=.ok a c)(h:b a c=.ok (.ret r) S'):xP gf b gs (d::ds) ρ S=.ok (.ret r) S':=by
 conv=>lhs;unfold xP
 rw[e,bK,h,bK]
theorem JZ{α:Type}{xs:List α}{i:Int}(a:0<=i)(h1:i<xs.length): ∃c,tE xs i=some c:=by refine⟨xs[i.toNat]'#[0],?_⟩;unfold tE JD;rw[iP a,iP h1];exact gE _
def TV{α:Type}{P:α->Prop}{xs:List α}{i:Int}{e:α}(h: ∀e∈xs,P e)(z:tE xs i=some e):P e:=by
 unfold tE at z
 cases q:JD xs.length i with
 |none=>rw[q]at z;cases z
 |some j=>rw[q]at z;exact h e (è z)
def ix_str{x:Db}{i:Int}{c:Nat}(h:x.length<=sizeLine)(a:tE x i=some c):fW (.val (.str x)) (.val (.int i)) S=.ok (.val (.str [c])) S:=by show(if x.length<=sizeLine then match tE x i with |some c=>R.ok _ S|none=>.no else .no)=_;rw[iP h,a]
def RN{ds:C8}{i:Int}{d:MV}(a:tE ds i=some d):fW (.new ds) (.val (.int i)) S=.ok (.val d) S:=by show(match tE ds i with |some d=>R.ok _ S|none=>.no)=_;rw[a]
def EF{l:Nat}{ds:C8}{i:Int}{d:MV}(b:S[l]? =some (.lst ds))(a:tE ds i=some d):fW (.val (.loc l)) (.val (.int i)) S=.ok (.val d) S:=by
 have e:jD S (.val (.loc l))=some ds:=by unfold jD;dsimp only;rw[b]
 show(match jD S _ with |some ds=>getL ds _ S|none=>.no)=_;rw[e];show(match tE ds i with |some d=>R.ok _ S|none=>.no)=_;rw[a]
def kQ{l:Nat}{ds:C8}(b:S[l]? =some (.lst ds)):mR [.val (.loc l)] S=.ok (.val (.int ds.length)) S:=by
 have e:jD S (.val (.loc l))=some ds:=by unfold jD;dsimp only;rw[b]
 have a:itemsOf S (.val (.loc l))=some ds:=by unfold itemsOf;exact e
 show(match itemsOf S _ with |some ds=>R.ok _ S|none=>.no)=_;rw[a]
def lV{l:Nat}{ds:C8}(a:S[l]? =some (.lst ds)):jD S (.val (.loc l))=some ds:=by unfold jD;dsimp only;rw[a]
def TX{l:Nat}{ds:C8}(a:S[l]? =some (.lst ds)):Aw S (.val (.loc l))=some ds:=by unfold Aw;dsimp only;rw[a]
def yW{l:Nat}{ds:C8}(a:S[l]? =some (.lst ds)):vM (.val (.loc l)) S=.ok ⟨ds,[(l,ds)]⟩ S:=by unfold vM;dsimp only;rw[a]
def yH{l:Nat}{ds:C8}(a:S[l]? =some (.lst ds)):stay [(l,ds)] S:=λp b=>by
 have:=by simpa using b
 subst this;exact a
def sH{j:Int}(h: -(2 ^ 62)<=j/\j<2 ^ 62):dY [.val (.int j)] S=.ok ⟨(List.range j.toNat).map λk=>.int (k:Nat),[]⟩ S:=iP h
def cut_str{x:Db}(h:x.length<=sizeLine)(lo hi:C4):vQ (.val (.str x)) lo hi S=.ok (.val (.str (fS x lo hi))) S:=iP h
def Jc{α:Type}(x:List α)(k:Int)(c:0<=k):fS x none (some k)=x.take k.toNat:=by
 unfold fS;have h1:HT.sIx x.length 0 none=0:=rfl;rw[h1];have b:HT.sIx x.length x.length (some k)=min k.toNat x.length:=by unfold HT.sIx;simp only;split<;>omega
 rw[b,drop_zero,Nat.sub_zero];by_cases a:k.toNat<=x.length
 .rw[min_eq_left a]
 .rw[min_eq_right (by omega),take_length,Ā (by omega)]
def fits{n:Nat}(h:n<=1000000):n<=sizeLine:=by rw[Ĕ];exact õ h (by decide)
def sI(h:rs.length<=1000000):xT rs S=.ok (.new (zF rs S).1) (zF rs S).2:=iP (fits h)
def KA(h:rs.length<=1000000):xO rs S=.ok (.val (.tup (zF rs S).1)) (zF rs S).2:=iP (fits h)
def XM(S:Sto):xT [] S=.ok (.new []) S:=sI (by simp)
def lst1(a:MV)(S:Sto):xT [.val a] S=.ok (.new [a]) S:=sI (by simp)
def Yc(a b:MV)(S:Sto):xT [.val a,.val b] S=.ok (.new [a,b]) S:=sI (by simp)
def Yd(a b c:MV)(S:Sto):xT [.val a,.val b,.val c] S=.ok (.new [a,b,c]) S:=sI (by simp)
def lst6(a b c d e f:MV)(S:Sto):xT [.val a,.val b,.val c,.val d,.val e,.val f] S=.ok (.new [a,b,c,d,e,f]) S:=sI (by simp)
def tup2(a b:MV)(S:Sto):xO [.val a,.val b] S=.ok (.val (.tup [a,b])) S:=KA (by simp)
def Ye(a b c:MV)(S:Sto):xO [.val a,.val b,.val c] S=.ok (.val (.tup [a,b,c])) S:=KA (by simp)
theorem Sa(i:Int)(S:Sto):vR [.val (.int i),.val (.typ "str")] S=.ok (.val (.bl false)) S:=rfl
theorem Sb(i:Db)(S:Sto):vR [.val (.str i),.val (.typ "str")] S=.ok (.val (.bl true)) S:=rfl
theorem Sd(i:Int)(S:Sto):vR [.val (.int i),.val (.typ "tuple")] S=.ok (.val (.bl false)) S:=rfl
theorem Se(i:Db)(S:Sto):vR [.val (.str i),.val (.typ "tuple")] S=.ok (.val (.bl false)) S:=rfl
theorem Sf(i:C8)(S:Sto):vR [.val (.tup i),.val (.typ "tuple")] S=.ok (.val (.bl true)) S:=rfl
theorem Sh(i:Bool)(S:Sto):vR [.val (.bl i),.val (.typ "bool")] S=.ok (.val (.bl true)) S:=rfl
theorem NW{gf:MV->Rho->Sto->R Rho}{cf:AZ}{ef:AX}{ρb:Rho}{gs:E2}{F:MV->MV}(hs:stay gs S):
  ∀{ds:C8},(∀d∈ds, ∃ρ1,gf d ρb S=.ok ρ1 S/\cf ρ1 S=.ok true S/\ef ρ1 S=.ok (.val (F d)) S)->yD gf cf ef ρb gs ds S=.ok (ds.map F) S
 |[],_=>rfl
 |d::ds,st=>by obtain⟨ρ1,h1,a,b⟩:=st d mF0;have e:=NW hs (ds:=ds) λd hd=>st d (mO _ hd);unfold yD;rw[h1,yL,bK,a,yL,bK,iP rfl,b,yL,bK];unfold wQ;rw[bK,iP hs,e];rfl
theorem HV{gf:MV->Rho->Sto->R Rho}{cf:AZ}{ef:AX}{ρb:Rho}{gs:E2}(hs:stay gs S):
  ∀{ds:C8},(∀d∈ds, ∃ρ1,gf d ρb S=.ok ρ1 S/\cf ρ1 S=.ok false S)->yD gf cf ef ρb gs ds S=.ok [] S
 |[],_=>rfl
 |d::ds,st=>by obtain⟨ρ1,h1,a⟩:=st d mF0;have e:=HV hs (ef:=ef) λd hd=>st d (mO _ hd);unfold yD;rw[h1,yL,bK,a,yL,bK,iN xF0,iP hs,e]
def Nm(x:Db):Prop:=1<=x.length/\x.length<=8/\ ∀c∈x,97<=c/\c<=122
def Vl:MV->Prop
 |.int i=> -(10 ^ 30)<i/\i<10 ^ 30
 |.str x=>Nm x
 |_=>False
def Vl.cases{d:MV}(h:Vl d):(∃i,d=.int i/\ -(10 ^ 30)<i/\i<10 ^ 30)\/ ∃x,d=.str x/\Nm x:=by
 cases d with
 |int i=>exact .inl ⟨i,rfl,h⟩
 |str x=>exact .inr ⟨x,rfl,h⟩
 |_=>exact h.elim
end
noncomputable def Ite(K:C6)(k:Bool)(l:Addr):It:=
 ⟨λi H=> ∃xs x,FY k K H l xs/\xs[i]? =some x,
   λi H v H'=> ∃p x,H p=none/\v=.ref p/\H'=xR H p (.tup [.int (i:Nat),x])/\(∀xs,FY k K H l xs->xs[i]? =some x),
   λi H=> ∃xs,FY k K H l xs/\xs.length<=i⟩
section
variable{prog:Ō}{w:World}{A:ŋ}{E:VP}{s:ŉ}{k:Bool}{l:Addr}{its:B0}
def XN(i:IsSeq k s.heap l its)
  (h: ∀h',EnSt k (↑0+1) ↑0 l 0 h'->(∀c o,s.heap.get? c=some o->h'.get? c=some o)->Q (.ref (↑0+1)) {s with heap:=h'}):
  wpAny (model prog w) A (call (.type "enumerate") [.ref l]) Q E s:=by
 refine callType_new F.called_enumerate (by decide) (F.typeCall_enumerate_1 _) (F.newCall_enumerate_1 _) (λa=>F.args_object_init_2 a _) F.entry_enumerate_new (RH k l its) ⟨i,?_⟩;have e:(s.heap.push (pV k l)).objs.size=↑0+1:=į ..;have d:=by have:=ã (s.heap.push (pV k l)) (o:={cls:=.type "enumerate",data:=.fields #[.none,.bool false,.ref ↑0,rawInt 0,.none,.none]}) rfl;rw[e]at this;exact this
 refine⟨⟨_,d,rfl⟩,h _ ⟨⟨_,d⟩,IsSub.mk' (hP0 _ (ã _ rfl))⟩ λb o x=>hP0 _ (hP0 _ x)⟩
end
theorem XO{P:Ō}{w:World}{K:C6}{elts:C5}{kt:Nat}{pt:Pos}{k:Bool}{e it l:Addr}(hne:e≠it):
  Turn P w K (.Tuple elts kt pt) (Ite K k l) [e,it] e (λi h=>EnSt k e it l i h) where
 mem:=by simp
 obj:=λi h st b hb=>by
  obtain⟨⟨old,he⟩,hs⟩:=st;have hb':b=e\/b=it:=by simpa using hb
  rcases hb' with rfl|rfl
  .exact⟨_,he,λv q=>by cases q⟩
  .exact hs.there
 keep:=λi h h' st kk=>by obtain⟨⟨old,he⟩,hs⟩:=st;exact⟨⟨old,kk e (by simp) _ he⟩,hs.move λo q=>kk it (by simp) o q⟩
 item:=by
  intro X hP hw hK hc i pins s σ H E I hf st hg;subst hP hw hK;obtain⟨xs,x,q1,hx⟩:=hg;obtain⟨its,r1,p1,_⟩:=I.seqK q1;obtain⟨u,hu,ru⟩:=r1.get hx;obtain⟨⟨old,he⟩,hs⟩:=st;have hT:s.TypeIs (.ref e) "enumerate":=⟨_,he,rfl⟩
  unfold pyNext
  refine wB (Ĉ (î hT F.slot_enumerate_next (ì F.slot_enumerate_next hT F.entry_enumerate_next
   (Io he hs p1 (by simpa using hu) hne λh' a1 a2 a3 a4=>wP ⟨_,rfl,?_⟩) (F.args_enumerate_next_1 _))))
  refine wpAny_letOwnedTupleGo_enum a1 λh2 z2 sb2=>?_;have hpn:H ↑0=none:=I.hok.fresh (à _)
  have I0:Inv X pins σ _ {s with heap:=s.heap.push {cls:=.type "tuple",data:=.seq #[.int i s.toks,u]},toks:=s.toks+1}:=
   I.laid (o:=.tup [.int (i:Nat),x]) (λb o e=>hP0 _ e) (à _) ⟨by show 2<=sizeLine;decide,_,.cons ⟨_,rfl⟩ (.cons ru .nil),⟨_,ã _ rfl,rfl,_,rfl⟩⟩
  have lt: ∀b∈[e,it],b<s.heap.objs.size:=λb hb=>by
   have hb':b=e\/b=it:=by simpa using hb
   rcases hb' with rfl|rfl
   .exact â he
   .obtain⟨o,eo,_⟩:=hs.there;exact â eo
  have fr: ∀b∈[e,it],xR H ↑0 (.tup [.int (i:Nat),x]) b=none:=λb hb=>by rw[zG (ë (lt b hb))];exact(hf b hb).1
  have mv: ∀b o,b∉[e,it]->(s.heap.push {cls:=.type "tuple",data:=.seq #[.int i s.toks,u]}).get? b=some o->h2.get? b=some o:=λb o hb eo=>by
   simp only[mC,nM,or_false,not_or]at hb;refine sb2.extBut _ _ hb.1 ?_;by_cases hbs:b=↑0
   .subst hbs;rw[ã _ rfl]at eo;cases eo;exact a3
   .rw[Heap.get?_push_ne _ _ _ hbs]at eo;exact a4 b o hb.1 hb.2 eo
  have I2:=I0.turnedL (t':=s.toks+1) mv λb hb=>let ⟨_,c2,c3,c4,c5,c6⟩:=hf b hb;⟨fr b hb,c2,c3,c4,c5,c6⟩;refine⟨.ref ↑0,_,I2,rfl,⟨_,x,hpn,rfl,rfl,λzs hz=>?_⟩,⟨⟨u,?_⟩,?_⟩,fr⟩
  .rw[I.seqK_inj hz q1];exact hx
  .simpa using z2
  .exact a2.move λo eo=>sb2.extBut _ _ (Ne.symm hne) eo
 done:=by
  intro X hP hw hK hc i pins s σ H E I hf st hg;subst hP hw hK;obtain⟨xs,q1,hx⟩:=hg;obtain⟨its,r1,p1,_⟩:=I.seqK q1;obtain⟨⟨old,he⟩,hs⟩:=st;have hT:s.TypeIs (.ref e) "enumerate":=⟨_,he,rfl⟩
  have e1:=r1.length;unfold pyNext;refine wB (Ĉ (î hT F.slot_enumerate_next (ì F.slot_enumerate_next hT F.entry_enumerate_next ?_ (F.args_enumerate_next_1 _))));show wpAny _ _ (field (.ref e) 2 >>= _) _ _ _;refine wB (ñ he rfl rfl ?_);refine wB (tU (I.ok.hd hc) hs p1 (by simp;lia) λh' x hk hx'=>?_);obtain⟨o,ho,hcl⟩:=hx';refine wB (Ğ ⟨o,ho,hcl⟩ isSubtype_stop (wP ⟨rfl,?_⟩));refine I.turnedL (λb o hb eo=>?_) hf;simp only[mC,nM,or_false,not_or]at hb;exact hk b o hb.2 eo
 self:=λ_ _ _ _ _ st h=>let ⟨⟨_,he⟩,_⟩:=st;wpAny_pyIter_enum he h
def Yf(K:C6)(ta:TA):TI:=λσ H R=>ta σ H λvs H1=> ∃k l,vs=[.ref l]/\(∃xs,FY k K H1 l xs)/\R (Ite K k l) H1
section
variable{X:Cx}{W:XW}{a:Expr}{elts:C5}{kt:Nat}{pt p pos:Pos}{ta:TA}{af:Rho->Sto->R (List Er)}
def Je(i:Gl X "enumerate")(m:X.mg "enumerate"=none)(j:PA X [a] ta)(hs:starEach [a] X.env=[(false,eval a X.env)]:=by rfl):
  PI X (.Tuple elts kt pt) (.Call (.Name "enumerate" p) [a] [] pos) (Yf X.K ta):=by
 intro pins s σ H R I h;refine Call_ (mI I i m Im (Č (jB (j pos pins s σ H _ I h) λus e ⟨vs,H1,I1,n,v⟩=>?_) (by rw[hs];rfl) (by rfl)));obtain⟨k,l,rfl,⟨xs,o⟩,q⟩:=v
 cases n with
 |cons r rr=>
  cases rr;cases r;obtain⟨its,A,p1,_⟩:=I1.seqK o;refine XN p1 λh' st w=>let ⟨⟨_,z⟩,_⟩:=id st;wpAny_pyIter_enum z ?_;have y:Inv X pins σ H1 {e with heap:=h'}:=I1.kept w;refine⟨_,_,_,_,H1,rfl,y,XO (ø (Nat.lt_succ_self _)),st,λb u=>?_,q⟩
  have c:e.heap.objs.size<=b:=by
   have d:=by simpa using u
   rcases d with h|h<;>rw[h]<;>(first |exact à _|exact đ _ _)
  exact I1.fpOk c (I1.hok.fresh c)
noncomputable def RO(xs:C8):List MV:=xs.zipIdx.map λp=>.tup [.int (p.2:Nat),p.1]
def Yg(rs:List Er)(S:Sto):R Wk:=match rs with
 |[p]=>match srcOf S p with
  |some a=>.ok ⟨RO a.ds,a.gs⟩ S
  |none=>.no
 |_=>.no
theorem Jf(G:Gl X "enumerate")(J:X.mg "enumerate"=none)(m:CN X W [a] af)(hs:starEach [a] X.env=[(false,eval a X.env)]:=by rfl):
  HL X W (.Tuple elts kt pt) (.Call (.Name "enumerate" p) [a] [] pos) (λρ S=>(af ρ S).bind Yg):=by
 obtain⟨t,m,k⟩:=m;refine⟨_,Je G J m hs,λα ρ S σ H Rc L sl q=>k α ρ S σ H _ L sl (q.bind λvs rs S1 n H1 e O y K b=>?_)⟩
 replace b:=b.shift O
 unfold Yg at b;split at b
 .rename_i Y;split at b
  .rename_i j M;obtain⟨u,rfl,Q⟩:=HM K;obtain⟨l1,P,rfl,p1,c⟩:=vS y M Q;have N:=c.get _ _ _ p1;have D:(RO j.ds).length=j.ds.length:=by unfold RO;rw[lM,List.length_zipIdx]
   refine⟨j.k,l1,rfl,⟨_,N.choose_spec.1⟩,b.here y ⟨λα S H=>P α S H,?_,p1,?_,?_⟩⟩
   .intro i s S2 I h C;obtain⟨us,r,A⟩:=c.get _ _ _ h;have U:=A.length;refine⟨λhi=>?_,λhi=>?_⟩
    .have hi:i<(RO j.ds).length:=hi;have h1:i<us.length:=by lia
     refine⟨⟨us,_,r,gE h1⟩,?_⟩;rintro x H' ⟨Z,B,E,rfl,rfl,T⟩;obtain⟨d,hd,F⟩:=A.get (T us r);have v:=C.newx (o:=.tup [.int (i:Nat),B]) E;have z:=C.new (o:=.tup [.int (i:Nat),B]) E;refine⟨v,z,c.stays _ _ _ _ _ _ h v z (c.st _ _ _ h),.tup [.int (i:Nat),d],?_,?_⟩
     .unfold RO;rw[ö,List.getElem?_zipIdx,hd];simp
     .exact nB (.of zS) (zQ (yV _) (zQ (F.ext v) zW))
    .have hi:(RO j.ds).length<=i:=hi;exact⟨us,r,by lia⟩
   .intro n S1 H1 s S2 I h x w hs;exact c.stays _ _ _ _ _ _ h x w hs
   .exact c.st _ _ _ p1
  .exact b.elim
 .exact b.elim
end
instance:DecidableEq MV:=λ_ _=>Classical.propDecidable _
def look(kvs:E3)(k:MV):Option MV:=(kvs.find? λp=>decide (p.1=k)).map (·.2)
def putK(kvs:E3)(k d:MV):List (MV×MV):=if(look kvs k).isSome=true then kvs.map (λp=>if p.1=k then(p.1,d)else p)else kvs++[(k,d)]
noncomputable def sM:MV->Bool
 |.tup _=>true
 |_=>false
theorem NY:yZ .non=some (.key none):=by unfold yZ;rfl
theorem aY(i:Int):yZ (.int i)=some (.key (some (.inl i))):=by unfold yZ;rfl
theorem aZ(x:Db):yZ (.str x)=some (.key (some (.inr (fR x)))):=by unfold yZ;rfl
def eC(ds:C8):yZ (.tup ds)=(kY ds).map .tup:=by
 conv=>lhs;unfold yZ
theorem qQ:kY []=some []:=by unfold kY;rfl
def eE(d:MV)(ds:C8):kY (d::ds)=(yZ d).bind λk=>(kY ds).map (k::·):=by
 conv=>lhs;unfold kY
mutual
theorem tY: ∀{d e:MV}{k:NK},yZ d=some k->yZ e=some k->d=e
 |.int i,e,k,hd,a=>by
  rw[aY]at hd;cases hd
  cases e with
  |int j=>rw[aY]at a;cases a;rfl
  |str x=>rw[aZ]at a;cases a
  |tup ds=>rw[eC]at a;cases z:kY ds<;>rw[z]at a<;>cases a
  |_=>unfold yZ at a;cases a
 |.str x,e,k,hd,a=>by
  rw[aZ]at hd;cases hd
  cases e with
  |int j=>rw[aY]at a;cases a
  |str y=>
   rw[aZ]at a;have a:=ä a;injection a with a
   injection a with a
   injection a with a
   rw[tH a]
  |tup ds=>rw[eC]at a;cases z:kY ds<;>rw[z]at a<;>cases a
  |_=>unfold yZ at a;cases a
 |.tup ds,e,k,hd,a=>by
  rw[eC]at hd
  cases z:kY ds with
  |none=>rw[z]at hd;cases hd
  |some ks=>
   rw[z]at hd;cases hd
   cases e with
   |int j=>rw[aY]at a;cases a
   |str y=>rw[aZ]at a;cases a
   |tup es=>
    rw[eC]at a
    cases b:kY es with
    |none=>rw[b]at a;cases a
    |some ks'=>rw[b]at a;cases a;rw[HW z b]
   |_=>unfold yZ at a;cases a
 |.non,e,k,hd,a=>by
  rw[NY]at hd;cases hd
  cases e with
  |non=>rfl
  |int j=>rw[aY]at a;cases a
  |str x=>rw[aZ]at a;cases a
  |tup ds=>rw[eC]at a;cases z:kY ds<;>rw[z]at a<;>cases a
  |_=>unfold yZ at a;cases a
 |.bl _,e,k,hd,a=>by unfold yZ at hd;cases hd
 |.scr _,e,k,hd,a=>by unfold yZ at hd;cases hd
 |.loc _,e,k,hd,a=>by unfold yZ at hd;cases hd
 |.typ _,e,k,hd,a=>by unfold yZ at hd;cases hd
 |.obj _ _ _,e,k,hd,a=>by unfold yZ at hd;cases hd
theorem HW: ∀{ds es:C8}{ks:List NK},kY ds=some ks->kY es=some ks->ds=es
 |[],es,ks,hd,he=>by
  rw[qQ]at hd;cases hd
  cases es with
  |nil=>rfl
  |cons e es=>
   rw[eE]at he;cases z:yZ e<;>rw[z]at he
   .cases he
   .cases a:kY es<;>rw[a]at he<;>cases he
 |d::ds,es,ks,hd,he=>by
  rw[eE]at hd
  cases z:yZ d with
  |none=>rw[z]at hd;cases hd
  |some k=>
   rw[z]at hd
   cases a:kY ds with
   |none=>rw[a]at hd;cases hd
   |some ks2=>
    rw[a]at hd
    cases es with
    |nil=>rw[qQ]at he;cases he;cases hd
    |cons e es=>
     rw[eE]at he
     cases b:yZ e with
     |none=>rw[b]at he;cases he
     |some k'=>
      rw[b]at he
      cases c:kY es with
      |none=>rw[c]at he;cases he
      |some ks4=>
       rw[c]at he;cases hd;cases he;rw[tY z b,HW a c]
end
section
variable{X:Cx}{pins:C0}{σ:St}{H:Hp}{s:ŉ}{α:B6}
mutual
theorem vU(I:↑1): ∀{d:MV}{k:NK}{x:V}{u:Ŋ},yZ d=some k->Den X.K α H d x->RelV x u->GE (mk X.prog X.w) s.heap k u
 |.int i,k,x,u,hk,hd,r=>by rw[aY]at hk;cases hk;cases xI hd;obtain⟨t,rfl⟩:=r;exact xS.mpr (by show lO (.inl i) (.int i t)=true;simp[lO,Value.isInt])
 |.str y,k,x,u,hk,hd,r=>by rw[aZ]at hk;cases hk;cases xK hd;obtain⟨t,rfl⟩:=r;exact xS.mpr (by show lO (.inr (fR y)) (.str (fR y) t)=true;simp[lO,Value.isStrOf])
 |.tup ds,k,x,u,hk,hd,r=>by
  rw[eC]at hk
  cases z:kY ds with
  |none=>rw[z]at hk;cases hk
  |some ks=>
   rw[z]at hk;cases hk;obtain⟨a,vs,rfl,h,l⟩:=yO hd;cases r;obtain⟨its,e,pt,_⟩:=I.tuple h;obtain⟨o,j,c,n,b⟩:=pt;exact xF.mpr ⟨a,o,its.toArray,n,rfl,j,c,b,by simpa using TZ I z l e⟩
 |.non,k,x,u,hk,hd,r=>by rw[NY]at hk;cases hk;cases dD hd;cases r;exact xS.mpr rfl
 |.bl _,k,x,u,hk,hd,r=>by unfold yZ at hk;cases hk
 |.scr _,k,x,u,hk,hd,r=>by unfold yZ at hk;cases hk
 |.loc _,k,x,u,hk,hd,r=>by unfold yZ at hk;cases hk
 |.typ _,k,x,u,hk,hd,r=>by unfold yZ at hk;cases hk
 |.obj _ _ _,k,x,u,hk,hd,r=>by unfold yZ at hk;cases hk
theorem TZ(I:↑1): ∀{ds:C8}{ks:List NK}{xs:List V}{us:A0},kY ds=some ks->DenL X.K α H ds xs->Vals xs us->pQ (mk X.prog X.w) s.heap ks us
 |[],ks,xs,us,hk,hd,r=>by rw[qQ]at hk;cases hk;cases hd.isnil;cases r;exact xY.mpr rfl
 |d::ds,ks,xs,us,hk,hd,r=>by
  rw[eE]at hk;obtain⟨v,vs,rfl,a,l⟩:=hd.uncons
  cases r with
  |cons r1 r2=>
   cases z:yZ d with
   |none=>rw[z]at hk;cases hk
   |some k=>
    rw[z]at hk
    cases b:kY ds with
    |none=>rw[b]at hk;cases hk
    |some ks2=>
     rw[b]at hk;cases hk;exact yI.mpr ⟨_,_,rfl,vU I z a r1,TZ I b l r2⟩
end
def DD(X:Cx)(H:Hp)(d:Addr)(xs:List (NK×Addr×Ŋ)):Prop:=H d=some (DN X.prog X.w d xs)\/(xs=[]/\H d=some (.dK []))
def DD.nf{d:Addr}{xs:List (NK×Addr×Ŋ)}(h:DD X H d xs): ∀a u,H d≠some (.frz a u):=h.elim (λz=>Fc z) λz=>by first |exact Fc z.2|exact z.elim
def Yh{S:Sto}{d:Addr}(ob:ObD X.g α H d (.dic kvs))(b:kvs.all (λp=>sM p.1)=true): ∃xs,DD X H d xs/\DenN X.K α H kvs xs:=by
 rcases ob with⟨ks,h,l⟩|⟨xs,h,l⟩
 .cases l with
  |nil=>exact⟨[],.inr ⟨rfl,h⟩,.nil⟩
  |@cons k k' dd v fs gs hkd a l=>
   rw[List.all_cons,aE]at b
   cases k with
   |tup ds=>exact absurd hkd (by unfold KeyD;exact λz=>z)
   |_=>exact absurd b.1 xF0
 .exact⟨xs,.inl h,l⟩
theorem KB(I:↑1): ∀{kvs:E3}{xs:List (NK×Addr×Ŋ)},DenN X.K α H kvs xs-> ∀x∈xs,(zU X.prog X.w).is s.heap x.1 x.2.1
 |_,_,.nil=>λx b=>by simp at b
 |_,_,.cons k e a d r l=>λx b=>by
  rcases mC.mp b with rfl|b
  .exact⟨vU I k a rfl,e⟩
  .exact KB I l x b
def qS(I:↑1){xs:List (NK×Addr×Ŋ)}{d:Addr}(h:DD X H d xs)(l:DenN X.K α H kvs xs):s.heap.DictOfH (zU X.prog X.w) d xs/\xs.length<=sizeLine/\(d==sysModules)=false:=by
 rcases h with h|⟨rfl,h⟩
 .obtain⟨⟨p,hs,o,es,ep,j,c,hd,e,n⟩,_⟩:=(I.hok d _ h)
  exact⟨⟨o,es,ep,j,c,hd,e,KB I l,n⟩,p,hs⟩
 .obtain⟨_,hs,vs,m,o,es,ep,j,c,hd,_,k,_⟩:=(I.hok d _ h)
  cases m;have e:es.toList=[]:=by cases i:es.toList with |nil=>rfl|cons a b=>rw[i]at k;cases k
  exact⟨⟨o,es,ep,j,c,hd,by rw[e];rfl,λx q=>by simp at q,nodup_nil⟩,zero_le _,hs⟩
def yT(p:MV×MV)(kvs:E3)(k:MV):look (p::kvs) k=if p.1=k then some p.2 else look kvs k:=by
 unfold look;rw[find?_cons];by_cases h:p.1=k
 .rw[dT0 h,iP h];rfl
 .rw[dF0 h,iN h]
def sN(x:NK×Addr×Ŋ)(xs:List (NK×Addr×Ŋ))(k:NK):atKey (x::xs) k=if x.1=k then some x.2 else atKey xs k:=by
 unfold atKey;rw[find?_cons];by_cases h:x.1=k
 .rw[dT0 h,iP h];rfl
 .rw[dF0 h,iN h]
theorem CS: ∀{kvs:E3}{xs:List (NK×Addr×Ŋ)}{k:MV}{nk:NK},DenN X.K α H kvs xs->yZ k=some nk->(atKey xs nk).isSome=(look kvs k).isSome
 |_,_,k,nk,.nil,hk=>rfl
 |_,_,k,nk,.cons (k:=k') (nk:=nk') hk' e a d r l,hk=>by
  rw[yT,sN];by_cases h:k'=k
  .subst h;have:=by rw[hk]at hk';exact(ä hk').symm
   rw[iP this,iP rfl];rfl
  .have:nk'≠nk:=λz=>h (tY hk' (by rw[hk,z]));rw[iN this,iN h];exact CS l hk
theorem KC: ∀{kvs:E3}{xs:List (NK×Addr×Ŋ)}{k d:MV}{nk:NK}{v:V}{u:Ŋ},DenN X.K α H kvs xs->yZ k=some nk->Den X.K α H d v->RelV v u->DenN X.K α H (kvs.map λp=>if p.1=k then(p.1,d)else p) (xs.map (putAt nk u))
 |_,_,k,d,nk,v,u,.nil,hk,hd,r=>.nil
 |_,_,k,d,nk,v,u,.cons (k:=k') (nk:=nk') hk' e a dd rr l,hk,hd,r=>by
  rw[å,å];unfold putAt;by_cases h:k'=k
  .have b:=by subst h;rw[hk]at hk';exact(ä hk').symm
   rw[iP h,iP b];exact .cons hk' e a hd r (KC l hk hd r)
  .have b:nk'≠nk:=λz=>h (tY hk' (by rw[hk,z]));rw[iN h,iN b];exact .cons hk' e a dd rr (KC l hk hd r)
theorem DenN.append: ∀{kvs b:E3}{xs c:List (NK×Addr×Ŋ)},DenN X.K α H kvs xs->DenN X.K α H b c->DenN X.K α H (kvs++b) (xs++c)
 |_,_,_,_,.nil,h=>h
 |_,_,_,_,.cons hk e a d r l,h=>.cons hk e a d r (DenN.append l h)
def KD{xs:List (NK×Addr×Ŋ)}{k d:MV}{nk:NK}{a:Addr}{u:Ŋ}(l:DenN X.K α H kvs xs)(c:yZ k=some nk)(e:iR nk<=4)(i:Den X.K α H k (.ref a))(hd:Den X.K α H d v)(r:RelV v u):DenN X.K α H (putK kvs k d) (storedH xs nk a u):=by
 unfold putK;have b:=CS l c;by_cases h:(look kvs k).isSome=true
 .rw[iP h];rw[h]at b;obtain⟨p,m⟩:=ï.mp b;rw[storedH_old m];exact KC l c hd r
 .rw[iN h]
  have j:atKey xs nk=none:=by
   cases z:atKey xs nk with
   |none=>rfl
   |some p=>rw[z]at b;exact absurd b.symm h
  rw[storedH_new j];exact l.append (.cons c e i hd r .nil)
end
section
variable{X:Cx}{W:XW}{a b o i:Expr}{f g:AX}{pos:Pos}
def KE{pins:C0}{s:ŉ}(I:↑1):sysModules<s.heap.objs.size:=lt_trans (by decide) ((I.mod.glob.keeps I.bk).lt)
theorem Wd.put{i:Gm}{p:Addr}{ho:HO}{m:MO}(w:Wd i α S H)(e:H p=none)(q:ObD i (α++[p]) (xR H p ho) p m):Ext α H (α++[p]) (xR H p ho)/\Wd i (α++[p]) (S++[m]) (xR H p ho):=by
 have x:=w.newx (o:=ho) e;have n:=w.new (o:=ho) e;have y:=w.fresh e;refine⟨⟨⟨⟨[p],rfl⟩,x.tup,x.frz⟩,λb r=>?_,x.keep,x.has⟩,⟨?_,?_,λl c v h1 d=>?_⟩⟩
 .rcases é.mp r with h|h
  .exact .inl h
  .rw[mS.mp h];exact .inr e
 .rw[lA,lA,w.len];rfl
 .exact Ĥ.mpr ⟨w.nd,by simp,λa s c u=>by rw[mS.mp u];rintro rfl;exact y s⟩
 .by_cases k:l<α.length
  .rw[á k]at h1;rw[á (by rw[<-w.len];exact k)]at d;exact(n.obj l c v h1 d).move (Ex0.grow α [p] _) rfl
  .have j:l=α.length:=by
    have:=(gS.mp h1).1;rw[lA,lS]at this
    lia
   subst j;rw[æ (à _),sub_self]at h1;rw[æ (by rw[w.len];exact à _),w.len,sub_self]at d;cases h1;cases d;exact q
noncomputable def EG(S:Sto):R Er:=.ok (.val (.loc ↑2)) (S++[.dic []])
def Br:zN X W (.Dict [] [] pos) (λ_ S=>EG S):=by
 refine⟨λσ H Q=> ∀p,H p=none->Q (.ref p) (xR H p (.dK [])),λpins s σ H Q I h=>?_,λα ρ S σ H Q a sl q p b=>?_⟩
 .exact wpAny_Dict_empty ⟨.ref ↑0,_,I.laid (o:=.dK []) (λ_ _ q=>hP0 _ q) (à _)
   ⟨zero_le _,ŀ.mpr (Ne.symm (ë (KE I))),[],.nil,Heap.DictOf.new s.heap⟩,rfl,h _ (I.hok.fresh (à _))⟩
 .obtain⟨x,c⟩:=a.put (m:=.dic []) b (.inl ⟨[],zS,.nil⟩);exact q _ _ _ x c (DenE.val (mP (by rw[<-a.len,æ (à _),sub_self];rfl)))
def bL(S:Sto):Er->Option (Nat×List (MV×MV))
 |.val (.loc l)=>match S[l]? with
  |some (.dic kvs)=>if kvs.all (λp=>sM p.1)=true then some (l,kvs)else none
  |_=>none
 |_=>none
def keyOk(k:MV):Bool:=sM k&&(match yZ k with |some nk=>decide (iR nk<=4)|none=>false)
def tZ{k:MV}(h:keyOk k=true): ∃a,yZ k=some a/\iR a<=4/\sM k=true:=by
 unfold keyOk at h;rw[aE]at h
 cases z:yZ k with
 |none=>rw[z]at h;exact absurd h.2 xF0
 |some a=>rw[z]at h;exact⟨a,rfl,Ę h.2,h.1⟩
def sO(j:Wd X.g α S H){r:Er}{x:V}{l:Nat}(e:bL S r=some (l,kvs))(d:DenX X.K α H r x):
  ∃c xs,x=.ref c/\α[l]? =some c/\S[l]? =some (.dic kvs)/\DD X H c xs/\DenN X.K α H kvs xs:=by
 unfold bL at e;split at e
 .rename_i n;obtain⟨c,rfl,h⟩:=aU d;split at e
  .rename_i k a;split at e
   .rename_i i;obtain⟨rfl,rfl⟩:=Prod.mk.inj (ä e);obtain⟨xs,b,l⟩:=Yh (S:=S) (j.obj _ c _ h a) i;exact⟨c,xs,rfl,h,a,b,l⟩
   .cases e
  .cases e
 .cases e
def CT{k:MV}{x:V}(h:sM k=true)(d:Den X.K α H k x): ∃a,x=.ref a:=by
 cases k with
 |tup ds=>obtain⟨a,_,rfl,_⟩:=yO d;exact⟨a,rfl⟩
 |_=>exact absurd h xF0
def Yi(X:Cx):TSet:=λo i v H Q=> ∃(α:B6)(kvs:E3)(xs:List (NK×Addr×Ŋ))(a d:Addr)(k:MV)(nk:NK),o=.ref d/\i=.ref a/\DD X H d xs/\DenN X.K α H kvs xs/\yZ k=some nk/\iR nk<=4/\Den X.K α H k (.ref a)/\xs.length<sizeLine/\
 ∀u,RelV v u->Q (xR H d (DN X.prog X.w d (storedH xs nk a u)))
def sP{xs:List (NK×Addr×Ŋ)}{k:NK}{a:Addr}{u:Ŋ}:(storedH xs k a u).length<=xs.length+1:=by
 cases h:atKey xs k with
 |none=>rw[storedH_new h,lA];exact à _
 |some p=>rw[storedH_old h,lM];exact le_succ _
theorem XQ(hu:X.A.units+64<cLine):Fx X (Yi X):=by
 intro pins s σ H o i v ov iv u Q I K W J h;obtain⟨α,kvs,xs,a,d,k,Z,rfl,rfl,D,l,O,e,E,hz,q⟩:=h;cases K;cases W;obtain⟨F,C,hs⟩:=qS I D l;refine wpAny_setItem_heap (knd:=zU X.prog X.w) (show X.A.units+1+4<cLine by omega) ⟨vU I O E rfl,e⟩ F (λh' m B=>⟨_,?_,q u J⟩) C;have P:Ob (H d):=by rcases D with z|⟨_,z⟩<;>rw[z]<;>exact trivial
 obtain⟨j,es,ep,p,L,hd,S,_,T⟩:=m;refine I.write P (.inl rfl) (λb uo M U=>(B.2 b M).trans U) ⟨j,p⟩ ?_;refine⟨⟨by have:=sP (xs:=xs) (k:=Z) (a:=a) (u:=u);lia,hs,j,es,ep,p,L,hd,S,T⟩,⟨j,p⟩,?_⟩;rintro h1 h2 ⟨Y,N,o',c,y,n,r⟩ G;exact⟨Y,N,o',c,y,G o' n,r⟩
noncomputable def HX(p q:Er)(d:MV)(ρ:Rho)(S:Sto):R Rho:=match q with
 |.val k=>match bL S p with
  |some (l,kvs)=>if keyOk k=true/\kvs.length<1000000 then .ok ρ (S.set l (.dic (putK kvs k d)))else .no
  |none=>.no
 |_=>.no
theorem DenN.length: ∀{kvs xs},DenN X.K α H kvs xs->xs.length=kvs.length
 |_,_,.nil=>rfl
 |_,_,.cons _ _ _ _ _ l=>by rw[lC,lC,DenN.length l]
def Jg(hu:X.A.units+64<cLine)(ho:zN X W o f)(hi:zN X W i g)
  (ha: ∀v,assign (.Subscript o i pos) X.env v=(do
   let ov <-holding [v] (eval o X.env);let s <-holding [v,ov] (eval i X.env)
   standAt pos
   holding [v,ov,s] (setItem ov s v)
   release [v,ov,s] []):=by intro _;rfl):XA X W (.Subscript o i pos) (λd ρ S=>(f ρ S).bind λp S1=>(g ρ S1).bind λq S2=>HX p q d ρ S2):=by
 obtain⟨to,ho,Y⟩:=ho;obtain⟨ti,hi,P⟩:=hi;refine⟨_,QL ho hi (XQ hu) ha,λα ρ S σ H d v Q O sl Z q=>Y α ρ S σ H _ O sl (q.bind λu p S1 y H1 e1 j L M T=>P y ρ S1 σ H1 _ L (sl.ext j) ((T.shift j).bind λu2 p2 S2 b H2 e2 h C r a=>?_))⟩
 replace a:=a.shift h
 have E:=DenX.ext h M.1;have D:=(Z.ext j).ext h;unfold HX at a;split at a
 .rename_i k;split at a
  .rename_i l kvs e;split at a
   .rename_i J;obtain⟨K,h1,I,U⟩:=tZ J.1;obtain⟨c,xs,rfl,F,hS,n,z⟩:=sO C e E;obtain⟨G,rfl⟩:=CT U r.1;refine⟨b,kvs,xs,G,c,k,K,rfl,rfl,n,z,h1,I,r.1,?_,λu N=>?_⟩
    .rw[z.length];exact ç J.2 (fits (à _))
    .have B:=C.writex F n.nf (o:=DN X.prog X.w c (storedH xs K G u));have m:=((sl.ext j).ext h).ext B;exact a σ b _ B (C.write F n.nf (.inr ⟨_,zS,(KD z h1 I r.1 D N).ex0 B.toEx0⟩)) m
   .exact a.elim
  .exact a.elim
 .exact a.elim
end
def FsD(g:Gm)(α:B6)(H:Hp)(d:Option Addr)(fs:List (Str×MV)):Prop:=fs=[]\/ ∃a gs od,d=some a/\H a=some (.frz od (.xd gs))/\DenF g.K α H fs gs
abbrev WE(g:Gm)(E:XK):XW:=λc fs _ α H=> ∀C d,g.mg c=some (.ref C)->FsD g α H d fs->E (.ref C) d H
noncomputable def Si:MV->Bool
 |.non=>true
 |.bl _=>true
 |.int _=>true
 |.str _=>true
 |_=>false
def Post.wmono[Dn β τ]{g:Gm}{W a:XW}(f: ∀c fs S α' H',W c fs S α' H'->a c fs S α' H'): ∀{m:R β}{Q:τ->Hp->Prop},Post g W α H m Q->Post g a α H m Q
 |.ok b S,Q,q=>q
 |.exc c fs S,_,q=>λα' H' x w=>f _ _ _ _ _ (q α' H' x w)
 |.no,_,q=>q
def XCl(K:C6)(C:Addr)(j:A0)(a:Option Ŋ):Prop:=
 ∃m q N bs hd e c h b i k k1 k2 d o,K.lookup C=some (excClassObj m q C N bs j hd e c h b i k k1 k2 d o "ValueError.__new__")/\PySem.W.nsOkIn K N=true/\PySem.W.nsIn K N "__init__"=some a/\(∀n∈qn,PySem.W.nsIn K N n=some none)/\hd=true
def XEach(K:C6)(mg:B8)(M:Addr):List (Str×Addr)->Prop
 |[]=>True
 |(c,C)::r=>(mg c=some (.ref C)/\ ∃i,XCl K C (.ref M::A5) i)/\XEach K mg M r
theorem XEach.at{K:C6}{mg:B8}{M:Addr}: ∀{cs:List (Str×Addr)},XEach K mg M cs-> ∀{c C},(c,C)∈cs->mg c=some (.ref C)/\ ∃i,XCl K C (.ref M::A5) i
 |_::r,h,c',C',z=>by
  rcases mC.mp z with z|z
  .cases z;exact h.1
  .exact XEach.at h.2 z
def spX(g:Gm)(n:Nat)(F:List MV->Sto->R Er):Sp:=λvs H Q E=> ∃α S ds,Wd g α S H/\DenL g.K α H ds vs/\ds.length=n/\Post g (WE g E) α H (F ds S) Q
def UA(n:Nat)(F:List MV->Sto->R Er)(rs:List Er)(S:Sto):R Er:=if rs.length=n then(match F (zF rs S).1 (zF rs S).2 with
 |.ok r S2=>kZ S r S2
 |.exc c fs S2=>if fs.all (λp=>Si p.2)=true then(kZ S (.val .non) S2).bind λ_ a=>.exc c fs a else .no
 |.no=>.no)else .no
section
variable{P:Ō}{w:World}{K:C6}{mg:B8}{base:Heap}
def _root_.L2.FnOk.noX{k n:Nat}{f:Addr}{fd:FuncData}{ps:B7}{g:Gm}{F:List MV->Sto->R Er}(G:FnOk P w K mg base (CXe P w) k f fd ps (spX g n F)):FnOk P w K mg base DP k f fd ps (QZ g n F):=by
 have c: ∀{vs H Q}, ∀{E},QZ g n F vs H Q E->spX g n F vs H Q E0:=λ⟨α,S,ds,h1,j,m,o⟩=>⟨α,S,ds,h1,j,m,o.wmono λ_ _ _ _ _ z=>z.elim⟩
 refine⟨λvs H Q E h=>G.len vs H Q E0 (c h),λA a s H b us vs Q E p q i u h=>codeAny_mono (G.run A a s H b us vs Q E0 p q i u (c h)) λr s' d=>?_⟩
 cases r with
 |error e=>
  obtain⟨_,_,_,_,_,_,_,_,_,_,_,_,_,_,_,z⟩:=d;exact z
 |ok fl=>cases fl<;>exact d
end
end M
end L2
namespace L2
open PySem PySem.Spec PyProof.Rows
structure Out(X:Cx)(pins:C0)(H:Hp)(s:ŉ)(b:Addr):Prop where
 s0:X.s₀.heap.get? b=none
 h:H b=none
 pin: ∀p∈X.pn++pins,p.1≠b
 fld: ∃o vs,s.heap.get? b=some o/\o.data=.fields vs
section
variable{X:Cx}{pins:C0}{σ:St}{H:Hp}{s:ŉ}{e b:Addr}
def Out.ne(o:Out X pins H s b){c:Addr}{d:Obj}(a:s.heap.get? c=some d)(nf: ∀vs,d.data≠.fields vs):c≠b:=λz=>by obtain⟨h,vs,h1,e⟩:=o.fld;rw[z,h1]at a;cases a;exact nf vs e
def Out.loc(o:Out X pins H s b)(I:↑1):X.env.locals≠b:=by obtain⟨m,⟨c,es,ep,h1,a,_⟩,_⟩:=I.loc;exact o.ne h1 λvs z=>by rw[a]at z;cases z
def HdA(A:ŋ)(H:Hp):Prop:= ∃e a u,A.handled=some (.ref e)/\H e=some (.frz a u)/\ ∃vs,a.data=.fields vs/\vs[2]? =some .none
end
end L2
namespace L2
namespace M
open PySem PySem.Spec PyProof.Rows
noncomputable def endF(i:Nat):Fl->Sto->R Fl
 |.next ρ,S=>.ok (.next (ρ.set i none)) S
 |.ret r,S=>.ok (.ret r) S
 |.brk ρ,S=>.ok (.brk (ρ.set i none)) S
 |.cont ρ,S=>.ok (.cont (ρ.set i none)) S
def Sj(b:B7)(i:Nat)(kn:Er->Sto->R Fl)(a:AY)(ρ:Rho):R Er->R Fl
 |.ok r S=>kn r S
 |.exc c fs S=>if c∈b then(noX (a (ρ.set i (some (.loc S.length))) (S++[.ins c fs]))).bind (endF i)else .no
 |.no=>.no
end M
end L2
namespace Srt
open PySem PyProof.Rows
def nE:Bool->Keyed->Array Keyed->Nat->Nat->Nat->StateT SortSt Sem (Option Nat):=sortPriv% PySem.Builtin.gallop
def wD:Nat->StateT SortSt Sem Unit:=sortPriv% PySem.Builtin.setMinGallop
def EH:Array Keyed->Array Keyed->StateT SortSt Sem (Array Keyed):=sortPriv% PySem.Builtin.mergeLo
def EI:Array Keyed->Array Keyed->StateT SortSt Sem (Array Keyed):=sortPriv% PySem.Builtin.mergeHi
section
variable{M:Model}{A:ŋ}{E:VP}{s:ŉ}{σ:Type}
def Jh{x:σ}{Q:PUnit->σ->Prop}{st:σ}(h:Q ⟨⟩ x):wpS M A E s (set x:StateT σ Sem PUnit) Q st:=by unfold wpS;rw[StateT.run_set];exact wP ⟨rfl,h⟩
def eF{x:String}{Q:Unit->σ->Prop}{st:σ}(h:Q () st):wpS M A E s (liftM (rule x):StateT σ Sem Unit) Q st:=wpS_lift (ĕ ⟨rfl,h⟩)
end
end Srt
set_option autoImplicit false
namespace Srt
variable{β:Type}{le:β->β->Prop}
structure Two(le:β->β->Prop)(T out xs ys:List β):Prop where
 hx:(out++xs).Pairwise le
 hy:(out++ys).Pairwise le
 pm:(out++(xs++ys)).Perm T
def Two.movexs{T out e xs ys:List β}(h:Two le T out (e++xs) ys)(j: ∀z,z∈e-> ∀y,y∈ys->le z y):Two le T (out++e) xs ys:=by
 refine⟨by simpa only[aA]using h.hx,?_,by simpa only[aA]using h.pm⟩;have a:=ê.mp h.hx;have b:=ê.mp h.hy;have c:=ê.mp a.2.1;refine ê.mpr ⟨ê.mpr ⟨a.1,c.1,λx i y d=>a.2.2 x i y (ă _ d)⟩,b.2.1,λx i y d=>?_⟩
 cases é.mp i with
 |inl q=>exact b.2.2 x q y d
 |inr q=>exact j x q y d
def Two.swap{T out xs ys:List β}(h:Two le T out xs ys):Two le T out ys xs:=
 ⟨h.hy,h.hx,(List.Perm.append_left out List.perm_append_comm).trans h.pm⟩
def Two.moveys{T out a xs ys:List β}(h:Two le T out xs (a++ys))(b: ∀z,z∈a-> ∀x,x∈xs->le z x):Two le T (out++a) xs ys:=
 (h.swap.movexs b).swap
def Two.fin{T out xs ys:List β}(h:Two le T out xs ys)(d: ∀x,x∈xs-> ∀y,y∈ys->le x y):(out++xs++ys).Pairwise le/\(out++xs++ys).Perm T:=by
 have a:=ê.mp h.hx;have b:=ê.mp h.hy;refine⟨ê.mpr ⟨h.hx,b.2.1,λx e y c=>?_⟩,by rw[aA];exact h.pm⟩
 cases é.mp e with
 |inl q=>exact b.2.2 x q y c
 |inr q=>exact d x q y c
structure TwoR(le:β->β->Prop)(T xs ys R:List β):Prop where
 hx:(xs++R).Pairwise le
 hy:(ys++R).Pairwise le
 pm:(xs++ys++R).Perm T
def TwoR.swap{T R xs ys:List β}(h:TwoR le T xs ys R):TwoR le T ys xs R:=
 ⟨h.hy,h.hx,(List.Perm.append_right R List.perm_append_comm).trans h.pm⟩
def TwoR.moveys{T R d xs ys:List β}(h:TwoR le T xs (ys++d) R)(k: ∀x,x∈xs-> ∀z,z∈d->le x z):TwoR le T xs ys (d++R):=by
 refine⟨?_,by simpa only[aA]using h.hy,by simpa only[aA]using h.pm⟩;have a:=ê.mp h.hx;have b:=ê.mp h.hy;have c:=ê.mp b.1;refine ê.mpr ⟨a.1,ê.mpr ⟨c.2.1,a.2.1,λz j y e=>b.2.2 z (ó _ j) y e⟩,λx i y e=>?_⟩
 cases é.mp e with
 |inl q=>exact k x i y q
 |inr q=>exact a.2.2 x i y q
def TwoR.movexs{T R a xs ys:List β}(h:TwoR le T (xs++a) ys R)(b: ∀y,y∈ys-> ∀z,z∈a->le y z):TwoR le T xs ys (a++R):=
 (h.swap.moveys b).swap
def TwoR.fin{T R xs ys:List β}(h:TwoR le T xs ys R)(d: ∀x,x∈xs-> ∀y,y∈ys->le x y):(xs++ys++R).Pairwise le/\(xs++ys++R).Perm T:=by
 have a:=ê.mp h.hx;have b:=ê.mp h.hy;refine⟨ê.mpr ⟨ê.mpr ⟨a.1,b.1,d⟩,a.2.1,λx e y c=>?_⟩,h.pm⟩
 cases é.mp e with
 |inl q=>exact a.2.2 x q y c
 |inr q=>exact b.2.2 x q y c
def EK(l:List β)(i k:Nat):l.drop i=(l.drop i).take k++l.drop (i+k):=by rw[<-List.drop_drop,Ŀ]
def EL(l:List β)(i k:Nat)(h:i<=k):l.take k=l.take i++(l.take k).drop i:=by have:=Ŀ i (l.take k);rw[List.take_take,min_eq_left h]at this;exact this.symm
end Srt
namespace Srt
open PySem PyProof.Rows
abbrev SM:=StateT SortSt Sem
noncomputable def bey(lf:Bool)(x:Keyed)(v:Array Keyed)(b i:Nat):SM (Option Bool):=
 elem' v (b+i) >>= λy=>if lf=true then lt' y x else lt' x y >>= λr=>pure (r.map λq=>!q)
abbrev G3:=Option (Option Nat)×Nat×Nat
noncomputable def gUp(f:Nat->SM (Option Bool))(n m h:Nat):SM G3:=
 forIn [0:n] ((none,0,1):G3) λ_ c=>
  if c.2.2>=m then pure (.done (none,c.2.1,c.2.2))else f (h+c.2.2) >>= λo=>match o with
   |some q=>if(!q)=true then pure (.done (none,c.2.1,c.2.2))else pure (.yield (none,c.2.2,2 * c.2.2+1))
   |_=>pure (.done (some none,c.2.1,c.2.2))
noncomputable def gDn(f:Nat->SM (Option Bool))(n m h:Nat):SM G3:=
 forIn [0:n] ((none,0,1):G3) λ_ c=>
  if c.2.2>=m then pure (.done (none,c.2.1,c.2.2))else f (h - c.2.2) >>= λo=>match o with
   |some q=>if q=true then pure (.done (none,c.2.1,c.2.2))else pure (.yield (none,c.2.2,2 * c.2.2+1))
   |_=>pure (.done (some none,c.2.1,c.2.2))
noncomputable def Yj(f:Nat->SM (Option Bool))(n lo hi:Nat):SM G3:=
 forIn [0:n] ((none,lo,hi):G3) λ_ c=>
  if c.2.1>=c.2.2 then pure (.done (none,c.2.1,c.2.2))else f (c.2.1+(c.2.2 - c.2.1) / 2) >>= λo=>match o with
   |some q=>if q=true then pure (.yield (none,c.2.1+(c.2.2 - c.2.1) / 2+1,c.2.2))else pure (.yield (none,c.2.1,c.2.1+(c.2.2 - c.2.1) / 2))
   |_=>pure (.done (some none,c.2.1,c.2.2))
def Ji(f:Nat->SM (Option Bool))(n lo hi:Nat):SM (Option Nat):=
 Yj f n lo hi >>= λc=>match c.1 with
  |some r=>pure r
  |none=>pure (some c.2.2)
def gal(f:Nat->SM (Option Bool))(n h:Nat):SM (Option Nat):=
 f h >>= λo=>match o with
  |some q=>if q=true then gUp f n (n - h) h >>= λc=>(match c.1 with
     |some r=>pure r
     |none=>Ji f n (h+c.2.1+1) (h+min c.2.2 (n - h)))
    else gDn f n (h+1) h >>= λc=>(match c.1 with
     |some r=>pure r
     |none=>Ji f n (h+1 - min c.2.2 (h+1)) (h - c.2.1))
  |_=>pure none
theorem EM(lf:Bool)(x:Keyed)(v:Array Keyed)(b n h:Nat):nE lf x v b n h=gal (bey lf x v b) n h:=by kernel_rfl
section
variable{M:Model}{A:ŋ}{E:VP}{s:ŉ}
def Tells(M:Model)(A:ŋ)(E:VP)(s:ŉ)(st:SortSt)(f:Nat->SM (Option Bool))(p:Nat->Bool)(n:Nat):Prop:=
 ∀i,i<n-> ∀Q:Option Bool->SortSt->Prop,Q (some (p i)) st->wpS M A E s (f i) Q st
variable{st:SortSt}{f:Nat->SM (Option Bool)}{p:Nat->Bool}{n h:Nat}
def Sk{Q:G3->SortSt->Prop}(k:Tells M A E s st f p n)(q:h<n)(m:p h=true)
  (hq: ∀l o,l<o->h+l<n->p (h+l)=true->(n - h<=o\/(h+o<n/\p (h+o)=false))->Q (none,l,o) st):
  wpS M A E s (gUp f n (n - h) h) Q st:=by
 unfold gUp;refine Ć (I:=λx c b=>b=st/\ ∃l o,c=(none,l,o)/\x+1<=o/\l<o/\h+l<n/\p (h+l)=true) ?_ ?_ ⟨rfl,0,1,rfl,by omega,by omega,by omega,m⟩
 .rintro x c b _ r ⟨rfl,l,o,rfl,h1,e,i,d⟩;dsimp only;by_cases a:o>=n - h
  .rw[iP a];exact wpS_pure (hq l o e i d (.inl a))
  .rw[iN a];refine wpS_bind (k (h+o) (by omega) _ ?_)
   cases j:p (h+o)with
   |false=>exact wpS_pure (hq l o e i d (.inr ⟨by omega,j⟩))
   |true=>exact wpS_pure ⟨rfl,o,2 * o+1,rfl,by omega,by omega,by omega,j⟩
 .rintro c b ⟨rfl,l,o,rfl,h1,e,i,d⟩;exact hq l o e i d (.inl (by omega))
def Sl{Q:G3->SortSt->Prop}(k:Tells M A E s st f p n)(q:h<n)(m:p h=false)
  (hq: ∀l o,l<o->l<=h->p (h - l)=false->(h+1<=o\/(o<=h/\p (h - o)=true))->Q (none,l,o) st):
  wpS M A E s (gDn f n (h+1) h) Q st:=by
 unfold gDn;refine Ć (I:=λx c b=>b=st/\ ∃l o,c=(none,l,o)/\x+1<=o/\l<o/\l<=h/\p (h - l)=false) ?_ ?_ ⟨rfl,0,1,rfl,by omega,by omega,by omega,m⟩
 .rintro x c b _ r ⟨rfl,l,o,rfl,h1,e,i,d⟩;dsimp only;by_cases a:o>=h+1
  .rw[iP a];exact wpS_pure (hq l o e i d (.inl a))
  .rw[iN a];refine wpS_bind (k (h - o) (by omega) _ ?_)
   cases j:p (h - o)with
   |true=>exact wpS_pure (hq l o e i d (.inr ⟨by omega,j⟩))
   |false=>exact wpS_pure ⟨rfl,o,2 * o+1,rfl,by omega,by omega,by omega,j⟩
 .rintro c b ⟨rfl,l,o,rfl,h1,e,i,d⟩;exact hq l o e i d (.inl (by omega))
def UB{Q:Option Nat->SortSt->Prop}{lo hi:Nat}(y:Tells M A E s st f p n)(u: ∀i j,i<=j->j<n->p j=true->p i=true)
  (h1:lo<=hi) (h2:hi<=n) (h3: ∀i,i<lo->p i=true) (h4: ∀i,hi<=i->i<n->p i=false)
  (hq: ∀r,r<=n->(∀i,i<r->p i=true)->(∀i,r<=i->i<n->p i=false)->Q (some r) st):
  wpS M A E s (Ji f n lo hi) Q st:=by
 unfold Ji Yj
 refine wpS_bind (wpS_mono (Ć (I:=λx c a=>a=st/\ ∃l r,c=(none,l,r)/\l<=r/\r<=n/\r - l<=n - x/\(∀i,i<l->p i=true)/\(∀i,r<=i->i<n->p i=false))
  (Q:=λc a=>a=st/\ ∃l r,c=(none,l,r)/\r<=n/\(∀i,i<r->p i=true)/\(∀i,r<=i->i<n->p i=false)) ?_ ?_ ⟨rfl,lo,hi,rfl,h1,h2,by omega,h3,h4⟩) ?_)
 .rintro x c a _ z ⟨rfl,l,r,rfl,w,b,v,d,e⟩;dsimp only;by_cases h:l>=r
  .rw[iP h];have:l=r:=by omega
   subst this;exact wpS_pure ⟨rfl,l,l,rfl,b,d,e⟩
  .rw[iN h];refine wpS_bind (y (l+(r - l) / 2) (by omega) _ ?_)
   cases o:p (l+(r - l) / 2)with
   |true=>exact wpS_pure ⟨rfl,_,r,rfl,by omega,b,by omega,λi hi=>u i _ (by omega) (by omega) o,e⟩
   |false=>
    refine wpS_pure ⟨rfl,l,_,rfl,by omega,by omega,by omega,d,λi m k=>?_⟩
    cases q:p i with
    |false=>rfl
    |true=>rw[u _ i m k q]at o;cases o
 .rintro c a ⟨rfl,l,r,rfl,w,b,v,d,e⟩;have:l=r:=by omega
  subst this;exact⟨rfl,l,l,rfl,b,d,e⟩
 .rintro c a ⟨rfl,l,r,rfl,b,d,e⟩;exact wpS_pure (hq r b d e)
def Bs{Q:Option Nat->SortSt->Prop}(d:Tells M A E s st f p n)(c: ∀i j,i<=j->j<n->p j=true->p i=true)(k:h<n)
  (hq: ∀r,r<=n->(∀i,i<r->p i=true)->(∀i,r<=i->i<n->p i=false)->Q (some r) st):
  wpS M A E s (gal f n h) Q st:=by
 have u: ∀i j,i<=j->j<n->p i=false->p j=false:=by
  intro i j h1 e b
  cases w:p j with
  |false=>rfl
  |true=>rw[c i j h1 e w]at b;cases b
 unfold gal;refine wpS_bind (d h k _ ?_)
 cases v:p h with
 |true=>
  refine wpS_bind (Sk d k v λl o h1 e b a=>?_);dsimp only;refine UB d c (by omega) (by omega) (λi hi=>c i (h+l) (by omega) e b) (λi q m=>?_) hq;rcases a with a|⟨a,h7⟩
  .omega
  .exact u _ i (by omega) m h7
 |false=>
  refine wpS_bind (Sl d k v λl o h1 e b a=>?_);dsimp only;refine UB d c (by omega) (by omega) (λi hi=>?_) (λi q m=>u _ i q m b) hq;rcases a with a|⟨a,h7⟩
  .omega
  .exact c i (h - o) (by omega) (by omega) h7
end
end Srt
namespace Srt
open PySem PyProof.Rows
variable{v:Array Keyed}
def wR{β:Type}{l:List β}{i:Nat}{z:β}(h:z∈l.drop i): ∃j,i+j<l.length/\l[i+j]? =some z:=by obtain⟨j,a,e⟩:=List.mem_iff_getElem.mp h;rw[þ]at a;refine⟨j,by omega,?_⟩;rw[getElem_drop]at e;rw[<-e,gE (by omega)]
def sQ{β:Type}{l:List β}{i k:Nat}{z:β}(h:z∈(l.drop i).take k): ∃j,j<k/\i+j<l.length/\l[i+j]? =some z:=by obtain⟨j,a,e⟩:=List.mem_iff_getElem.mp h;rw[lT,þ]at a;refine⟨j,by omega,by omega,?_⟩;rw[getElem_take,getElem_drop]at e;rw[<-e,gE (by omega)]
def fY{β:Type}{l:List β}{k:Nat}{z:β}(h:z∈l.take k): ∃j,j<k/\j<l.length/\l[j]? =some z:=by obtain⟨j,a,e⟩:=List.mem_iff_getElem.mp h;rw[lT]at a;refine⟨j,by omega,by omega,?_⟩;rw[getElem_take]at e;rw[<-e,gE (by omega)]
section
variable{M:Model}{A:ŋ}{E:VP}{s:ŉ}
structure Cmp(M:Model)(A:ŋ)(E:VP)(s:ŉ)(kd:SortKind)(D:Keyed->Prop)(lt:Keyed->Keyed->Bool):Prop where
 go: ∀x y,D x->D y-> ∀st:SortSt,kindOf st=kd-> ∀Q:Option Bool->SortSt->Prop,Q (some (lt x y)) st->wpS M A E s (lt' x y) Q st
 tr: ∀x y z,lt y x=false->lt z y=false->lt z x=false
 as: ∀x y,lt x y=true->lt y x=false
variable{kd:SortKind}{D:Keyed->Prop}{lt:Keyed->Keyed->Bool}
abbrev Le(lt:Keyed->Keyed->Bool)(x y:Keyed):Prop:=lt y x=false
def Cmp.rf(C:Cmp M A E s kd D lt)(x:Keyed):Le lt x x:=by
 show lt x x=false
 cases h:lt x x with
 |false=>rfl
 |true=>exact absurd h (by rw[C.as x x h];simp)
def SL(lt:Keyed->Keyed->Bool)(l:List Keyed)(b n:Nat):Prop:= ∀i j x y,i<=j->j<n->l[b+i]? =some x->l[b+j]? =some y->lt y x=false
def yE{st:SortSt}{i:Nat}{Q:Keyed->SortSt->Prop}{x:Keyed}(e:v.toList[i]? =some x)(h:Q x st):wpS M A E s (elem' v i) Q st:=by
 rw[elem'_eq];have:v[i]? =some x:=by rw[<-ò];exact e
 rw[this];exact wpS_pure h
def wK{i:Nat}(h:i<v.size): ∃x,v.toList[i]? =some x:=⟨v.toList[i]'(by simpa using h),gE _⟩
noncomputable def pB(lt:Keyed->Keyed->Bool)(lf:Bool)(x:Keyed)(l:List Keyed)(b i:Nat):Bool:=(l[b+i]?).elim false λy=>if lf=true then lt y x else !lt x y
def tells(C:Cmp M A E s kd D lt){st:SortSt}(e:kindOf st=kd)(j: ∀y,y∈v.toList->D y){x:Keyed}(h:D x){b n:Nat}(k:b+n<=v.size)(lf:Bool):
  Tells M A E s st (bey lf x v b) (pB lt lf x v.toList b) n:=by
 intro i hi Q c;obtain⟨y,d⟩:=wK (v:=v) (i:=b+i) (by omega);have a:=j y (è d);unfold bey;unfold pB at c;rw[d]at c;refine wpS_bind (yE d ?_)
 cases lf with
 |true=>exact C.go y x a h st e _ c
 |false=>
  show wpS M A E s (lt' x y >>= λr=>pure (r.map λq=>!q)) Q st;exact wpS_bind (C.go x y h a st e _ (wpS_pure c))
def KF(C:Cmp M A E s kd D lt){st:SortSt}(w:kindOf st=kd)(u: ∀y,y∈v.toList->D y){x:Keyed}(F:D x){b n h:Nat}(B:b+n<=v.size)(p:h<n)
  (hs:SL lt v.toList b n) {Q:Option Nat->SortSt->Prop}
  (hq: ∀r,r<=n->(∀i y,i<r->v.toList[b+i]? =some y->lt x y=false)->(∀i y,r<=i->i<n->v.toList[b+i]? =some y->lt x y=true)->Q (some r) st):
  wpS M A E s (nE false x v b n h) Q st:=by
 rw[EM];refine Bs (tells C w u F B false) (λi j h1 d a=>?_) p (λr h1 d a=>hq r h1 (λi y c e=>?_) (λi y c e q=>?_))
 .obtain⟨y,m⟩:=wK (v:=v) (i:=b+i) (by omega);obtain⟨z,o⟩:=wK (v:=v) (i:=b+j) (by omega);unfold pB at a ⊢;rw[o]at a;rw[m];have k:(!lt x z)=true:=a;show(!lt x y)=true;have:=hs i j y z h1 d m o;have c:lt x z=false:=by simpa using k
  rw[C.tr y z x this c];rfl
 .have:=d i c;unfold pB at this;rw[e]at this;have h':(!lt x y)=true:=this;simpa using h'
 .have:=a i c e;unfold pB at this;rw[q]at this;have h':(!lt x y)=false:=this;simpa using h'
def KG(C:Cmp M A E s kd D lt){st:SortSt}(B:kindOf st=kd)(w: ∀y,y∈v.toList->D y){x:Keyed}(G:D x){b n h:Nat}(F:b+n<=v.size)(q:h<n)
  (hs:SL lt v.toList b n) {Q:Option Nat->SortSt->Prop}
  (hq: ∀r,r<=n->(∀i y,i<r->v.toList[b+i]? =some y->lt y x=true)->(∀i y,r<=i->i<n->v.toList[b+i]? =some y->lt y x=false)->Q (some r) st):
  wpS M A E s (nE true x v b n h) Q st:=by
 rw[EM];refine Bs (tells C B w G F true) (λi j h1 c a=>?_) q (λr h1 c a=>hq r h1 (λi y m e=>?_) (λi y m e u=>?_))
 .obtain⟨y,o⟩:=wK (v:=v) (i:=b+i) (by omega);obtain⟨z,p⟩:=wK (v:=v) (i:=b+j) (by omega);unfold pB at a ⊢;rw[p]at a;rw[o];have k:lt z x=true:=a;show lt y x=true;have:=hs i j y z h1 c o p
  cases d:lt y x with
  |true=>rfl
  |false=>exact absurd k (by rw[C.tr x y z d this];simp)
 .have:=c i m;unfold pB at this;rw[e]at this;exact this
 .have:=a i m e;unfold pB at this;rw[u]at this;exact this
end
end Srt
namespace Srt
open PySem PyProof.Rows
abbrev V:=Array Keyed
abbrev L5:=Option V×V×Nat×Nat×Nat
abbrev L6:=Option V×V×Nat×Nat×Nat×Nat
abbrev L7:=Option V×V×Nat×Nat×Nat×Nat×Nat
noncomputable abbrev ZJ(a b o:V)(i j:Nat):V:=o++a.extract i a.size++b.extract j b.size
noncomputable abbrev Vr(a b o:V)(i j:Nat):V:=o++b.extract j b.size++a.extract i a.size
def Sm(a b:V)(g:Nat)(c:L6):SM (ForInStep L6):=
 elem' b c.2.2.2.1 >>= λy=>elem' a c.2.2.1 >>= λx=>lt' y x >>= λr=>match r with
  |some q=>if q=true then elem' b c.2.2.2.1 >>= λy=>
     if(c.2.2.2.1+1==b.size)=true then pure (.done (some (ZJ a b (c.2.1.push y) c.2.2.1 (c.2.2.2.1+1)),c.2.1.push y,c.2.2.1,c.2.2.2.1+1,0,c.2.2.2.2.2+1))
     else if c.2.2.2.2.2+1>=g then pure (.done (none,c.2.1.push y,c.2.2.1,c.2.2.2.1+1,0,c.2.2.2.2.2+1))
     else pure (.yield (none,c.2.1.push y,c.2.2.1,c.2.2.2.1+1,0,c.2.2.2.2.2+1))
    else elem' a c.2.2.1 >>= λx=>
     if(c.2.2.1+1+1==a.size)=true then pure (.done (some (Vr a b (c.2.1.push x) (c.2.2.1+1) c.2.2.2.1),c.2.1.push x,c.2.2.1+1,c.2.2.2.1,c.2.2.2.2.1+1,0))
     else if c.2.2.2.2.1+1>=g then pure (.done (none,c.2.1.push x,c.2.2.1+1,c.2.2.2.1,c.2.2.2.2.1+1,0))
     else pure (.yield (none,c.2.1.push x,c.2.2.1+1,c.2.2.2.1,c.2.2.2.2.1+1,0))
  |_=>pure (.done (some (ZJ a b c.2.1 c.2.2.1 c.2.2.2.1),c.2.1,c.2.2.1,c.2.2.2.1,c.2.2.2.2.1,c.2.2.2.2.2))
def in1(a b:V)(t g:Nat)(c:L6):SM L6:=forIn [0:t] c λ_ c=>Sm a b g c
def Jj(a b o:V)(i j g p q:Nat):SM (ForInStep L7):=
 elem' a i >>= λx=>if(i+1+1==a.size)=true then pure (.done (some (Vr a b (o.push x) (i+1) j),o.push x,i+1,j,g,p,q))
  else if(decide (p<7)&&decide (q<7))=true then pure (.done (none,o.push x,i+1,j,g,p,q))else pure (.yield (none,o.push x,i+1,j,g,p,q))
def Jk(a b o:V)(i j g p q:Nat):SM (ForInStep L7):=
 elem' b j >>= λy=>if(j+1==b.size)=true then pure (.done (some (ZJ a b (o.push y) i (j+1)),o.push y,i,j+1,g,p,q))
  else elem' a i >>= λx=>nE true x b (j+1) (b.size - (j+1)) 0 >>= λr=>match r with
   |some k=>if k>0 then
      if(j+1+k==b.size)=true then pure (.done (some (ZJ a b (o.push y++b.extract (j+1) (j+1+k)) i (j+1+k)),o.push y++b.extract (j+1) (j+1+k),i,j+1+k,g,p,k))
      else Jj a b (o.push y++b.extract (j+1) (j+1+k)) i (j+1+k) g p k
     else Jj a b (o.push y) i (j+1) g p k
   |_=>pure (.done (some (ZJ a b (o.push y) i (j+1)),o.push y,i,j+1,g,p,q))
def Jl(a b o:V)(i j g p q:Nat):SM (ForInStep L7):=
 wD g >>= λ_=>elem' b j >>= λy=>nE false y a i (a.size - i) 0 >>= λr=>match r with
  |some k=>if k>0 then
     if(i+k+1==a.size)=true then pure (.done (some (Vr a b (o++a.extract i (i+k)) (i+k) j),o++a.extract i (i+k),i+k,j,g,k,q))
     else if(i+k==a.size)=true then pure (.done (some (ZJ a b (o++a.extract i (i+k)) (i+k) j),o++a.extract i (i+k),i+k,j,g,k,q))
     else Jk a b (o++a.extract i (i+k)) (i+k) j g k q
    else Jk a b o i j g k q
  |_=>pure (.done (some (ZJ a b o i j),o,i,j,g,p,q))
def in2(a b:V)(t:Nat)(c:L7):SM L7:=forIn [0:t] c λ_ c=>
 if c.2.2.2.2.1>1 then Jl a b c.2.1 c.2.2.1 c.2.2.2.1 (c.2.2.2.2.1 - 1) c.2.2.2.2.2.1 c.2.2.2.2.2.2
 else Jl a b c.2.1 c.2.2.1 c.2.2.2.1 c.2.2.2.2.1 c.2.2.2.2.2.1 c.2.2.2.2.2.2
def Sn(a b:V)(t:Nat)(c:L5):SM L5:=forIn [0:t] c λ_ c=>
 in1 a b t c.2.2.2.2 (none,c.2.1,c.2.2.1,c.2.2.2.1,0,0) >>= λd=>match d.1 with
  |some r=>pure (.done (some r,d.2.1,d.2.2.1,d.2.2.2.1,c.2.2.2.2))
  |none=>liftM (rule "list.sort.gallop") >>= λ_=>in2 a b t (none,d.2.1,d.2.2.1,d.2.2.2.1,c.2.2.2.2+1,d.2.2.2.2.1,d.2.2.2.2.2) >>= λe=>match e.1 with
   |some r=>pure (.done (some r,e.2.1,e.2.2.1,e.2.2.2.1,e.2.2.2.2.1))
   |none=>wD (e.2.2.2.2.1+1) >>= λ_=>pure (.yield (none,e.2.1,e.2.2.1,e.2.2.2.1,e.2.2.2.2.1+1))
def mLo(a b:V):SM V:=
 liftM (rule "list.sort.merge-lo") >>= λ_=>elem' b 0 >>= λy=>if(1==b.size)=true then pure (ZJ a b #[y] 0 1)
  else if(0+1==a.size)=true then pure (Vr a b #[y] 0 1)
  else get >>= λst=>Sn a b (a.size+b.size) (none,#[y],0,1,gallopOf st) >>= λc=>match c.1 with
   |some r=>pure r
   |none=>liftM (unsupported "internal:list.sort.merge-bound")
theorem NZ(a b:V):EH a b=mLo a b:=by kernel_rfl
end Srt
namespace Srt
open PySem PyProof.Rows
variable{o:V}{j:Nat}
def vV(v:V)(i:Nat):(v.extract i v.size).toList=v.toList.drop i:=by rw[Array.toList_extract,ĺ];exact Ā (by simp)
def KH(v:V)(i k:Nat):(v.extract i (i+k)).toList=(v.toList.drop i).take k:=by rw[Array.toList_extract,ĺ,Nat.add_sub_cancel_left]
theorem Jm(g:Nat):wD g=modify λs=>SortSt.mk' (kindOf s) (arrOf s) (pendingOf s) g (failedOf s):=rfl
def Sg(st a:SortSt):Prop:= ∃g,a=SortSt.mk' (kindOf st) (arrOf st) (pendingOf st) g (failedOf st)
def Sg.refl(st:SortSt):Sg st st:=⟨gallopOf st,rfl⟩
theorem Sg.kind{st a:SortSt}(h:Sg st a):kindOf a=kindOf st:=by obtain⟨g,rfl⟩:=h;rfl
section
variable{M:Model}{A:ŋ}{E:VP}{s:ŉ}{kd:SortKind}{D:Keyed->Prop}{lt:Keyed->Keyed->Bool}{a b:V}
def CV{st a:SortSt}(h:Sg st a){g:Nat}{Q:Unit->SortSt->Prop}(b: ∀a,Sg st a->Q () a):wpS M A E s (wD g) Q a:=by rw[Jm];obtain⟨c,rfl⟩:=h;exact wpS_modify (b _ ⟨g,rfl⟩)
abbrev TwoA(lt:Keyed->Keyed->Bool)(a b o:V)(i j:Nat):Prop:=Two (Le lt) (a.toList++b.toList) o.toList (a.toList.drop i) (b.toList.drop j)
def FinA(lt:Keyed->Keyed->Bool)(a b r:V):Prop:=r.toList.Pairwise (Le lt)/\r.toList.Perm (a.toList++b.toList)
def KI{β:Type}{l:List β}{i:Nat}{x:β}(h:l[i]? =some x):l.drop i=x::l.drop (i+1):=by obtain⟨hi,e⟩:=gS.mp h;rw[<-e];exact ĥ hi
def heads{β:Type}{le:β->β->Prop}(rf: ∀x,le x x){l:List β}{i:Nat}{x:β}(h:(l.drop i).Pairwise le)(e:l[i]? =some x): ∀z,z∈l.drop i->le x z:=by
 rw[KI e]at h ⊢;intro z a
 cases a with
 |head=>exact rf x
 |tail _ a=>exact(List.pairwise_cons.mp h).1 z a
def TwoA.sa{i:Nat}(h:TwoA lt a b o i j):(a.toList.drop i).Pairwise (Le lt):=(ê.mp h.hx).2.1
def TwoA.sb{i:Nat}(h:TwoA lt a b o i j):(b.toList.drop j).Pairwise (Le lt):=(ê.mp h.hy).2.1
def UC{l:List Keyed}{i n:Nat}(h:(l.drop i).Pairwise (Le lt))(rf: ∀x,Le lt x x):SL lt l i n:=by
 intro p q x y h1 k b a;by_cases e:p=q
 .subst e;rw[b]at a;cases a;exact rf x
 .obtain⟨m,c⟩:=gS.mp b;obtain⟨j,d⟩:=gS.mp a;have:=List.pairwise_iff_getElem.mp h p q (by rw[þ];omega) (by rw[þ];omega) (by omega);rw[getElem_drop,getElem_drop,c,d]at this;exact this
def TwoA.pushB{i:Nat}{y:Keyed}(h:TwoA lt a b o i j)(e:b.toList[j]? =some y)(d: ∀x,x∈a.toList.drop i->Le lt y x):TwoA lt a b (o.push y) i (j+1):=by
 have h':Two (Le lt) (a.toList++b.toList) o.toList (a.toList.drop i) ([y]++b.toList.drop (j+1)):=by rw[show [y]++b.toList.drop (j+1)=b.toList.drop j from(KI e).symm];exact h
 have:=h'.moveys λz c x k=>by rw[mS.mp c];exact d x k
 show Two _ _ (o.push y).toList _ _;rw[Array.toList_push];exact this
def TwoA.pushA{i:Nat}{x:Keyed}(h:TwoA lt a b o i j)(e:a.toList[i]? =some x)(d: ∀y,y∈b.toList.drop j->Le lt x y):TwoA lt a b (o.push x) (i+1) j:=by
 have h':Two (Le lt) (a.toList++b.toList) o.toList ([x]++a.toList.drop (i+1)) (b.toList.drop j):=by rw[show [x]++a.toList.drop (i+1)=a.toList.drop i from(KI e).symm];exact h
 have:=h'.movexs λz c y k=>by rw[mS.mp c];exact d y k
 show Two _ _ (o.push x).toList _ _;rw[Array.toList_push];exact this
def TwoA.cutA{i k:Nat}(h:TwoA lt a b o i j)(e: ∀n z,n<k->a.toList[i+n]? =some z-> ∀y,y∈b.toList.drop j->Le lt z y):TwoA lt a b (o++a.extract i (i+k)) (i+k) j:=by
 have h':Two (Le lt) (a.toList++b.toList) o.toList ((a.toList.drop i).take k++a.toList.drop (i+k)) (b.toList.drop j):=by rw[<-EK];exact h
 have:=h'.movexs λz c y m=>by obtain⟨n,h1,_,d⟩:=sQ c;exact e n z h1 d y m
 show Two _ _ (o++a.extract i (i+k)).toList _ _;rw[ü,KH];exact this
def TwoA.cutB{i k:Nat}(h:TwoA lt a b o i j)(e: ∀n z,n<k->b.toList[j+n]? =some z-> ∀x,x∈a.toList.drop i->Le lt z x):TwoA lt a b (o++b.extract j (j+k)) i (j+k):=by
 have h':Two (Le lt) (a.toList++b.toList) o.toList (a.toList.drop i) ((b.toList.drop j).take k++b.toList.drop (j+k)):=by rw[<-EK];exact h
 have:=h'.moveys λz c y m=>by obtain⟨n,h1,_,d⟩:=sQ c;exact e n z h1 d y m
 show Two _ _ (o++b.extract j (j+k)).toList _ _;rw[ü,KH];exact this
def TwoA.dnB{i:Nat}(h:TwoA lt a b o i j)(d:b.size<=j):FinA lt a b (ZJ a b o i j):=by
 have e:(ZJ a b o i j).toList=o.toList++a.toList.drop i++b.toList.drop j:=by rw[ü,ü,vV,vV]
 unfold FinA;rw[e];exact h.fin λx _ y c=>by rw[drop_of_length_le (by simpa using d)]at c;cases c
def TwoA.dnA{i:Nat}(h:TwoA lt a b o i j)(hi:a.size<=i):FinA lt a b (ZJ a b o i j):=by
 have e:(ZJ a b o i j).toList=o.toList++a.toList.drop i++b.toList.drop j:=by rw[ü,ü,vV,vV]
 unfold FinA;rw[e];exact h.fin λx c y _=>by rw[drop_of_length_le (by simpa using hi)]at c;cases c
def TwoA.la{i:Nat}(h:TwoA lt a b o i j)(hi:i+1=a.size)(hz: ∀x y,a.toList[a.size - 1]? =some x->y∈b.toList->Le lt y x):FinA lt a b (Vr a b o i j):=by
 have e:(Vr a b o i j).toList=o.toList++b.toList.drop j++a.toList.drop i:=by rw[ü,ü,vV,vV]
 unfold FinA;rw[e];refine h.swap.fin λy k x d=>?_;obtain⟨n,h1,c⟩:=wR d;have m:a.toList.length=a.size:=by simp
 exact hz x y (by rw[show a.size - 1=i+n by omega];exact c) (List.mem_of_mem_drop k)
def TwoA.len{i:Nat}(h:TwoA lt a b o i j):o.size+((a.size - i)+(b.size - j))=a.size+b.size:=by have:=h.pm.length_eq;simpa [lA,þ]using this
def I1(lt:Keyed->Keyed->Bool)(a b o:V)(i j:Nat):Prop:=i+1<a.size/\j<b.size/\TwoA lt a b o i j
structure Set2(M:Model)(A:ŋ)(E:VP)(s:ŉ)(kd:SortKind)(D:Keyed->Prop)(lt:Keyed->Keyed->Bool)(a b:V):Prop where
 C:Cmp M A E s kd D lt
 da: ∀x,x∈a.toList->D x
 db: ∀x,x∈b.toList->D x
 lst: ∀x y,a.toList[a.size - 1]? =some x->y∈b.toList->Le lt y x
def N6(lt:Keyed->Keyed->Bool)(a b:V)(n:Nat)(c:L6):Prop:= ∃o i j p q,c=(none,o,i,j,p,q)/\I1 lt a b o i j/\n<=o.size
def P6(lt:Keyed->Keyed->Bool)(a b:V)(n:Nat)(c:L6):Prop:=(∃r e,c=(some r,e)/\FinA lt a b r)\/N6 lt a b n c
def N7(lt:Keyed->Keyed->Bool)(a b:V)(n:Nat)(c:L7):Prop:= ∃o i j g p q,c=(none,o,i,j,g,p,q)/\I1 lt a b o i j/\n<=o.size
def P7(lt:Keyed->Keyed->Bool)(a b:V)(n:Nat)(c:L7):Prop:=(∃r e,c=(some r,e)/\FinA lt a b r)\/N7 lt a b n c
def Jn(Z:Set2 M A E s kd D lt a b){st:SortSt}(G:kindOf st=kd){i p q g:Nat}(h:I1 lt a b o i j){Q:ForInStep L6->SortSt->Prop}
  (hd: ∀c,P6 lt a b (o.size+1) c->Q (.done c) st) (hy: ∀c,N6 lt a b (o.size+1) c->Q (.yield c) st):wpS M A E s (Sm a b g (none,o,i,j,p,q)) Q st:=by
 obtain⟨h1,w,r⟩:=h;obtain⟨y,e⟩:=wK w;obtain⟨x,ex⟩:=wK (v:=a) (i:=i) (by omega);have B:=heads Z.C.rf r.sb e;have F:=heads Z.C.rf r.sa ex;unfold Sm;refine wpS_bind (yE e (wpS_bind (yE ex (wpS_bind (Z.C.go y x (Z.db y (è e)) (Z.da x (è ex)) st G _ ?_)))))
 cases n:lt y x with
 |true=>
  have k:=r.pushB e λz u=>Z.C.tr y x z (Z.C.as y x n) (F z u);have hs:(o.push y).size=o.size+1:=Ĝ ..;refine wpS_bind (yE e ?_);dsimp only;by_cases d:j+1=b.size
  .rw[iP (by simpa using d)];exact wpS_pure (hd _ (.inl ⟨_,_,rfl,k.dnB (by omega)⟩))
  .rw[iN (by simpa using d)];have m:I1 lt a b (o.push y) i (j+1):=⟨h1,by omega,k⟩
   split
   .exact wpS_pure (hd _ (.inr ⟨_,_,_,_,_,rfl,m,by omega⟩))
   .exact wpS_pure (hy _ ⟨_,_,_,_,_,rfl,m,by omega⟩)
 |false=>
  have k:=r.pushA ex λz u=>Z.C.tr x y z n (B z u);have hs:(o.push x).size=o.size+1:=Ĝ ..;refine wpS_bind (yE ex ?_);dsimp only;by_cases d:i+1+1=a.size
  .rw[iP (by simpa using d)];exact wpS_pure (hd _ (.inl ⟨_,_,rfl,k.la d Z.lst⟩))
  .rw[iN (by simpa using d)];have m:I1 lt a b (o.push x) (i+1) j:=⟨by omega,w,k⟩
   split
   .exact wpS_pure (hd _ (.inr ⟨_,_,_,_,_,rfl,m,by omega⟩))
   .exact wpS_pure (hy _ ⟨_,_,_,_,_,rfl,m,by omega⟩)
def N6.mono{n m:Nat}{c:L6}(h:N6 lt a b n c)(e:m<=n):N6 lt a b m c:=by obtain⟨o,i,j,p,q,h1,d,k⟩:=h;exact⟨o,i,j,p,q,h1,d,by omega⟩
def P6.mono{n m:Nat}{c:L6}(h:P6 lt a b n c)(e:m<=n):P6 lt a b m c:=h.imp id λh=>h.mono e
def So(Z:Set2 M A E s kd D lt a b){st:SortSt}(m:kindOf st=kd){i g t:Nat}(r:1<=t)(h:I1 lt a b o i j){Q:L6->SortSt->Prop}
  (hq: ∀c,P6 lt a b (o.size+1) c->Q c st):wpS M A E s (in1 a b t g (none,o,i,j,0,0)) Q st:=by
 unfold in1;refine Ć (I:=λx c d=>d=st/\N6 lt a b (o.size+x) c) ?_ ?_ ⟨rfl,o,i,j,0,0,rfl,h,by omega⟩
 .rintro x c d _ _ ⟨rfl,o',u,p,v,n,rfl,h',q⟩;refine Jn Z m h' (λc e=>hq c (e.mono (by omega))) (λc e=>⟨rfl,e.mono (by omega)⟩)
 .rintro c d ⟨rfl,k⟩;exact hq c (.inr (k.mono (by omega)))
def UD(Z:Set2 M A E s kd D lt a b){st:SortSt}{i g p q:Nat}(h1:i+1<a.size)(k:j<b.size)(m:TwoA lt a b o i j)
  (hl: ∀x,a.toList[i]? =some x-> ∀y,y∈b.toList.drop j->Le lt x y) {n:Nat} (hn:n<=o.size) {Q:ForInStep L7->SortSt->Prop}
  (hd: ∀c,P7 lt a b n c->Q (.done c) st) (hy: ∀c,N7 lt a b n c->Q (.yield c) st):wpS M A E s (Jj a b o i j g p q) Q st:=by
 obtain⟨x,ex⟩:=wK (v:=a) (i:=i) (by omega);have h:=m.pushA ex (hl x ex);have hs:(o.push x).size=o.size+1:=Ĝ ..;unfold Jj;refine wpS_bind (yE ex ?_);by_cases d:i+1+1=a.size
 .rw[iP (by simpa using d)];exact wpS_pure (hd _ (.inl ⟨_,_,rfl,h.la d Z.lst⟩))
 .rw[iN (by simpa using d)];have e:I1 lt a b (o.push x) (i+1) j:=⟨by omega,k,h⟩
  split
  .exact wpS_pure (hd _ (.inr ⟨_,_,_,_,_,_,rfl,e,by omega⟩))
  .exact wpS_pure (hy _ ⟨_,_,_,_,_,_,rfl,e,by omega⟩)
def UE(Z:Set2 M A E s kd D lt a b){st:SortSt}(S:kindOf st=kd){i g p q:Nat}(h1:i+1<a.size)(P:j<b.size)(I:TwoA lt a b o i j)
  (hl: ∀y,b.toList[j]? =some y-> ∀x,x∈a.toList.drop i->Le lt y x) {n:Nat} (hn:n<=o.size) {Q:ForInStep L7->SortSt->Prop}
  (hd: ∀c,P7 lt a b n c->Q (.done c) st) (hy: ∀c,N7 lt a b n c->Q (.yield c) st):wpS M A E s (Jk a b o i j g p q) Q st:=by
 obtain⟨y,w⟩:=wK P;obtain⟨x,ex⟩:=wK (v:=a) (i:=i) (by omega);have h:=I.pushB w (hl y w);have hs:(o.push y).size=o.size+1:=Ĝ ..;have N:=heads Z.C.rf I.sa ex;unfold Jk;refine wpS_bind (yE w ?_);by_cases K:j+1=b.size
 .rw[iP (by simpa using K)];exact wpS_pure (hd _ (.inl ⟨_,_,rfl,h.dnB (by omega)⟩))
 .rw[iN (by simpa using K)];refine wpS_bind (yE ex (wpS_bind (KG Z.C S Z.db (Z.da x (è ex)) (by omega) (by omega) (UC h.sb Z.C.rf) λk k1 k2 H=>?_)));dsimp only;by_cases G:k>0
  .rw[iP G];have J:=h.cutB (k:=k) λm z O T r d=>Z.C.tr z x r (Z.C.as z x (k2 m z O T)) (N r d);have U:(o.push y++b.extract (j+1) (j+1+k)).size>=o.size+1:=by rw[Array.size_append];omega
   by_cases L:j+1+k=b.size
   .rw[iP (by simpa using L)];exact wpS_pure (hd _ (.inl ⟨_,_,rfl,J.dnB (by omega)⟩))
   .rw[iN (by simpa using L)];refine UD Z h1 (by omega) J (λr d u e=>?_) (by omega) hd hy;rw[ex]at d;cases d;obtain⟨m,B,F⟩:=wR e;rw[í]at B;exact H (k+m) u (by omega) (by omega) (by rw[<-add_assoc];exact F)
  .rw[iN G];refine UD Z h1 (by omega) h (λr d u e=>?_) (by omega) hd hy;rw[ex]at d;cases d;obtain⟨m,B,F⟩:=wR e;rw[í]at B;exact H m u (by omega) (by omega) F
def UF(Z:Set2 M A E s kd D lt a b){r st:SortSt}(U:Sg r st)(hk:kindOf r=kd){i g p q:Nat}(h:I1 lt a b o i j){n:Nat}(hn:n<=o.size)
  {Q:ForInStep L7->SortSt->Prop} (hd: ∀c st,Sg r st->P7 lt a b n c->Q (.done c) st) (hy: ∀c st,Sg r st->N7 lt a b n c->Q (.yield c) st):
  wpS M A E s (Jl a b o i j g p q) Q st:=by
 obtain⟨h1,L,G⟩:=h;obtain⟨y,B⟩:=wK L;have Y:=heads Z.C.rf G.sb B;unfold Jl;refine wpS_bind (CV U λK d=>?_);have u:kindOf K=kd:=d.kind.trans hk;refine wpS_bind (yE B (wpS_bind (KF Z.C u Z.da (Z.db y (è B)) (by omega) (by omega) (UC G.sa Z.C.rf) λk k1 k2 T=>?_)));dsimp only;by_cases P:k>0
 .rw[iP P];have N:=G.cutA (k:=k) λm z W hz F e=>Z.C.tr z y F (k2 m z W hz) (Y F e);have X:(o++a.extract i (i+k)).size>=o.size:=by rw[Array.size_append];omega
  by_cases H:i+k+1=a.size
  .rw[iP (by simpa using H)];exact wpS_pure (hd _ _ d (.inl ⟨_,_,rfl,N.la H Z.lst⟩))
  .rw[iN (by simpa using H)];by_cases S:i+k=a.size
   .rw[iP (by simpa using S)];exact wpS_pure (hd _ _ d (.inl ⟨_,_,rfl,N.dnA (by omega)⟩))
   .rw[iN (by simpa using S)];refine UE Z u (by omega) L N (λF e O w=>?_) (by omega) (λc v=>hd c _ d v) (λc v=>hy c _ d v);rw[B]at e;cases e;obtain⟨m,J,I⟩:=wR w;rw[í]at J;exact Z.C.as _ _ (T (k+m) O (by omega) (by omega) (by rw[<-add_assoc];exact I))
 .rw[iN P];refine UE Z u h1 L G (λF e O w=>?_) hn (λc v=>hd c _ d v) (λc v=>hy c _ d v);rw[B]at e;cases e;obtain⟨m,J,I⟩:=wR w;rw[í]at J;exact Z.C.as _ _ (T m O (by omega) (by omega) I)
def Sq(Z:Set2 M A E s kd D lt a b){d st:SortSt}(w:Sg d st)(u:kindOf d=kd){i g p q t:Nat}(h:I1 lt a b o i j){n:Nat}(y:n<=o.size)
  {Q:L7->SortSt->Prop} (hq: ∀c st,Sg d st->P7 lt a b n c->Q c st):wpS M A E s (in2 a b t (none,o,i,j,g,p,q)) Q st:=by
 unfold in2;refine Ć (I:=λx c k=>Sg d k/\N7 lt a b n c) ?_ ?_ ⟨w,o,i,j,g,p,q,rfl,h,y⟩
 .rintro x c k _ _ ⟨e,o',G,C,z,F,B,rfl,h',r⟩;dsimp only;split
  .exact UF Z e u h' r (λc st hs m=>hq c st hs m) (λc st hs m=>⟨hs,m⟩)
  .exact UF Z e u h' r (λc st hs m=>hq c st hs m) (λc st hs m=>⟨hs,m⟩)
 .rintro c k ⟨e,v⟩;exact hq c k e (.inr v)
def Ss(Z:Set2 M A E s kd D lt a b){st:SortSt}(K:kindOf st=kd)(sa:a.toList.Pairwise (Le lt))(sb:b.toList.Pairwise (Le lt))(U:1<=a.size)(nb:1<=b.size)
  (h0: ∀x y,a.toList[0]? =some x->b.toList[0]? =some y->Le lt y x)
  {Q:V->SortSt->Prop} (hq: ∀r h,Sg st h->FinA lt a b r->Q r h):wpS M A E s (EH a b) Q st:=by
 rw[NZ];unfold mLo;refine wpS_bind (eF ?_);obtain⟨y,u⟩:=wK (v:=b) (i:=0) (by omega);obtain⟨x,ex⟩:=wK (v:=a) (i:=0) (by omega);have L:TwoA lt a b #[] 0 0:=⟨by simpa using sa,by simpa using sb,by simp⟩
 have G:=heads Z.C.rf L.sa ex;have B:TwoA lt a b #[y] 0 1:=L.pushB u λz T=>Z.C.tr y x z (h0 x y ex u) (G z T);refine wpS_bind (yE u ?_);by_cases J:1=b.size
 .rw[iP (by simpa using J)];exact wpS_pure (hq _ _ (Sg.refl st) (B.dnB (by omega)))
 .rw[iN (by simpa using J)];by_cases F:0+1=a.size
  .rw[iP (by simpa using F)];exact wpS_pure (hq _ _ (Sg.refl st) (B.la F Z.lst))
  .rw[iN (by simpa using F)];refine wpS_bind (wpS_get ?_);refine wpS_bind (wpS_mono (m:=Sn a b (a.size+b.size) (none,#[y],0,1,gallopOf st)) (Q:=λc h=>Sg st h/\ ∃r e,c=(some r,e)/\FinA lt a b r) ?_ ?_)
   .unfold Sn;refine Ć (I:=λx c h=>Sg st h/\ ∃o i j g,c=(none,o,i,j,g)/\I1 lt a b o i j/\x+1<=o.size) ?_ ?_ ⟨Sg.refl st,_,_,_,_,rfl,⟨by omega,by omega,B⟩,by simp⟩
    .rintro n c h _ _ ⟨k,o,i,j,g,rfl,w,O⟩;dsimp only;refine wpS_bind (So Z (k.kind.trans K) (by omega) w λd hd=>?_);rcases hd with⟨r,e,rfl,q⟩|⟨o',i',j',p',q',rfl,hI',hn'⟩
     .exact wpS_pure ⟨k,r,_,rfl,q⟩
     .dsimp only;refine wpS_bind (eF ?_);refine wpS_bind (Sq Z k K hI' hn' λe P p S=>?_);rcases S with⟨r,e,rfl,q⟩|⟨o2,i2,j2,g2,p2,q2,rfl,hI2,hn2⟩
      .exact wpS_pure ⟨p,r,_,rfl,q⟩
      .dsimp only;refine wpS_bind (CV p λN H=>?_);exact wpS_pure ⟨H,o2,i2,j2,_,rfl,hI2,by omega⟩
    .rintro c h ⟨k,o,i,j,g,rfl,w,O⟩;have:=w.2.2.len;omega
   .rintro c h ⟨k,r,e,rfl,q⟩;exact wpS_pure (hq r h k q)
end
end Srt
namespace Srt
open PySem PyProof.Rows
variable{o:V}{j:Nat}
abbrev H5:=Option V×Nat×Nat×V×Nat
abbrev H6:=Option V×Nat×Nat×V×Nat×Nat
abbrev H7:=Option V×Nat×Nat×V×Nat×Nat×Nat
noncomputable abbrev Fi(a b o:V)(i j:Nat):V:=a.extract 0 i++b.extract 0 j++o.reverse
noncomputable abbrev Vs(a b o:V)(i j:Nat):V:=b.extract 0 j++a.extract 0 i++o.reverse
def Su(a b:V)(g:Nat)(c:H6):SM (ForInStep H6):=
 elem' b (c.2.2.1 - 1) >>= λy=>elem' a (c.2.1 - 1) >>= λx=>lt' y x >>= λr=>match r with
  |some q=>if q=true then elem' a (c.2.1 - 1) >>= λx=>
     if(c.2.1 - 1==0)=true then pure (.done (some (Fi a b (c.2.2.2.1.push x) (c.2.1 - 1) c.2.2.1),c.2.1 - 1,c.2.2.1,c.2.2.2.1.push x,c.2.2.2.2.1+1,0))
     else if c.2.2.2.2.1+1>=g then pure (.done (none,c.2.1 - 1,c.2.2.1,c.2.2.2.1.push x,c.2.2.2.2.1+1,0))
     else pure (.yield (none,c.2.1 - 1,c.2.2.1,c.2.2.2.1.push x,c.2.2.2.2.1+1,0))
    else elem' b (c.2.2.1 - 1) >>= λy=>
     if(c.2.2.1 - 1==1)=true then pure (.done (some (Vs a b (c.2.2.2.1.push y) c.2.1 (c.2.2.1 - 1)),c.2.1,c.2.2.1 - 1,c.2.2.2.1.push y,0,c.2.2.2.2.2+1))
     else if c.2.2.2.2.2+1>=g then pure (.done (none,c.2.1,c.2.2.1 - 1,c.2.2.2.1.push y,0,c.2.2.2.2.2+1))
     else pure (.yield (none,c.2.1,c.2.2.1 - 1,c.2.2.2.1.push y,0,c.2.2.2.2.2+1))
  |_=>pure (.done (some (Fi a b c.2.2.2.1 c.2.1 c.2.2.1),c.2.1,c.2.2.1,c.2.2.2.1,c.2.2.2.2.1,c.2.2.2.2.2))
def Sv(a b:V)(t g:Nat)(c:H6):SM H6:=forIn [0:t] c λ_ c=>Su a b g c
def A9(a b o:V)(i j g p q:Nat):SM (ForInStep H7):=
 elem' a (i - 1) >>= λx=>if(i - 1==0)=true then pure (.done (some (Fi a b (o.push x) (i - 1) j),i - 1,j,o.push x,g,p,q))
  else if(decide (p<7)&&decide (q<7))=true then pure (.done (none,i - 1,j,o.push x,g,p,q))else pure (.yield (none,i - 1,j,o.push x,g,p,q))
def B3(a b o:V)(i j g p q:Nat):SM (ForInStep H7):=
 elem' b (j - 1) >>= λy=>if(j - 1==1)=true then pure (.done (some (Vs a b (o.push y) i (j - 1)),i,j - 1,o.push y,g,p,q))
  else elem' a (i - 1) >>= λx=>nE true x b 0 (j - 1) (j - 1 - 1) >>= λr=>match r with
   |some k=>if j - 1 - k>0 then
      if(k==1)=true then pure (.done (some (Vs a b (o.push y++(b.extract k (j - 1)).reverse) i k),i,k,o.push y++(b.extract k (j - 1)).reverse,g,p,j - 1 - k))
      else if(k==0)=true then pure (.done (some (Fi a b (o.push y++(b.extract k (j - 1)).reverse) i k),i,k,o.push y++(b.extract k (j - 1)).reverse,g,p,j - 1 - k))
      else A9 a b (o.push y++(b.extract k (j - 1)).reverse) i k g p (j - 1 - k)
     else A9 a b (o.push y) i (j - 1) g p (j - 1 - k)
   |_=>pure (.done (some (Fi a b (o.push y) i (j - 1)),i,j - 1,o.push y,g,p,q))
def B4(a b o:V)(i j g p q:Nat):SM (ForInStep H7):=
 wD g >>= λ_=>elem' b (j - 1) >>= λy=>nE false y a 0 i (i - 1) >>= λr=>match r with
  |some k=>if i - k>0 then
     if(k==0)=true then pure (.done (some (Fi a b (o++(a.extract k i).reverse) k j),k,j,o++(a.extract k i).reverse,g,i - k,q))
     else B3 a b (o++(a.extract k i).reverse) k j g (i - k) q
    else B3 a b o i j g (i - k) q
  |_=>pure (.done (some (Fi a b o i j),i,j,o,g,p,q))
def Sw(a b:V)(t:Nat)(c:H7):SM H7:=forIn [0:t] c λ_ c=>
 if c.2.2.2.2.1>1 then B4 a b c.2.2.2.1 c.2.1 c.2.2.1 (c.2.2.2.2.1 - 1) c.2.2.2.2.2.1 c.2.2.2.2.2.2
 else B4 a b c.2.2.2.1 c.2.1 c.2.2.1 c.2.2.2.2.1 c.2.2.2.2.2.1 c.2.2.2.2.2.2
def Sx(a b:V)(t:Nat)(c:H5):SM H5:=forIn [0:t] c λ_ c=>
 Sv a b t c.2.2.2.2 (none,c.2.1,c.2.2.1,c.2.2.2.1,0,0) >>= λd=>match d.1 with
  |some r=>pure (.done (some r,d.2.1,d.2.2.1,d.2.2.2.1,c.2.2.2.2))
  |none=>liftM (rule "list.sort.gallop") >>= λ_=>Sw a b t (none,d.2.1,d.2.2.1,d.2.2.2.1,c.2.2.2.2+1,d.2.2.2.2.1,d.2.2.2.2.2) >>= λe=>match e.1 with
   |some r=>pure (.done (some r,e.2.1,e.2.2.1,e.2.2.2.1,e.2.2.2.2.1))
   |none=>wD (e.2.2.2.2.1+1) >>= λ_=>pure (.yield (none,e.2.1,e.2.2.1,e.2.2.2.1,e.2.2.2.2.1+1))
def mHi(a b:V):SM V:=
 liftM (rule "list.sort.merge-hi") >>= λ_=>elem' a (a.size - 1) >>= λx=>if(a.size - 1==0)=true then pure (Fi a b #[x] (a.size - 1) b.size)
  else if(b.size==1)=true then pure (Vs a b #[x] (a.size - 1) b.size)
  else get >>= λst=>Sx a b (a.size+b.size) (none,a.size - 1,b.size,#[x],gallopOf st) >>= λc=>match c.1 with
   |some r=>pure r
   |none=>liftM (unsupported "internal:list.sort.merge-bound")
theorem OA(a b:V):EI a b=mHi a b:=by kernel_rfl
theorem KL(v:V)(i:Nat):(v.extract 0 i).toList=v.toList.take i:=by rw[Array.toList_extract,ĺ];rfl
def Sy(v:V)(t i:Nat):(v.extract t i).toList=(v.toList.take i).drop t:=by rw[Array.toList_extract,ĺ,drop_take]
def sR{β:Type}{l:List β}{t i:Nat}{z:β}(h:z∈(l.take i).drop t): ∃n,t<=n/\n<i/\l[n]? =some z:=by obtain⟨j,h1,a⟩:=wR h;rw[lT]at h1;rw[Ī (by omega)]at a;exact⟨t+j,by omega,by omega,a⟩
def CW{β:Type}{l:List β}{i:Nat}{x:β}(h:l[i]? =some x):l.take (i+1)=l.take i++[x]:=by obtain⟨hi,e⟩:=gS.mp h;rw[<-e];exact(List.take_append_getElem hi).symm
def OB{β:Type}{le:β->β->Prop}(rf: ∀x,le x x){l:List β}{i:Nat}{x:β}(h:(l.take (i+1)).Pairwise le)(e:l[i]? =some x): ∀z,z∈l.take (i+1)->le z x:=by
 rw[CW e]at h ⊢;intro z a;rcases é.mp a with q|q
 .exact(ê.mp h).2.2 z q x (mS.mpr rfl)
 .rw[mS.mp q];exact rf x
section
variable{M:Model}{A:ŋ}{E:VP}{s:ŉ}{kd:SortKind}{D:Keyed->Prop}{lt:Keyed->Keyed->Bool}{a b:V}
def UG{l:List Keyed}{n:Nat}(h:(l.take n).Pairwise (Le lt))(rf: ∀x,Le lt x x):SL lt l 0 n:=by
 intro p q x y h1 j b a;rw[Ă]at b a;by_cases e:p=q
 .subst e;rw[b]at a;cases a;exact rf x
 .obtain⟨k,c⟩:=gS.mp b;obtain⟨i,d⟩:=gS.mp a;have:=List.pairwise_iff_getElem.mp h p q (by rw[lT];omega) (by rw[lT];omega) (by omega);rw[getElem_take,getElem_take,c,d]at this;exact this
abbrev TwoH(lt:Keyed->Keyed->Bool)(a b o:V)(i j:Nat):Prop:=TwoR (Le lt) (a.toList++b.toList) (a.toList.take i) (b.toList.take j) o.toList.reverse
def TwoH.sa{i:Nat}(h:TwoH lt a b o i j):(a.toList.take i).Pairwise (Le lt):=(ê.mp h.hx).1
def TwoH.sb{i:Nat}(h:TwoH lt a b o i j):(b.toList.take j).Pairwise (Le lt):=(ê.mp h.hy).1
def TwoH.pushA{i:Nat}{x:Keyed}(h:TwoH lt a b o (i+1) j)(e:a.toList[i]? =some x)(d: ∀y,y∈b.toList.take j->Le lt y x):TwoH lt a b (o.push x) i j:=by
 have h':TwoR (Le lt) (a.toList++b.toList) (a.toList.take i++[x]) (b.toList.take j) o.toList.reverse:=by rw[<-CW e];exact h
 have:=h'.movexs λy k z c=>by rw[mS.mp c];exact d y k
 show TwoR _ _ _ _ (o.push x).toList.reverse;rw[Array.toList_push,List.reverse_append];exact this
def TwoH.pushB{i:Nat}{y:Keyed}(h:TwoH lt a b o i (j+1))(e:b.toList[j]? =some y)(d: ∀x,x∈a.toList.take i->Le lt x y):TwoH lt a b (o.push y) i j:=by
 have h':TwoR (Le lt) (a.toList++b.toList) (a.toList.take i) (b.toList.take j++[y]) o.toList.reverse:=by rw[<-CW e];exact h
 have:=h'.moveys λx k z c=>by rw[mS.mp c];exact d x k
 show TwoR _ _ _ _ (o.push y).toList.reverse;rw[Array.toList_push,List.reverse_append];exact this
def UH(o v:V)(t i:Nat):(o++(v.extract t i).reverse).toList.reverse=(v.toList.take i).drop t++o.toList.reverse:=by rw[ü,List.reverse_append,Array.toList_reverse,List.reverse_reverse,Sy]
def TwoH.cutA{i t:Nat}(p:t<=i)(h:TwoH lt a b o i j)(e: ∀n z,t<=n->n<i->a.toList[n]? =some z-> ∀y,y∈b.toList.take j->Le lt y z):TwoH lt a b (o++(a.extract t i).reverse) t j:=by
 have h':TwoR (Le lt) (a.toList++b.toList) (a.toList.take t++(a.toList.take i).drop t) (b.toList.take j) o.toList.reverse:=by rw[<-EL _ t i p];exact h
 have:=h'.movexs λy k z c=>by obtain⟨n,h1,d,m⟩:=sR c;exact e n z h1 d m y k
 show TwoR _ _ _ _ (o++(a.extract t i).reverse).toList.reverse;rw[UH];exact this
def TwoH.cutB{i t:Nat}(p:t<=j)(h:TwoH lt a b o i j)(e: ∀n z,t<=n->n<j->b.toList[n]? =some z-> ∀x,x∈a.toList.take i->Le lt x z):TwoH lt a b (o++(b.extract t j).reverse) i t:=by
 have h':TwoR (Le lt) (a.toList++b.toList) (a.toList.take i) (b.toList.take t++(b.toList.take j).drop t) o.toList.reverse:=by rw[<-EL _ t j p];exact h
 have:=h'.moveys λx k z c=>by obtain⟨n,h1,d,m⟩:=sR c;exact e n z h1 d m x k
 show TwoR _ _ _ _ (o++(b.extract t j).reverse).toList.reverse;rw[UH];exact this
def TwoH.dn{i:Nat}(h:TwoH lt a b o i j)(hz:i=0\/j=0):FinA lt a b (Fi a b o i j):=by
 have e:(Fi a b o i j).toList=a.toList.take i++b.toList.take j++o.toList.reverse:=by rw[ü,ü,KL,KL,Array.toList_reverse]
 unfold FinA;rw[e];refine h.fin λx c y d=>?_;rcases hz with rfl|rfl
 .cases c
 .cases d
def TwoH.fb{i:Nat}(h:TwoH lt a b o i 1)(hz: ∀x y,x∈a.toList->b.toList[0]? =some y->Le lt y x):FinA lt a b (Vs a b o i 1):=by
 have e:(Vs a b o i 1).toList=b.toList.take 1++a.toList.take i++o.toList.reverse:=by rw[ü,ü,KL,KL,Array.toList_reverse]
 unfold FinA;rw[e];refine h.swap.fin λy d x c=>?_;obtain⟨n,h1,k,j⟩:=fY d;exact hz x y (mem_of_mem_take c) (by rw[show 0=n by omega];exact j)
theorem TwoH.len{i:Nat}(h:TwoH lt a b o i j)(h1:i<=a.size)(c:j<=b.size):o.size+(i+j)=a.size+b.size:=by
 have:=h.pm.length_eq;simp only[lA,lT,List.length_reverse,í]at this
 lia
def J1(lt:Keyed->Keyed->Bool)(a b o:V)(i j:Nat):Prop:=1<=i/\i<=a.size/\2<=j/\j<=b.size/\TwoH lt a b o i j
structure Set3(M:Model)(A:ŋ)(E:VP)(s:ŉ)(kd:SortKind)(D:Keyed->Prop)(lt:Keyed->Keyed->Bool)(a b:V):Prop extends Set2 M A E s kd D lt a b where
 fst: ∀x y,x∈a.toList->b.toList[0]? =some y->Le lt y x
def R6(lt:Keyed->Keyed->Bool)(a b:V)(n:Nat)(c:H6):Prop:= ∃i j o p q,c=(none,i,j,o,p,q)/\J1 lt a b o i j/\n<=o.size
def S6(lt:Keyed->Keyed->Bool)(a b:V)(n:Nat)(c:H6):Prop:=(∃r e,c=(some r,e)/\FinA lt a b r)\/R6 lt a b n c
def R7(lt:Keyed->Keyed->Bool)(a b:V)(n:Nat)(c:H7):Prop:= ∃i j o g p q,c=(none,i,j,o,g,p,q)/\J1 lt a b o i j/\n<=o.size
def S7(lt:Keyed->Keyed->Bool)(a b:V)(n:Nat)(c:H7):Prop:=(∃r e,c=(some r,e)/\FinA lt a b r)\/R7 lt a b n c
def R6.mono{n m:Nat}{c:H6}(h:R6 lt a b n c)(e:m<=n):R6 lt a b m c:=by obtain⟨o,i,j,p,q,h1,d,k⟩:=h;exact⟨o,i,j,p,q,h1,d,by omega⟩
def S6.mono{n m:Nat}{c:H6}(h:S6 lt a b n c)(e:m<=n):S6 lt a b m c:=h.imp id λh=>h.mono e
def Jo(Z:Set3 M A E s kd D lt a b){st:SortSt}(I:kindOf st=kd){i p q g:Nat}(h:J1 lt a b o i j){Q:ForInStep H6->SortSt->Prop}
  (hd: ∀c,S6 lt a b (o.size+1) c->Q (.done c) st) (hy: ∀c,R6 lt a b (o.size+1) c->Q (.yield c) st):wpS M A E s (Su a b g (none,i,j,o,p,q)) Q st:=by
 obtain⟨h1,G,H,J,u⟩:=h;obtain⟨i,rfl⟩: ∃k,i=k+1:=⟨i - 1,by omega⟩
 obtain⟨j,rfl⟩: ∃k,j=k+1:=⟨j - 1,by omega⟩
 obtain⟨y,e⟩:=wK (v:=b) (i:=j) (by omega);obtain⟨x,ex⟩:=wK (v:=a) (i:=i) (by omega);have F:=OB Z.C.rf u.sb e;have B:=OB Z.C.rf u.sa ex;unfold Su;simp only[add_sub_cancel];refine wpS_bind (yE e (wpS_bind (yE ex (wpS_bind (Z.C.go y x (Z.db y (è e)) (Z.da x (è ex)) st I _ ?_)))))
 cases r:lt y x with
 |true=>
  have m:=u.pushA ex λz w=>Z.C.tr z y x (F z w) (Z.C.as y x r);have hs:(o.push x).size=o.size+1:=Ĝ ..;refine wpS_bind (yE ex ?_);by_cases d:i=0
  .rw[iP (by simpa using d)];exact wpS_pure (hd _ (.inl ⟨_,_,rfl,m.dn (.inl d)⟩))
  .rw[iN (by simpa using d)];have n:J1 lt a b (o.push x) i (j+1):=⟨by omega,by omega,H,J,m⟩
   split
   .exact wpS_pure (hd _ (.inr ⟨_,_,_,_,_,rfl,n,by omega⟩))
   .exact wpS_pure (hy _ ⟨_,_,_,_,_,rfl,n,by omega⟩)
 |false=>
  have m:=u.pushB e λz w=>Z.C.tr z x y (B z w) r;have hs:(o.push y).size=o.size+1:=Ĝ ..;refine wpS_bind (yE e ?_);by_cases d:j=1
  .rw[iP (by simpa using d)];subst d;exact wpS_pure (hd _ (.inl ⟨_,_,rfl,m.fb Z.fst⟩))
  .rw[iN (by simpa using d)];have n:J1 lt a b (o.push y) (i+1) j:=⟨h1,G,by omega,by omega,m⟩
   split
   .exact wpS_pure (hd _ (.inr ⟨_,_,_,_,_,rfl,n,by omega⟩))
   .exact wpS_pure (hy _ ⟨_,_,_,_,_,rfl,n,by omega⟩)
def Jp(Z:Set3 M A E s kd D lt a b){st:SortSt}(m:kindOf st=kd){i g t:Nat}(r:1<=t)(h:J1 lt a b o i j){Q:H6->SortSt->Prop}
  (hq: ∀c,S6 lt a b (o.size+1) c->Q c st):wpS M A E s (Sv a b t g (none,i,j,o,0,0)) Q st:=by
 unfold Sv;refine Ć (I:=λx c d=>d=st/\R6 lt a b (o.size+x) c) ?_ ?_ ⟨rfl,i,j,o,0,0,rfl,h,by omega⟩
 .rintro x c d _ _ ⟨rfl,u,p,o',v,n,rfl,h',q⟩;refine Jo Z m h' (λc e=>hq c (e.mono (by omega))) (λc e=>⟨rfl,e.mono (by omega)⟩)
 .rintro c d ⟨rfl,k⟩;exact hq c (.inr (k.mono (by omega)))
def Bt(Z:Set3 M A E s kd D lt a b){st:SortSt}{i g p q:Nat}(h1:i+1<=a.size)(m:2<=j)(e:j<=b.size)(r:TwoH lt a b o (i+1) j)
  (hl: ∀x,a.toList[i]? =some x-> ∀y,y∈b.toList.take j->Le lt y x) {n:Nat} (hn:n<=o.size) {Q:ForInStep H7->SortSt->Prop}
  (hd: ∀c,S7 lt a b n c->Q (.done c) st) (hy: ∀c,R7 lt a b n c->Q (.yield c) st):wpS M A E s (A9 a b o (i+1) j g p q) Q st:=by
 obtain⟨x,ex⟩:=wK (v:=a) (i:=i) (by omega);have k:=r.pushA ex (hl x ex);have hs:(o.push x).size=o.size+1:=Ĝ ..;unfold A9;simp only[add_sub_cancel];refine wpS_bind (yE ex ?_);by_cases d:i=0
 .rw[iP (by simpa using d)];exact wpS_pure (hd _ (.inl ⟨_,_,rfl,k.dn (.inl d)⟩))
 .rw[iN (by simpa using d)];have h:J1 lt a b (o.push x) i j:=⟨by omega,by omega,m,e,k⟩
  split
  .exact wpS_pure (hd _ (.inr ⟨_,_,_,_,_,_,rfl,h,by omega⟩))
  .exact wpS_pure (hy _ ⟨_,_,_,_,_,_,rfl,h,by omega⟩)
def Bu(Z:Set3 M A E s kd D lt a b){st:SortSt}(Y:kindOf st=kd){i g p q:Nat}(h1:i+1<=a.size)(h2:1<=j)(X:j+1<=b.size)(O:TwoH lt a b o (i+1) (j+1))
  (hl: ∀y,b.toList[j]? =some y-> ∀x,x∈a.toList.take (i+1)->Le lt x y) {n:Nat} (hn:n<=o.size) {Q:ForInStep H7->SortSt->Prop}
  (hd: ∀c,S7 lt a b n c->Q (.done c) st) (hy: ∀c,R7 lt a b n c->Q (.yield c) st):wpS M A E s (B3 a b o (i+1) (j+1) g p q) Q st:=by
 obtain⟨y,B⟩:=wK (v:=b) (i:=j) (by omega);obtain⟨x,ex⟩:=wK (v:=a) (i:=i) (by omega);have u:=O.pushB B (hl y B);have hs:(o.push y).size=o.size+1:=Ĝ ..;have P:=OB Z.C.rf O.sa ex;unfold B3;simp only[add_sub_cancel];refine wpS_bind (yE B ?_);by_cases F:j=1
 .rw[iP (by simpa using F)];subst F;exact wpS_pure (hd _ (.inl ⟨_,_,rfl,u.fb Z.fst⟩))
 .rw[iN (by simpa using F)];refine wpS_bind (yE ex (wpS_bind (KG Z.C Y Z.db (Z.da x (è ex)) (by omega) (by omega) (UG u.sb Z.C.rf) λk k1 k2 W=>?_)));dsimp only;have r: ∀h,h∈b.toList.take k->Le lt h x:=by intro h e;obtain⟨m,T,m2,S⟩:=fY e;exact Z.C.as _ _ (k2 m h T (by rw[Ă];exact S))
  by_cases N:j - k>0
  .rw[iP N];have J:=u.cutB k1 λm z K L hz w d=>Z.C.tr w x z (P w d) (W m z K L (by rw[Ă];exact hz));have U:(o.push y++(b.extract k j).reverse).size>=o.size+1:=by rw[Array.size_append];omega
   by_cases H:k=1
   .rw[iP (by simpa using H)];subst H;exact wpS_pure (hd _ (.inl ⟨_,_,rfl,J.fb Z.fst⟩))
   .rw[iN (by simpa using H)];by_cases G:k=0
    .rw[iP (by simpa using G)];exact wpS_pure (hd _ (.inl ⟨_,_,rfl,J.dn (.inr G)⟩))
    .rw[iN (by simpa using G)];refine Bt Z h1 (by omega) (by omega) J (λw d h e=>?_) (by omega) hd hy;rw[ex]at d;cases d;exact r h e
  .rw[iN N];have I:k=j:=by omega
   subst I;refine Bt Z h1 (by omega) (by omega) u (λw d h e=>?_) (by omega) hd hy;rw[ex]at d;cases d;exact r h e
def Bv(Z:Set3 M A E s kd D lt a b){u st:SortSt}(U:Sg u st)(hk:kindOf u=kd){i g p q:Nat}(h:J1 lt a b o i j){n:Nat}(hn:n<=o.size)
  {Q:ForInStep H7->SortSt->Prop} (hd: ∀c st,Sg u st->S7 lt a b n c->Q (.done c) st) (hy: ∀c st,Sg u st->R7 lt a b n c->Q (.yield c) st):
  wpS M A E s (B4 a b o i j g p q) Q st:=by
 obtain⟨h1,h2,h3,h4,J⟩:=h;obtain⟨j,rfl⟩: ∃k,j=k+1:=⟨j - 1,by omega⟩
 obtain⟨y,G⟩:=wK (v:=b) (i:=j) (by omega);have hb:=OB Z.C.rf J.sb G;unfold B4;simp only[add_sub_cancel];refine wpS_bind (CV U λL e=>?_);have B:kindOf L=kd:=e.kind.trans hk;refine wpS_bind (yE G (wpS_bind (KF Z.C B Z.da (Z.db y (è G)) (by omega) (by omega) (UG J.sa Z.C.rf) λk k1 k2 k3=>?_)));dsimp only;have H: ∀w,w∈a.toList.take k->Le lt w y:=by intro w r;obtain⟨m,X,m2,W⟩:=fY r;exact k2 m w X (by rw[Ă];exact W)
 by_cases S:i - k>0
 .rw[iP S];have T:=J.cutA k1 λm z O P hz I d=>Z.C.tr I y z (hb I d) (Z.C.as _ _ (k3 m z O P (by rw[Ă];exact hz)));have Y:(o++(a.extract k i).reverse).size>=o.size:=by rw[Array.size_append];omega
  by_cases K:k=0
  .rw[iP (by simpa using K)];exact wpS_pure (hd _ _ e (.inl ⟨_,_,rfl,T.dn (.inl K)⟩))
  .rw[iN (by simpa using K)];obtain⟨k,rfl⟩: ∃m,k=m+1:=⟨k - 1,by omega⟩
   refine Bu Z B (by omega) (by omega) (by omega) T (λI d w r=>?_) (by omega) (λc F=>hd c _ e F) (λc F=>hy c _ e F);rw[G]at d;cases d;exact H w r
 .rw[iN S];have N:k=i:=by omega
  subst N;obtain⟨k,rfl⟩: ∃m,k=m+1:=⟨k - 1,by omega⟩
  refine Bu Z B (by omega) (by omega) (by omega) J (λI d w r=>?_) hn (λc F=>hd c _ e F) (λc F=>hy c _ e F);rw[G]at d;cases d;exact H w r
def Jq(Z:Set3 M A E s kd D lt a b){d st:SortSt}(w:Sg d st)(u:kindOf d=kd){i g p q t:Nat}(h:J1 lt a b o i j){n:Nat}(y:n<=o.size)
  {Q:H7->SortSt->Prop} (hq: ∀c st,Sg d st->S7 lt a b n c->Q c st):wpS M A E s (Sw a b t (none,i,j,o,g,p,q)) Q st:=by
 unfold Sw;refine Ć (I:=λx c k=>Sg d k/\R7 lt a b n c) ?_ ?_ ⟨w,i,j,o,g,p,q,rfl,h,y⟩
 .rintro x c k _ _ ⟨e,G,C,o',z,F,B,rfl,h',r⟩;dsimp only;split
  .exact Bv Z e u h' r (λc st hs m=>hq c st hs m) (λc st hs m=>⟨hs,m⟩)
  .exact Bv Z e u h' r (λc st hs m=>hq c st hs m) (λc st hs m=>⟨hs,m⟩)
 .rintro c k ⟨e,v⟩;exact hq c k e (.inr v)
def Sz(Z:Set3 M A E s kd D lt a b){st:SortSt}(F:kindOf st=kd)(sa:a.toList.Pairwise (Le lt))(sb:b.toList.Pairwise (Le lt))(L:1<=a.size)(nb:1<=b.size)
  {Q:V->SortSt->Prop} (hq: ∀r h,Sg st h->FinA lt a b r->Q r h):wpS M A E s (EI a b) Q st:=by
 rw[OA];unfold mHi;refine wpS_bind (eF ?_);obtain⟨x,ex⟩:=wK (v:=a) (i:=a.size - 1) (by omega)
 have N:TwoH lt a b #[] (a.size - 1+1) b.size:=by
  rw[Nat.sub_add_cancel L];refine⟨?_,?_,?_⟩
  .rw[Ā (by simp)];simpa using sa
  .rw[Ā (by simp)];simpa using sb
  .rw[Ā (by simp),Ā (by simp)];simp
 have w:TwoH lt a b #[x] (a.size - 1) b.size:=N.pushA ex λy G=>Z.lst x y ex (mem_of_mem_take G);refine wpS_bind (yE ex ?_);by_cases z:a.size - 1=0
 .rw[iP (by simpa using z)];exact wpS_pure (hq _ _ (Sg.refl st) (w.dn (.inl z)))
 .rw[iN (by simpa using z)];by_cases B:b.size=1
  .rw[iP (by simpa using B)];rw[B]at w ⊢;exact wpS_pure (hq _ _ (Sg.refl st) (w.fb Z.fst))
  .rw[iN (by simpa using B)];refine wpS_bind (wpS_get ?_);refine wpS_bind (wpS_mono (m:=Sx a b (a.size+b.size) (none,a.size - 1,b.size,#[x],gallopOf st)) (Q:=λc h=>Sg st h/\ ∃r e,c=(some r,e)/\FinA lt a b r) ?_ ?_)
   .unfold Sx;refine Ć (I:=λx c h=>Sg st h/\ ∃i j o g,c=(none,i,j,o,g)/\J1 lt a b o i j/\x+1<=o.size) ?_ ?_ ⟨Sg.refl st,_,_,_,_,rfl,⟨by omega,by omega,by omega,by omega,w⟩,by simp⟩
    .rintro n c h _ _ ⟨k,i,j,o,g,rfl,q,H⟩;dsimp only;refine wpS_bind (Jp Z (k.kind.trans F) (by omega) q λd hd=>?_);rcases hd with⟨r,e,rfl,p⟩|⟨i',j',o',p',q',rfl,hI',hn'⟩
     .exact wpS_pure ⟨k,r,_,rfl,p⟩
     .dsimp only;refine wpS_bind (eF ?_);refine wpS_bind (Jq Z k F hI' hn' λe J u K=>?_);rcases K with⟨r,e,rfl,p⟩|⟨i2,j2,o2,g2,p2,q2,rfl,hI2,hn2⟩
      .exact wpS_pure ⟨u,r,_,rfl,p⟩
      .dsimp only;refine wpS_bind (CV u λO C=>?_);exact wpS_pure ⟨C,i2,j2,o2,_,rfl,hI2,by omega⟩
    .rintro c h ⟨k,i,j,o,g,rfl,q,H⟩;have:=q.2.2.2.2.len q.2.1 q.2.2.2.1;omega
   .rintro c h ⟨k,r,e,rfl,p⟩;exact wpS_pure (hq r h k p)
end
end Srt
namespace Srt
open PySem PyProof.Rows
variable{j m:Nat}{v:V}
abbrev C2:=Option (Option Nat)×Nat
abbrev C3:=Option (Option Nat)×Nat×Nat
noncomputable def Ta(lo a n:Nat):SM C2:=forIn [a:n] ((none,a):C2) λ_ c=>ltAt' (lo+c.2) (lo+c.2 - 1) >>= λo=>match o with
 |some q=>if q=true then pure (.done (none,c.2))else pure (.yield (none,c.2+1))
 |_=>pure (.done (some none,c.2))
def tl3(lo m n:Nat):SM (Option Nat):=reverseSlice' lo (lo+m) >>= λ_=>Ta lo m n >>= λc=>match c.1 with
 |some r=>pure r
 |none=>pure (some c.2)
noncomputable def Tb(lo a n:Nat):SM C3:=forIn [a:n] ((none,a,0):C3) λ_ c=>ltAt' (lo+c.2.1) (lo+c.2.1 - 1) >>= λo=>match o with
 |some q=>if q=true then
    if c.2.2>0 then reverseSlice' (lo+c.2.1 - (c.2.2+1)) (lo+c.2.1) >>= λ_=>pure (.yield (none,c.2.1+1,0))else pure (.yield (none,c.2.1+1,0))
   else ltAt' (lo+c.2.1 - 1) (lo+c.2.1) >>= λo=>match o with
    |some q=>if q=true then pure (.done (none,c.2.1,c.2.2))else pure (.yield (none,c.2.1+1,c.2.2+1))
    |_=>pure (.done (some none,c.2.1,c.2.2))
 |_=>pure (.done (some none,c.2.1,c.2.2))
def Tc(lo m n:Nat):SM (Option Nat):=liftM (rule "list.sort.descending-run") >>= λ_=>Tb lo (m+1) n >>= λc=>match c.1 with
 |some r=>pure r
 |none=>if c.2.2>0 then reverseSlice' (lo+c.2.1 - (c.2.2+1)) (lo+c.2.1) >>= λ_=>tl3 lo c.2.1 n else tl3 lo c.2.1 n
def Yk(lo n:Nat):SM (Option Nat):=Ta lo 1 n >>= λc=>match c.1 with
 |some r=>pure r
 |none=>if(c.2==n)=true then pure (some c.2)else if c.2>1 then ltAt' lo (lo+c.2 - 1) >>= λo=>(match o with
    |some q=>if q=true then pure (some c.2)else reverseSlice' lo (lo+c.2) >>= λ_=>Tc lo c.2 n
    |_=>pure none)
   else Tc lo c.2 n
theorem GL(lo n:Nat):countRun' lo n=Yk lo n:=by kernel_rfl
noncomputable def binI(lo k:Nat):SM (Option Bool×Nat×Nat):=forIn [0:k] ((none,0,k):Option Bool×Nat×Nat) λ_ c=>
 if c.2.1>=c.2.2 then pure (.done (none,c.2.1,c.2.2))else ltAt' (lo+k) (lo+(c.2.1+c.2.2) / 2) >>= λo=>match o with
  |some q=>if q=true then pure (.yield (none,c.2.1,(c.2.1+c.2.2) / 2))else pure (.yield (none,(c.2.1+c.2.2) / 2+1,c.2.2))
  |_=>pure (.done (some false,c.2.1,c.2.2))
def Yl(lo n ok:Nat):SM Bool:=(forIn [max ok 1:n] ((none,()):Option Bool×Unit) λk _=>binI lo k >>= λc=>match c.1 with
  |some r=>pure (.done (some r,()))
  |none=>moveDown' (lo+k) (lo+c.2.1) >>= λ_=>pure (.yield (none,()))) >>= λc=>match c.1 with
 |some r=>pure r
 |none=>pure true
theorem CI(lo n ok:Nat):binarySort' lo n ok=Yl lo n ok:=by kernel_rfl
noncomputable def Kx(d:Keyed)(v:V)(i:Nat):Keyed:=(v[i]?).getD d
def pZ{d:Keyed}{u:V}{i:Nat}(h:v[i]? =u[j]?):Kx d v i=Kx d u j:=by unfold Kx;rw[h]
def vW{d:Keyed}{i:Nat}(a:j<=v.size)(k:Nat):Kx d (mirror v i j ((j - i) / 2)) k=if i<=k/\k<j then Kx d v (i+j - 1 - k)else Kx d v k:=by
 have e:=getElem?_mirror_all (i:=i) a k;by_cases h1:i<=k/\k<j
 .rw[iP h1]at e ⊢; exact pZ e
 .rw[iN h1]at e ⊢; exact pZ e
def HY{d:Keyed}{a:Nat}(hs:a<v.size)(c:m<=a)(k:Nat):
  Kx d (bubble v a m) k=if k=a - m then Kx d v a else if a - m<k/\k<=a then Kx d v (k - 1)else Kx d v k:=by
 have e:=getElem?_bubble hs m c k;by_cases h1:k=a - m
 .rw[iP h1]at e ⊢; exact pZ e
 .rw[iN h1]at e ⊢;by_cases b:a - m<k/\k<=a
  .rw[iP b]at e ⊢; exact pZ e
  .rw[iN b]at e ⊢; exact pZ e
structure SB(a₀:V)(kd:SortKind)(pd:Array (Nat×Nat×Nat))(f:V)(lo:Nat)(st:SortSt):Prop where
 pm:(arrOf st).Perm a₀
 kind:kindOf st=kd
 fl:failedOf st=none
 pd:pendingOf st=pd
 fx: ∀i,i<lo->(arrOf st)[i]? =f[i]?
section
variable{M:Model}{A:ŋ}{E:VP}{s:ŉ}{kd:SortKind}{D:Keyed->Prop}{lt:Keyed->Keyed->Bool}{a₀ f:V}{pd:Array (Nat×Nat×Nat)}{lo:Nat}{st:SortSt}{d:Keyed}
def SB.size(h:SB a₀ kd pd f lo st):(arrOf st).size=a₀.size:=h.pm.size_eq
theorem SB.rev(h:SB a₀ kd pd f lo st){i:Nat}(hi:lo<=i)(b:j<=a₀.size):SB a₀ kd pd f lo (setArr st (mirror (arrOf st) i j ((j - i) / 2))):=
 ⟨(mirror_perm _ _ _ _).trans h.pm,h.kind,h.fl,h.pd,λk a=>by show _[k]? =_;rw[getElem?_mirror_all (by rw[h.size];exact b),iN #[0]];exact h.fx k a⟩
theorem SB.bub(h:SB a₀ kd pd f lo st){i:Nat}(hi:lo+m<=i)(b:i<a₀.size):SB a₀ kd pd f lo (setArr st (bubble (arrOf st) i m)):=
 ⟨(bubble_perm _ _ _).trans h.pm,h.kind,h.fl,h.pd,λk a=>by show _[k]? =_;rw[getElem?_bubble (by rw[h.size];exact b) _ #[0],iN #[0],iN #[0]];exact h.fx k a⟩
def uA(C:Cmp M A E s kd D lt)(h:SB a₀ kd pd f lo st)(b: ∀x,x∈a₀.toList->D x){i:Nat}(hi:i<a₀.size)(m:j<a₀.size){Q:Option Bool->SortSt->Prop}
  (hq:Q (some (lt (Kx d (arrOf st) i) (Kx d (arrOf st) j))) st):wpS M A E s (ltAt' i j) Q st:=by
 obtain⟨x,ex⟩:=wK (by rw[h.size];exact hi);obtain⟨y,a⟩:=wK (by rw[h.size];exact m);have n:=(ĵ.mp h.pm).mem_iff.mp (è ex);have e:=(ĵ.mp h.pm).mem_iff.mp (è a);have c:Kx d (arrOf st) i=x:=by unfold Kx;rw[<-ò,ex];rfl
 have k:Kx d (arrOf st) j=y:=by unfold Kx;rw[<-ò,a];rfl
 rw[c,k]at hq;refine wpS_bind (wpS_get ?_);exact wpS_bind (yE ex (wpS_bind (yE a (C.go x y (b x n) (b y e) st h.kind _ hq))))
def KM{i:Nat}{Q:Unit->SortSt->Prop}(h:Q () (setArr st (mirror (arrOf st) i j ((j - i) / 2)))):wpS M A E s (reverseSlice' i j) Q st:=by rw[reverseSlice'_eq];exact wpS_modify h
def Up(lt:Keyed->Keyed->Bool)(d:Keyed)(v:V)(lo n:Nat):Prop:= ∀i j,i<=j->j<n->Le lt (Kx d v (lo+i)) (Kx d v (lo+j))
def Dn(lt:Keyed->Keyed->Bool)(d:Keyed)(v:V)(lo n:Nat):Prop:= ∀i j,i<=j->j<n->Le lt (Kx d v (lo+j)) (Kx d v (lo+i))
theorem Up.step(C:Cmp M A E s kd D lt){x:Nat}(hs:Up lt d v lo x)(k:1<=x)(h:lt (Kx d v (lo+x)) (Kx d v (lo+x - 1))=false):Up lt d v lo (x+1):=by
 intro i j c m;by_cases a:j<x
 .exact hs i j c a
 .have e:j=x:=by lia
  subst e;by_cases b:i=j
  .subst b;exact C.rf _
  .have:=hs i (j - 1) #[0] #[0];rw[show lo+(j - 1)=lo+j - 1 by lia]at this;exact C.tr _ _ _ this h
theorem UI(C:Cmp M A E s kd D lt)(p: ∀x,x∈a₀.toList->D x)(h:SB a₀ kd pd f lo st){a n:Nat}(q:lo+n<=a₀.size)(r:1<=a)(i:a<=n)(hs:Up lt d (arrOf st) lo a){Q:C2->SortSt->Prop}
  (hq: ∀m,a<=m->m<=n->Up lt d (arrOf st) lo m->(m=n\/lt (Kx d (arrOf st) (lo+m)) (Kx d (arrOf st) (lo+m - 1))=true)->Q (none,m) st):wpS M A E s (Ta lo a n) Q st:=by
 refine Ć (I:=λx c e=>e=st/\c=(none,x)/\Up lt d _ lo x) ?_ ?_ ⟨rfl,rfl,hs⟩
 .rintro x c e j o ⟨rfl,rfl,b⟩;refine wpS_bind (uA (d:=d) C h p #[0] #[0] ?_)
  cases k:lt _ _ with
  |true=>exact wpS_pure (hq x j #[0] b (.inr k))
  |false=>exact wpS_pure ⟨rfl,rfl,b.step C #[0] k⟩
 .rintro c e ⟨rfl,rfl,b⟩;rw[show max a n=n by lia]at b ⊢;exact hq n i (à _) b (.inl rfl)
theorem Up.of_mirror(h:SB a₀ kd pd f lo st)(a:lo+m<=a₀.size)(hs:Dn lt d (arrOf st) lo m):Up lt d (mirror (arrOf st) lo (lo+m) ((lo+m - lo) / 2)) lo m:=by intro i j b c;rw[vW (by rw[h.size];exact a),vW (by rw[h.size];exact a),iP (by omega),iP #[0]];have:=hs (m - 1 - j) (m - 1 - i) (by omega) (by omega);rw[show lo+(m - 1 - j)=lo+(lo+m) - 1 - (lo+j) by omega,show lo+_=lo+(lo+m) - 1 - (lo+i) by omega]at this;exact this
theorem Bw(C:Cmp M A E s kd D lt)(i: ∀x,x∈a₀.toList->D x)(h:SB a₀ kd pd f lo st){n:Nat}(c:lo+n<=a₀.size)(h1:1<=m)(e:m<=n)(hs:Dn lt d (arrOf st) lo m){Q:Option Nat->SortSt->Prop}
  (hq: ∀m a,SB a₀ kd pd f lo a->1<=m->m<=n->Up lt d (arrOf a) lo m->Q (some m) a):wpS M A E s (tl3 lo m n) Q st:=by
 refine wpS_bind (KM ?_);have h':=h.rev (j:=lo+m) (à _) #[0];exact wpS_bind (UI C i h' c h1 e (Up.of_mirror h #[0] hs) λk k1 k2 b _=>wpS_pure (hq k _ h' #[0] k2 b))
def Ym(lt:Keyed->Keyed->Bool)(d:Keyed)(v:V)(i j:Nat):Prop:= ∀k l,i<=k->k<j->i<=l->l<j->Le lt (Kx d v k) (Kx d v l)
def Dn.mirror(C:Cmp M A E s kd D lt)(h:SB a₀ kd pd f lo st){i n:Nat}(m:j<=a₀.size)(c:Ym lt d (arrOf st) i j)(hs:Dn lt d (arrOf st) lo n):Dn lt d (mirror (arrOf st) i j ((j - i) / 2)) lo n:=by
 have a: ∀k,Le lt (Kx d (PyProof.Rows.mirror (arrOf st) i j ((j - i) / 2)) k) (Kx d (arrOf st) k)/\Le lt (Kx d (arrOf st) k) (Kx d (PyProof.Rows.mirror (arrOf st) i j ((j - i) / 2)) k):=by
  intro k;rw[vW (by rw[h.size];exact m)];split
  .exact⟨c _ _ (by omega) (by omega) (by omega) (by omega),c _ _ (by omega) (by omega) (by omega) (by omega)⟩
  .exact⟨C.rf _,C.rf _⟩
 intro p q b e;exact C.tr _ _ _ (a _).1 (C.tr _ _ _ (hs p q b e) (a _).2)
theorem Jr(C:Cmp M A E s kd D lt)(K: ∀x,x∈a₀.toList->D x)(h:SB a₀ kd pd f lo st){a n:Nat}(Y:lo+n<=a₀.size)(h1:1<=a)(B:a<=n)(hs:Dn lt d (arrOf st) lo a){Q:C3->SortSt->Prop}
  (hq: ∀m e b,SB a₀ kd pd f lo b->a<=m->m<=n->Dn lt d (arrOf b) lo m->e+1<=m->Ym lt d (arrOf b) (lo+m - (e+1)) (lo+m)->Q (none,m,e) b):wpS M A E s (Tb lo a n) Q st:=by
 unfold Tb
 refine Ć (I:=λx c b=> ∃e,c=(none,x,e)/\SB a₀ kd pd f lo b/\Dn lt d (arrOf b) lo x/\e+1<=x/\Ym lt d (arrOf b) (lo+x - (e+1)) (lo+x)) ?_ ?_
  ⟨0,rfl,h,hs,by lia,λk l h1 S U O=>by rw[show k=l by lia];exact C.rf _⟩
 .rintro x c b F T ⟨e,rfl,q,o,p,r⟩;dsimp only;have one: ∀v:V,Ym lt d v (lo+(x+1) - (0+1)) (lo+(x+1)):=λv k l h1 S U O=>by rw[show k=l by lia];exact C.rf _
  refine wpS_bind (uA (d:=d) C q K #[0] #[0] ?_)
  cases G:lt _ _ with
  |true=>
   have L:Dn lt d (arrOf b) lo (x+1):=by
    intro i j y P;by_cases u:j<x
    .exact o i j y u
    .have z:j=x:=by lia
     subst z;by_cases w:i=j
     .subst w;exact C.rf _
     .have:=o i (j - 1) #[0] #[0];rw[show lo+(j - 1)=lo+j - 1 by lia]at this;exact C.tr _ _ _ (C.as _ _ G) this
   dsimp only;rw[iP rfl];by_cases H:e>0
   .rw[iP H];refine wpS_bind (KM (wpS_pure ⟨0,rfl,q.rev #[0] #[0],L.mirror C q #[0] r,by lia,one _⟩))
   .rw[iN H];exact wpS_pure ⟨0,rfl,q,L,by lia,one _⟩
  |false=>
   dsimp only;rw[iN (by simp)];refine wpS_bind (uA (d:=d) C q K #[0] #[0] ?_)
   cases J:lt _ _ with
   |true=>exact wpS_pure (hq x e b q F #[0] o p r)
   |false=>
    refine wpS_pure ⟨_,rfl,q,λi j y P=>?_,by lia,λk l k1 k2 X W=>?_⟩
    .by_cases u:j<x
     .exact o i j y u
     .have z:j=x:=by lia
      subst z;by_cases w:i=j
      .subst w;exact C.rf _
      .have:=o i (j - 1) #[0] #[0];rw[show lo+(j - 1)=lo+j - 1 by lia]at this;exact C.tr _ _ _ J this
    .by_cases N:k=lo+x
     .subst N;by_cases cl:l=lo+x
      .subst cl;exact C.rf _
      .exact C.tr _ _ _ J (r _ _ #[0] #[0] #[0] #[0])
     .by_cases cl:l=lo+x
      .subst cl;exact C.tr _ _ _ (r k _ #[0] #[0] #[0] #[0]) G
      .exact r _ _ #[0] #[0] #[0] #[0]
 .rintro c b ⟨e,rfl,q,o,p,r⟩;rw[show max a n=n by lia]at o p r ⊢;exact hq n e b q B (à _) o p r
theorem UJ(C:Cmp M A E s kd D lt)(i: ∀x,x∈a₀.toList->D x)(h:SB a₀ kd pd f lo st){n:Nat}(c:lo+n<=a₀.size)(p:m+1<=n)(hs:Dn lt d (arrOf st) lo (m+1)){Q:Option Nat->SortSt->Prop}
  (hq: ∀m a,SB a₀ kd pd f lo a->1<=m->m<=n->Up lt d (arrOf a) lo m->Q (some m) a):wpS M A E s (Tc lo m n) Q st:=by
 refine wpS_bind (eF ?_);refine wpS_bind (Jr C i h c #[0] p hs λk e a b k1 k2 j r q=>?_);by_cases o:e>0
 .rw[iP o];exact wpS_bind (KM (Bw C i (b.rev #[0] #[0]) c #[0] k2 (j.mirror C b #[0] q) hq))
 .rw[iN o];exact Bw C i b c #[0] k2 j hq
theorem UK(C:Cmp M A E s kd D lt)(o: ∀x,x∈a₀.toList->D x)(h:SB a₀ kd pd f lo st){n:Nat}(p:lo+n<=a₀.size)(h1:1<=n){Q:Option Nat->SortSt->Prop}
  (hq: ∀m a,SB a₀ kd pd f lo a->1<=m->m<=n->Up lt d (arrOf a) lo m->Q (some m) a):wpS M A E s (countRun' lo n) Q st:=by
 rw[GL];unfold Yk;refine wpS_bind (UI (d:=d) C o h p (à 1) h1 (λi j c F=>by rw[show i=j by lia];exact C.rf _) λm y B hs q=>?_);dsimp only;by_cases r:m=n
 .rw[iP (by simpa using r)];exact wpS_pure (hq m st h y B hs)
 .rw[iN (by simpa using r)];have e:=q.resolve_left r;by_cases z:m>1
  .rw[iP z];refine wpS_bind (uA (d:=d) C h o #[0] #[0] ?_)
   cases G:lt _ _ with
   |true=>exact wpS_pure (hq m st h y B hs)
   |false=>
    have all:Ym lt d (arrOf st) lo (lo+m):=by intro k l k1 k2 J I;have w:=hs 0 (l - lo) #[0] #[0];have v:=hs (k - lo) (m - 1) #[0] #[0];rw[show lo+0=lo by lia,show lo+_=l by lia]at w;rw[show lo+(k - lo)=k by lia,show lo+(m - 1)=lo+m - 1 by lia]at v;exact C.tr _ _ _ v (C.tr _ _ _ G w)
    have dn:Dn lt d (arrOf st) lo (m+1):=by
     intro i j c F;by_cases H:j<m
     .exact all _ _ #[0] #[0] #[0] #[0]
     .have u:j=m:=by lia
      subst u;by_cases b:i=j
      .subst b;exact C.rf _
      .exact C.tr _ _ _ (C.as _ _ e) (all _ _ #[0] #[0] #[0] #[0])
    dsimp only;rw[iN (by simp)];exact wpS_bind (KM (UJ C o (h.rev (à _) #[0]) p #[0] (dn.mirror C h #[0] all) hq))
  .rw[iN z];have:m=1:=by lia
   subst this;refine UJ C o h p #[0] (λi j c F=>?_) hq;by_cases b:i=j
   .subst b;exact C.rf _
   .rw[show i=0 by lia,show j=1 by lia];exact C.as _ _ e
theorem UL(C:Cmp M A E s kd D lt)(J: ∀x,x∈a₀.toList->D x)(h:SB a₀ kd pd f lo st){n ok:Nat}(S:lo+n<=a₀.size)(N:ok<=n)(hs:Up lt d (arrOf st) lo ok){Q:Bool->SortSt->Prop}
  (hq: ∀a,SB a₀ kd pd f lo a->Up lt d (arrOf a) lo n->Q true a):wpS M A E s (binarySort' lo n ok) Q st:=by
 rw[CI];unfold Yl
 refine wpS_bind (wpS_mono (Ć (I:=λk c a=>c=(none,())/\SB a₀ kd pd f lo a/\Up lt d (arrOf a) lo (min k n))
  (Q:=λc a=>c=(none,())/\SB a₀ kd pd f lo a/\Up lt d (arrOf a) lo n) ?_ ?_ ?_) ?_)
 .rintro k c a P L ⟨rfl,p,b⟩;rw[show min k n=k by lia]at b;unfold binI
  refine wpS_bind (wpS_mono (Ć (I:=λx c e=>e=a/\ ∃l r,c=(none,l,r)/\l<=r/\r<=k/\r - l<=k - x/\
    (∀i,i<l->Le lt (Kx d (arrOf a) (lo+i)) (Kx d (arrOf a) (lo+k)))/\(∀i,r<=i->i<k->Le lt (Kx d (arrOf a) (lo+k)) (Kx d (arrOf a) (lo+i))))
   (Q:=λc e=>e=a/\ ∃l r,c=(none,l,r)/\l<=k/\
    (∀i,i<l->Le lt (Kx d (arrOf a) (lo+i)) (Kx d (arrOf a) (lo+k)))/\(∀i,l<=i->i<k->Le lt (Kx d (arrOf a) (lo+k)) (Kx d (arrOf a) (lo+i)))) ?_ ?_ ?_) ?_)
  .rintro x c e _ O ⟨rfl,l,r,rfl,y,q,F,o,m⟩;dsimp only;by_cases w:l>=r
   .rw[iP w];have:l=r:=by lia
    subst this;exact wpS_pure ⟨rfl,l,l,rfl,q,o,m⟩
   .rw[iN w];refine wpS_bind (uA (d:=d) C p J #[0] #[0] ?_)
    cases z:lt _ _ with
    |true=>exact wpS_pure ⟨rfl,l,_,rfl,by lia,by lia,by lia,o,λi h1 B=>C.tr _ _ _ (C.as _ _ z) (b _ _ h1 B)⟩
    |false=>exact wpS_pure ⟨rfl,_,r,rfl,by lia,by lia,by lia,λi h1=>C.tr _ _ _ (b i ((l+r) / 2) #[0] #[0]) z,m⟩
  .rintro c e ⟨rfl,l,r,rfl,y,q,F,o,m⟩;have:l=r:=by lia
   subst this;exact⟨rfl,l,l,rfl,q,o,m⟩
  .exact⟨rfl,0,k,rfl,by lia,by lia,by lia,λi hi=>by lia,λi h1 B=>by lia⟩
  .rintro c e ⟨rfl,l,r,rfl,G,o,m⟩;dsimp only;rw[moveDown'_eq];have u:lo+k<(arrOf e).size:=by rw[p.size];lia
   refine wpS_bind (wpS_modify (wpS_pure ⟨rfl,?_,?_⟩))
   .exact p.bub #[0] #[0]
   .rw[show min (k+1) n=k+1 by lia];intro i j v H;show Le lt _ _;rw[HY u #[0],HY u #[0],show lo+k - _=lo+l by lia];have sh: ∀i,1<=i->lo+i - 1=lo+(i - 1):=λi hi=>by lia
    repeat' split
    all_goals first
     |(exfalso;lia)
     |exact C.rf _
     |exact o _ #[0]
     |(rw[sh _ #[0]];exact m _ #[0] #[0])
     |exact m _ #[0] #[0]
     |exact b _ _ #[0] #[0]
     |(rw[sh i #[0]];exact b _ _ #[0] #[0])
     |(rw[sh j #[0]];exact b _ _ #[0] #[0])
     |(rw[sh i #[0],sh j #[0]];exact b _ _ #[0] #[0])
     |(rw[sh i #[0]];exact o _ #[0])
 .rintro c a ⟨K,p,b⟩;refine⟨K,p,?_⟩;rwa [show min _ n=n by lia]at b
 .refine⟨rfl,h,λi j v H=>?_⟩;by_cases h1:ok=0
  .rw[show i=j by lia];exact C.rf _
  .exact hs i j v #[0]
 .rintro c a ⟨rfl,p,b⟩;exact wpS_pure (hq a p b)
end
end Srt
namespace Srt
open PySem PyProof.Rows
noncomputable abbrev putAll(w:V)(p:Nat)(v:V):V:=w.toList.zipIdx.foldl (λa (x,j)=>a.setIfInBounds (p+j) x) v
def Bx(p:Nat)(w:V):SM Bool:=(modify λs=>setArr s (putAll w p (arrOf s))) >>= λ_=>get >>= λs=>pure (failedOf s).isNone
def mAt(i:Nat):SM Bool:=get >>= λst=>match (pendingOf st)[i]?,(pendingOf st)[i+1]? with
 |some (sa,na,pw),some (sb,nb,_)=>set (setPending st (((pendingOf st).setIfInBounds i (sa,na+nb,pw)).eraseIdxIfInBounds (i+1))) >>= λ_=>
  elem' (arrOf st) sb >>= λy=>nE false y (arrOf st) sa na 0 >>= λr=>(match r with
   |some k=>if(na - k==0)=true then pure true else elem' (arrOf st) (sa+k+(na - k) - 1) >>= λx=>nE true x (arrOf st) sb nb (nb - 1) >>= λr=>(match r with
    |some m=>if(m==0)=true then pure true
      else if na - k<=m then EH ((arrOf st).extract (sa+k) sb) ((arrOf st).extract sb (sb+m)) >>= λw=>Bx (sa+k) w
      else EI ((arrOf st).extract (sa+k) sb) ((arrOf st).extract sb (sb+m)) >>= λw=>Bx (sa+k) w
    |_=>pure false)
   |_=>pure false)
 |_,_=>liftM (unsupported "internal:list.sort.pending")
theorem OC(i:Nat):mergeAt' i=mAt i:=by kernel_rfl
def er2{β:Type}(x y z:β):(#[x,y].setIfInBounds 0 z).eraseIdxIfInBounds (0+1)=#[z]:=by simp[Array.eraseIdxIfInBounds]
theorem BE(p:Nat): ∀(ws:List Keyed)(k:Nat)(v:V),p+k+ws.length<=v.size->
  ((ws.zipIdx k).foldl (λa (x,j)=>a.setIfInBounds (p+j) x) v).toList=v.toList.take (p+k)++ws++v.toList.drop (p+k+ws.length)
 |[],k,v,_=>by simp
 |x::t,k,v,h=>by
  rw[zipIdx_cons,ě];have c:p+(k+1)+t.length<=(v.setIfInBounds (p+k) x).size:=by rw[Array.size_setIfInBounds];simp only[lC]at h;omega
  rw[BE p t (k+1) _ c];simp only[lC]at h ⊢;have e:(v.setIfInBounds (p+k) x).toList=v.toList.set (p+k) x:=Array.toList_setIfInBounds ..;rw[e]
  have b:(v.toList.set (p+k) x).take (p+(k+1))=v.toList.take (p+k)++[x]:=by
   rw[show p+(k+1)=p+k+1 by omega];have d:(v.toList.set (p+k) x)[p+k]? =some x:=by rw[ė];simp;omega
   rw[CW d,List.take_set_of_le (à _)]
  rw[b,List.drop_set_of_lt (by omega)];rw[show p+(k+1)+t.length=p+k+(t.length+1) by omega];simp only[aA,Į,ģ]
section
variable{M:Model}{A:ŋ}{E:VP}{s:ŉ}{kd:SortKind}{D:Keyed->Prop}{lt:Keyed->Keyed->Bool}{a₀ f:V}{pd:Array (Nat×Nat×Nat)}{lo:Nat}{st:SortSt}{d:Keyed}
def Up.sl{v:V}{n:Nat}(h:Up lt d v lo n):SL lt v.toList lo n:=by
 intro i j x y h1 b e k;have a:Kx d v (lo+i)=x:=by unfold Kx;rw[<-ò,e];rfl
 have c:Kx d v (lo+j)=y:=by unfold Kx;rw[<-ò,k];rfl
 have:=h i j h1 b;rw[a,c]at this;exact this
theorem SL.pw{l:List Keyed}{n:Nat}(h:SL lt l lo n):((l.drop lo).take n).Pairwise (Le lt):=by rw[List.pairwise_iff_getElem];intro i j hi b a;rw[lT]at hi b;rw[getElem_take,getElem_take,getElem_drop,getElem_drop];exact h i j _ _ #[0] #[0] (gE _) (gE _)
def four{β:Type}{le:β->β->Prop}{A1 A2 B1 B2 W:List β}(h:(A1++A2).Pairwise le)(e:(B1++B2).Pairwise le)(h1: ∀z,z∈A1-> ∀w,w∈B1++B2->le z w)(d: ∀z,z∈A1++A2-> ∀w,w∈B2->le z w)
  (hW:W.Pairwise le) (pW:W.Perm (A2++B1)):(A1++W++B2).Pairwise le/\(A1++W++B2).Perm (A1++(A2++(B1++B2))):=by
 have a:=ê.mp h;have b:=ê.mp e;refine⟨ê.mpr ⟨ê.mpr ⟨a.1,hW,λz c w hw=>?_⟩,b.2.1,λz c w hw=>?_⟩,?_⟩
 .rcases é.mp (pW.mem_iff.mp hw)with q|q
  .exact a.2.2 z c w q
  .exact h1 z c w (ă _ q)
 .rcases é.mp c with q|q
  .exact d z (ă _ q) w hw
  .rcases é.mp (pW.mem_iff.mp q)with r|r
   .exact d z (ó _ r) w hw
   .exact b.2.2 z r w hw
 .rw[<-aA A2 B1 B2, <-aA];exact(pW.append_left A1).append_right B2
structure Out(a₀:V)(kd:SortKind)(lt:Keyed->Keyed->Bool)(n:Nat)(st:SortSt):Prop where
 pm:(arrOf st).toList.Perm a₀.toList
 kind:kindOf st=kd
 fl:failedOf st=none
 pd: ∃w,pendingOf st=#[(0,n,w)]
 so:(arrOf st).toList.Pairwise (Le lt)
def Jt{st:SortSt}{l:List Keyed}{p n:Nat}{w:V}(h:kindOf st=kd)(c:failedOf st=none)(d: ∃w,pendingOf st=#[(0,n,w)])
  (hl:p+w.size<=(arrOf st).size) (e:(arrOf st).toList.take p++w.toList++(arrOf st).toList.drop (p+w.size)=l) (h1:l.Pairwise (Le lt)) (h2:l.Perm a₀.toList)
  {Q:Bool->SortSt->Prop} (hq: ∀a,Out a₀ kd lt n a->Q true a):wpS M A E s (Bx p w) Q st:=by
 have b:(putAll w p (arrOf st)).toList=l:=by have:=BE p w.toList 0 (arrOf st) (by simpa using hl);rw[Nat.add_zero]at this;exact this.trans (by simpa using e)
 unfold Bx;refine wpS_bind (wpS_modify (wpS_bind (wpS_get ?_)));have O:Out a₀ kd lt n (setArr st (putAll w p (arrOf st))):=⟨by show(putAll w p (arrOf st)).toList.Perm _;rw[b];exact h2,h,c,d,by show(putAll w p (arrOf st)).toList.Pairwise _;rw[b];exact h1⟩
 have:(failedOf (setArr st (putAll w p (arrOf st)))).isNone=true:=by rw[O.fl];rfl
 rw[this];exact wpS_pure (hq _ O)
def Td(C:Cmp M A E s kd D lt)(hD: ∀x,x∈a₀.toList->D x){c j pw:Nat}(h1:1<=c)(h2:1<=j)(hz:c+j=a₀.size)(h:SB a₀ kd #[(0,c,pw),(c,j,0)] f lo st)
  (hA:SL lt (arrOf st).toList 0 c) (hB:SL lt (arrOf st).toList c j) {Q:Bool->SortSt->Prop} (hq: ∀K,Out a₀ kd lt (c+j) K->Q true K):wpS M A E s (mergeAt' 0) Q st:=by
 rw[OC];unfold mAt;refine wpS_bind (wpS_get ?_);rw[h.pd];have e0:(#[(0,c,pw),(c,j,0)]:Array (Nat×Nat×Nat))[0]? =some (0,c,pw):=rfl;have e1:(#[(0,c,pw),(c,j,0)]:Array (Nat×Nat×Nat))[0+1]? =some (c,j,0):=rfl;rw[e0,e1];dsimp only;refine wpS_bind (Jh ?_);generalize u:setPending st ((#[(0,c,pw),(c,j,0)].setIfInBounds 0 (0,c+j,pw)).eraseIdxIfInBounds (0+1))=st1;have k1:kindOf st1=kd:=by rw[<-u];exact h.kind
 have f1:failedOf st1=none:=by rw[<-u];exact h.fl
 have p1: ∃w,pendingOf st1=#[(0,c+j,w)]:=by rw[<-u];exact⟨pw,er2 _ _ _⟩
 have L:arrOf st1=arrOf st:=by rw[<-u]
 have sz:(arrOf st).size=c+j:=by rw[h.size,hz]
 have B:(arrOf st).toList.Perm a₀.toList:=ĵ.mp h.pm;have n: ∀x,x∈(arrOf st).toList->D x:=λx hx=>hD x (B.mem_iff.mp hx);generalize hv:arrOf st=v at *;obtain⟨y,N⟩:=wK (v:=v) (i:=c) (by omega);obtain⟨x,ex⟩:=wK (v:=v) (i:=c - 1) (by omega);have hl:v.toList.length=c+j:=by simpa using sz
 have G:=hA.pw;have pB:=hB.pw;rw[drop_zero]at G;have tB:(v.toList.drop c).take j=v.toList.drop c:=Ā (by rw[þ];omega);rw[tB]at pB;have T:=heads C.rf pB N;have U: ∀z,z∈v.toList.take c->Le lt z x:=by have:=OB (i:=c - 1) C.rf (by rw[Nat.sub_add_cancel h1];exact G) ex;rwa [Nat.sub_add_cancel h1]at this
 refine wpS_bind (yE N (wpS_bind (KF C k1 n (n y (è N)) (by omega) (by omega) hA λk ka kb kc=>?_)));dsimp only;have g1: ∀z,z∈v.toList.take k-> ∀w,w∈v.toList.drop c->Le lt z w:=by intro z d w hw;obtain⟨i,i1,i2,i3⟩:=fY d;exact C.tr _ _ _ (kb i z i1 (by rw[Ă];exact i3)) (T w hw)
 have q:v.toList.Pairwise (Le lt)->Out a₀ kd lt (c+j) st1:=λhp=>⟨by rw[L];exact B,k1,f1,p1,by rw[L];exact hp⟩
 by_cases c1:c - k=0
 .rw[iP (by simpa using c1)];refine wpS_pure (hq _ (q ?_));have hk:k=c:=by omega
  subst hk;rw[<-Ŀ k v.toList];exact ê.mpr ⟨G,pB,g1⟩
 .rw[iN (by simpa using c1)];have Y:v.toList[0+k+(c - k) - 1]? =some x:=by rw[show 0+k+(c - k) - 1=c - 1 by omega];exact ex
  refine wpS_bind (yE Y (wpS_bind (KG C k1 n (n x (è ex)) (by omega) (by omega) hB λm ma mb mc=>?_)));dsimp only;have g2: ∀z,z∈v.toList.take c-> ∀w,w∈v.toList.drop (c+m)->Le lt z w:=by intro z d w hw;obtain⟨i,i1,i2⟩:=wR hw;exact C.tr _ _ _ (U z d) (mc (m+i) w (by omega) (by omega) (by rw[<-add_assoc];exact i2))
  by_cases X:m=0
  .rw[iP (by simpa using X)];refine wpS_pure (hq _ (q ?_));subst X;rw[<-Ŀ c v.toList];exact ê.mpr ⟨G,pB,g2⟩
  .rw[iN (by simpa using X),Ă];generalize ha:v.extract k c=a;generalize hb:v.extract c (c+m)=b;have la:a.toList=(v.toList.drop k).take (c - k):=by rw[<-ha,show c=k+(c - k) by omega,KH];congr 1;omega
   have S:b.toList=(v.toList.drop c).take m:=by rw[<-hb,KH]
   have za:a.size=c - k:=by rw[<-í,la,lT,þ];omega
   have zb:b.size=m:=by rw[<-í,S,lT,þ];omega
   have O:v.toList.take c=v.toList.take k++a.toList:=by rw[la, <-drop_take];exact EL _ _ _ (by omega)
   have P:v.toList.drop c=b.toList++v.toList.drop (c+m):=by rw[S];exact EK _ _ _
   have mA: ∀z,z∈a.toList-> ∃i,k<=i/\i<c/\v.toList[i]? =some z:=by intro z d;rw[la, <-drop_take]at d;exact sR d
   have mB: ∀z,z∈b.toList-> ∃i,i<m/\v.toList[c+i]? =some z:=by intro z d;rw[S]at d;obtain⟨i,i1,_,i2⟩:=sQ d;exact⟨i,i1,i2⟩
   have Z:Set3 M A E s kd D lt a b:={
    C:=C
    da:=λz d=>by obtain⟨i,_,_,e⟩:=mA z d;exact n z (è e)
    db:=λz d=>by obtain⟨i,_,e⟩:=mB z d;exact n z (è e)
    lst:=λJ I p o=>by rw[la,Ī (by omega),getElem?_drop,show k+(a.size - 1)=c - 1 by omega,ex]at p;cases p;obtain⟨i,i1,e⟩:=mB I o;exact C.as _ _ (mb i I i1 e)
    fst:=λJ I p o=>by rw[S,Ī (by omega),getElem?_drop,Nat.add_zero,N]at o;cases o;obtain⟨i,i1,i2,e⟩:=mA J p;exact C.as _ _ (kc i J i1 i2 (by rw[Ă];exact e))}
   have sA:a.toList.Pairwise (Le lt):=by rw[O]at G;exact(ê.mp G).2.1
   have sB:b.toList.Pairwise (Le lt):=by rw[P]at pB;exact(ê.mp pB).1
   have fin: ∀r H,Sg st1 H->FinA lt a b r->wpS M A E s (Bx k r) Q H:=by
    rintro r H ⟨g,rfl⟩ ⟨fa,fb⟩;have zr:r.size=c - k+m:=by have:=fb.length_eq;simp only[lA,í]at this;omega
    have F:=four (W:=r.toList) (A1:=v.toList.take k) (A2:=a.toList) (B1:=b.toList) (B2:=v.toList.drop (c+m)) (by rw[<-O];exact G) (by rw[<-P];exact pB)
     (λz d w hw=>g1 z d w (by rw[P];exact hw)) (λz d w hw=>g2 z (by rw[O];exact d) w hw) fa fb
    have F2:=F.2;rw[<-P, <-aA, <-O,Ŀ]at F2;refine Jt (st:=SortSt.mk' (kindOf st1) (arrOf st1) (pendingOf st1) g (failedOf st1)) (l:=v.toList.take k++r.toList++v.toList.drop (c+m)) k1 f1 p1 ?_ ?_ F.1 (F2.trans B) hq
    .show k+r.size<=(arrOf st1).size;rw[L];omega
    .show(arrOf st1).toList.take k++r.toList++(arrOf st1).toList.drop (k+r.size)=_;rw[L,zr,show k+(c - k+m)=c+m by omega]
   split
   .exact wpS_bind (Ss Z.toSet2 k1 sA sB (by omega) (by omega) (λJ I p o=>Z.fst J I (è p) o) fin)
   .exact wpS_bind (Sz Z k1 sA sB (by omega) (by omega) fin)
end
end Srt
namespace Srt
open PySem PyProof.Rows
abbrev U2:=Option Unit×Nat
abbrev U1:=Option Unit×Unit
noncomputable def psh(lo n:Nat):SM (ForInStep U2):=(modify λs=>setPending s ((pendingOf s).push (lo,n,0))) >>= λ_=>pure (.yield (none,lo+n))
def Vt(N lo n:Nat):SM (ForInStep U2):=get >>= λst=>match (pendingOf st).back? with
 |some (a,b,_)=>(forIn [0:N] ((none,()):U1) λ_ _=>get >>= λst=>(match (if(pendingOf st).size>1 then(pendingOf st)[(pendingOf st).size - 2]? else none)with
   |some (_,_,z)=>if z<=power' N (2 * a+b) (2 * a+b+b+n) N then pure (.done (none,()))else mergeAt' ((pendingOf st).size - 2) >>= λq=>if(!q)=true then pure (.done (some (),()))else pure (.yield (none,()))
   |_=>pure (.done (none,())))) >>= λc=>(match c.1 with
  |some r=>pure (.done (some r,lo))
  |none=>(modify λs=>setPending s ((pendingOf s).modify ((pendingOf s).size - 1) λ(u,v,_)=>(u,v,power' N (2 * a+b) (2 * a+b+b+n) N))) >>= λ_=>psh lo n)
 |_=>psh lo n
def runs(N r:Nat):SM U2:=forIn [0:N] ((none,0):U2) λ_ c=>if c.2>=N then pure (.done (none,c.2))else countRun' c.2 (N - c.2) >>= λo=>match o with
 |some m=>if m<r then liftM (rule "list.sort.binary-insertion") >>= λ_=>binarySort' c.2 (min (N - c.2) r) m >>= λq=>if(!q)=true then pure (.done (some (),c.2))else Vt N c.2 (min (N - c.2) r)
   else Vt N c.2 m
 |_=>pure (.done (some (),c.2))
noncomputable def Te(N:Nat):SM U1:=forIn [0:N] ((none,()):U1) λ_ _=>get >>= λst=>if(pendingOf st).size<=1 then pure (.done (none,()))else
 mergeAt' (if Option.any (λx=>decide (x<((pendingOf st)[(pendingOf st).size - 2+1]?).elim 0 λx=>x.2.1)) (if(pendingOf st).size - 2>0 then Option.map (λx=>x.2.1) (pendingOf st)[(pendingOf st).size - 2 - 1]? else none)=true
  then(pendingOf st).size - 2 - 1 else(pendingOf st).size - 2) >>= λq=>if(!q)=true then pure (.done (some (),()))else pure (.yield (none,()))
def Yn:SM Unit:=get >>= λst=>runs (arrOf st).size (minRun' (arrOf st).size (arrOf st).size 0) >>= λc=>match c.1 with
 |some r=>pure r
 |none=>Te (arrOf st).size >>= λc=>match c.1 with
  |some r=>pure r
  |none=>pure ()
theorem GM:sortRuns'=Yn:=by kernel_rfl
def XR{N:Nat}(a:2<=N)(h:N<128):1<=minRun' N N 0/\minRun' N N 0<=N/\N<=2 * minRun' N N 0:=by
 obtain⟨g,rfl⟩: ∃g,N=g+2:=⟨N - 2,by omega⟩
 have e:minRun' (g+2) (g+2) 0=if g+2<64 then g+2+0 else if(g+2) / 2<64 then(g+2) / 2+max 0 ((g+2) % 2)else minRun' g ((g+2) / 2 / 2) (max (max 0 ((g+2) % 2)) ((g+2) / 2 % 2)):=by rw[minRun'_succ,minRun'_succ]
 rw[e];split
 .omega
 .rw[iP (by omega)];omega
section
variable{M:Model}{A:ŋ}{E:VP}{s:ŉ}{kd:SortKind}{D:Keyed->Prop}{lt:Keyed->Keyed->Bool}{a₀ f:V}{pd:Array (Nat×Nat×Nat)}{lo:Nat}{st:SortSt}{d:Keyed}
def Vu(a₀:V)(kd:SortKind)(lt:Keyed->Keyed->Bool)(st:SortSt):Prop:=
 (SB a₀ kd #[(0,a₀.size,0)] a₀ 0 st/\SL lt (arrOf st).toList 0 a₀.size)\/ ∃a b pw,a+b=a₀.size/\1<=a/\1<=b/\SB a₀ kd #[(0,a,pw),(a,b,0)] a₀ 0 st/\SL lt (arrOf st).toList 0 a/\SL lt (arrOf st).toList a b
theorem SB.free{a:Array (Nat×Nat×Nat)}(h:SB a₀ kd pd f lo st)(g:V):SB a₀ kd a g 0 (setPending st a):=⟨h.pm,h.kind,h.fl,rfl,λ_ hi=>by lia⟩
def By{lo n:Nat}{Q:ForInStep U2->SortSt->Prop}(h:Q (.yield (none,lo+n)) (setPending st ((pendingOf st).push (lo,n,0)))):wpS M A E s (psh lo n) Q st:=
 wpS_bind (wpS_modify (wpS_pure h))
def Ju(C:Cmp M A E s kd D lt)(J: ∀x,x∈a₀.toList->D x)(d:Keyed)(U:2<=a₀.size){r:Nat}(Y:1<=r)(r2:r<=a₀.size)(Z:a₀.size<=2 * r)(h:SB a₀ kd #[] a₀ 0 st){Q:U2->SortSt->Prop}
  (hq: ∀a,Vu a₀ kd lt a->Q (none,a₀.size) a):wpS M A E s (runs a₀.size r) Q st:=by
 unfold runs;refine Ć (I:=λx c a=>(x=0/\c=(none,0)/\SB a₀ kd #[] a₀ 0 a)\/(x=1/\ ∃n,c=(none,n)/\r<=n/\n<a₀.size/\SB a₀ kd #[(0,n,0)] a₀ 0 a/\SL lt (arrOf a).toList 0 n)\/(1<=x/\c=(none,a₀.size)/\Vu a₀ kd lt a)) ?_ ?_ (.inl ⟨rfl,rfl,h⟩)
 .rintro x c a _ F (⟨rfl,rfl,B⟩|⟨rfl,n,rfl,n1,n2,B,hs⟩|⟨X,rfl,P⟩)
  .dsimp only;rw[iN (by omega)]
   have G: ∀m k,SB a₀ kd #[] a₀ 0 k->r<=m->m<=a₀.size->Up lt d (arrOf k) 0 m-> ∀R:ForInStep U2->SortSt->Prop,(∀K a,((0+1=0/\K=(none,0)/\SB a₀ kd #[] a₀ 0 a)\/(0+1=1/\ ∃n,K=(none,n)/\r<=n/\n<a₀.size/\SB a₀ kd #[(0,n,0)] a₀ 0 a/\SL lt (arrOf a).toList 0 n)\/(1<=0+1/\K=(none,a₀.size)/\Vu a₀ kd lt a))->R (.yield K) a)->wpS M A E s (Vt a₀.size 0 m) R k:=by
    intro m k b w H p R L;unfold Vt;refine wpS_bind (wpS_get ?_);have S:(pendingOf k).back? =none:=by rw[b.pd];rfl
    rw[S];dsimp only;refine By ?_;have e:(pendingOf k).push (0,m,0)=#[(0,m,0)]:=by rw[b.pd];rfl
    rw[e,Ă];by_cases u:m=a₀.size
    .subst u;exact L _ _ (.inr (.inr ⟨by omega,rfl,.inl ⟨b.free a₀,p.sl⟩⟩))
    .exact L _ _ (.inr (.inl ⟨rfl,m,rfl,w,by omega,b.free a₀,p.sl⟩))
   refine wpS_bind (UK (d:=d) C J B (by omega) (by omega) λm k b w H p=>?_);dsimp only;by_cases u:m<r
   .rw[iP u];refine wpS_bind (eF ?_);refine wpS_bind (UL C J b (by omega) (by omega) p λo z v=>?_);rw[iN (by simp)];exact G _ o z (by omega) (by omega) v _ λ_ _ q=>q
   .rw[iN u];exact G m k b (by omega) (by omega) p _ λ_ _ q=>q
  .dsimp only;rw[iN (by omega)];have T:SB a₀ kd #[(0,n,0)] (arrOf a) n a:=⟨B.pm,B.kind,B.fl,B.pd,λ_ _=>rfl⟩
   have G: ∀k,SB a₀ kd #[(0,n,0)] (arrOf a) n k->Up lt d (arrOf k) n (a₀.size - n)-> ∀R:ForInStep U2->SortSt->Prop,(∀a,Vu a₀ kd lt a->R (.yield (none,a₀.size)) a)->wpS M A E s (Vt a₀.size n (a₀.size - n)) R k:=by
    intro k b p R L;have O:SL lt (arrOf k).toList 0 n:=by intro i j x y h1 U F N;rw[Ă]at F N;rw[ò,b.fx i (by omega), <-ò]at F;rw[ò,b.fx j (by omega), <-ò]at N;exact hs i j x y h1 U (by rw[Ă];exact F) (by rw[Ă];exact N)
    unfold Vt;refine wpS_bind (wpS_get ?_);have S:(pendingOf k).back? =some (0,n,0):=by rw[b.pd];rfl
    rw[S];dsimp only;refine wpS_bind (wpS_mono (Ć (I:=λ_ c o=>c=(none,())/\o=k) (Q:=λc o=>c=(none,())/\o=k) ?_ (λ_ _ W=>W) ⟨rfl,rfl⟩) ?_)
    .rintro x c o _ _ ⟨rfl,rfl⟩;refine wpS_bind (wpS_get ?_);rw[iN (by rw[b.pd];simp)];exact wpS_pure ⟨rfl,rfl⟩
    .rintro c o ⟨rfl,rfl⟩;dsimp only;refine wpS_bind (wpS_modify ?_);refine By ?_;rw[show n+(a₀.size - n)=a₀.size by omega];refine L _ (.inr ⟨n,a₀.size - n,power' a₀.size (2 * 0+n) (2 * 0+n+n+(a₀.size - n)) a₀.size,by omega,by omega,by omega,?_,O,p.sl⟩);refine⟨b.pm,b.kind,b.fl,?_,λ_ hi=>by omega⟩;show((pendingOf o).modify _ _).push _=_;rw[b.pd];rfl
   refine wpS_bind (UK (d:=d) C J T (by omega) (by omega) λm k b w H p=>?_);dsimp only;by_cases u:m<r
   .rw[iP u];refine wpS_bind (eF ?_);rw[show min (a₀.size - n) r=a₀.size - n by omega];refine wpS_bind (UL C J b (by omega) (by omega) p λo z v=>?_);rw[iN (by simp)];exact G o z v _ λ_ q=>.inr (.inr ⟨by omega,rfl,q⟩)
   .rw[iN u];have:m=a₀.size - n:=by omega
    subst this;exact G k b p _ λ_ q=>.inr (.inr ⟨by omega,rfl,q⟩)
  .dsimp only;rw[iP (à _)];exact wpS_pure (hq a P)
 .rintro c a (⟨F,_⟩|⟨F,_⟩|⟨_,rfl,P⟩)
  .omega
  .omega
  .exact hq a P
def B5(a₀:V)(lt:Keyed->Keyed->Bool)(st:SortSt):Prop:=(arrOf st).toList.Perm a₀.toList/\failedOf st=none/\(arrOf st).toList.Pairwise (Le lt)
def Jv(C:Cmp M A E s kd D lt)(k: ∀x,x∈a₀.toList->D x)(m:2<=a₀.size)(h:Vu a₀ kd lt st){Q:U1->SortSt->Prop}(b: ∀a,B5 a₀ lt a->Q (none,()) a):wpS M A E s (Te a₀.size) Q st:=by
 unfold Te;refine Ć (I:=λx c a=>c=(none,())/\((x=0/\Vu a₀ kd lt a)\/(1<=x/\B5 a₀ lt a/\(pendingOf a).size<=1))) ?_ ?_ ⟨rfl,.inl ⟨rfl,h⟩⟩
 .rintro x c a _ _ ⟨rfl,⟨rfl,i⟩|⟨_,hd,j⟩⟩
  .refine wpS_bind (wpS_get ?_);rcases i with⟨hB,hs⟩|⟨n1,n2,pw,hz,g1,g2,hB,sa,sb⟩
   .rw[iP (by rw[hB.pd];simp)];refine wpS_pure (b a ⟨ĵ.mp hB.pm,hB.fl,?_⟩);have:=hs.pw;rwa [drop_zero,Ā (by rw[í,hB.size];omega)]at this
   .rw[iN (by rw[hB.pd];simp)]
    have e:(if Option.any (λx=>decide (x<((pendingOf a)[(pendingOf a).size - 2+1]?).elim 0 λx=>x.2.1)) (if(pendingOf a).size - 2>0 then Option.map (λx=>x.2.1) (pendingOf a)[(pendingOf a).size - 2 - 1]? else none)=true
      then(pendingOf a).size - 2 - 1 else(pendingOf a).size - 2)=0:=by rw[hB.pd];rfl
    rw[e];refine wpS_bind (Td C k g1 g2 hz hB sa sb λd O=>?_);rw[iN (by simp)];refine wpS_pure ⟨rfl,.inr ⟨by omega,⟨O.pm,O.fl,O.so⟩,?_⟩⟩;obtain⟨w,hw⟩:=O.pd;rw[hw];simp
  .refine wpS_bind (wpS_get ?_);rw[iP j];exact wpS_pure (b a hd)
 .rintro c a ⟨rfl,⟨n,_⟩|⟨_,hd,_⟩⟩
  .omega
  .exact b a hd
def OE(C:Cmp M A E s kd D lt)(h: ∀x,x∈(arrOf st).toList->D x)(d:Keyed)(c:2<=(arrOf st).size)(b:(arrOf st).size<128)(j:kindOf st=kd)(n:pendingOf st=#[])(m:failedOf st=none)
  {Q:Unit->SortSt->Prop} (hq: ∀a,B5 (arrOf st) lt a->Q () a):wpS M A E s sortRuns' Q st:=by
 rw[GM];unfold Yn;refine wpS_bind (wpS_get ?_);obtain⟨q,p,k⟩:=XR c b;refine wpS_bind (Ju C h d c q p k ⟨Array.Perm.refl _,j,m,n,λ_ hi=>by omega⟩ λo i=>?_);dsimp only;refine wpS_bind (Jv C h c i λe hd=>?_);exact wpS_pure (hq e hd)
end
end Srt
namespace Srt
open PySem PyProof.Rows
abbrev Rn:=Nat×Nat×Nat
def RunsOk(lt:Keyed->Keyed->Bool)(l:List Keyed):Nat->List Rn->Nat->Prop
 |p,[],q=>p=q
 |p,r::rs,q=>r.1=p/\1<=r.2.1/\SL lt l p r.2.1/\RunsOk lt l (p+r.2.1) rs q
section
variable{lt:Keyed->Keyed->Bool}{l:List Keyed}
theorem RunsOk.le: ∀{rs:List Rn}{p q:Nat},RunsOk lt l p rs q->p+rs.length<=q
 |[],p,q,h=>by cases h;exact à _
 |r::rs,p,q,h=>by
  have:=RunsOk.le h.2.2.2;have:=h.2.1;rw[lC]
  lia
end
section
variable{kd:SortKind}{lt:Keyed->Keyed->Bool}{a₀:V}{st:SortSt}
structure ST(a₀:V)(kd:SortKind)(lt:Keyed->Keyed->Bool)(rs:List Rn)(q:Nat)(st:SortSt):Prop where
 pm:(arrOf st).toList.Perm a₀.toList
 kind:kindOf st=kd
 fl:failedOf st=none
 pd:pendingOf st=rs.toArray
 ok:RunsOk lt (arrOf st).toList 0 rs q
 le:q<=a₀.size
def ST.size{rs:List Rn}{q:Nat}(h:ST a₀ kd lt rs q st):(arrOf st).size=a₀.size:=by have:=h.pm.length_eq;simpa using this
end
end Srt
namespace Srt
open PySem PyProof.Rows
noncomputable def kStep(a f:Addr)(its:B0)(ks x:Ŋ):Sem (ForInStep PUnit):=(call (.ref f) [x]).attempt >>= λr=>match r with
 |.ok k=>Builtin.List.listUpdate ks (λv=>v.push k) >>= λ_=>pure (.yield ⟨⟩)
 |.error e=>do
  rule "list.sort.key-raised"
  let m <-Builtin.List.listItems ks
  Builtin.List.listUpdate ks λ_=>#[]
  letGo m.toList.reverse [e]
  Builtin.List.listUpdate (.ref a) λ_=>its
  let _:PUnit <-throw e
  pure (.yield ⟨⟩)
section
variable{prog:Ō}{w:World}{A:ŋ}{E:VP}{s:ŉ}
structure Kd(prog:Ō)(w:World)(A:ŋ)(E:VP)(a KS:Addr)(e1:Nat)(vs:A0)(P:PySem.Fin->ŉ->Prop)(s2:ŉ):Prop where
 go: ∃(keys:A0)(n:Nat)(kd:SortKind)(D:Keyed->Prop)(lt:Keyed->Keyed->Bool),s2.heap.get? a=some (seqObj "list" #[] e1)/\s2.heap.get? KS=some (seqObj "list" keys.toArray n)/\keys.length=vs.length/\
  (2<=vs.length->wpAny (model prog w) A (keyKind' keys.toArray) (λk s'=>s'=s2/\k=kd) E s2/\Cmp (model prog w) A E s2 kd D lt/\ ∀p,p∈keys.zip vs->D p)/\
  ∀out:List Keyed,out.Perm (keys.zip vs)->out.Pairwise (Le lt)->P (.done (.ret .none)) {s2 with heap:=(s2.heap.update KS (Obj.mapSeq λ_=>#[])).update a (Obj.mapSeq λ_=>(out.map (·.2)).toArray)}
def sort_keyed{a f:Addr}{vs:A0}{n0:Nat}{P:PySem.Fin->ŉ->Prop}(ho:s.heap.get? a=some (seqObj "list" vs.toArray n0))(O:vs.length<128)
  (hk: ∀v,(s.heap.update a (Obj.mapSeq λ_=>#[])).get? a=some (seqObj "list" #[] v)->wpAny (model prog w) A (forIn vs PUnit.unit λx _=>kStep a f vs.toArray (.ref (↑0+1)) x)
   (λ_ z=>a≠↑0+1->Kd prog w A E a (↑0+1) v vs P z) E {s with heap:=((s.heap.update a (Obj.mapSeq λ_=>#[])).push (seqObj "tuple" vs.toArray 0)).push (seqObj "list" #[] 0)}):
  wpAny (model prog w) A (Builtin.«list.sort» ⟨[.ref a],[("key",.ref f)]⟩) P E s:=by
 unfold Builtin.«list.sort»;dsimp only;rw[iN (by simp),iN (by simp)];have v:List.lookup (Str.ofString "key") [(Str.ofString "key",Value.ref f)]=some (.ref f):=by simp[List.lookup]
 have e2:List.lookup (Str.ofString "reverse") [(Str.ofString "key",Value.ref f)]=none:=by
  have:(Str.ofString "reverse"==Str.ofString "key")=false:=by decide+kernel
  simp[List.lookup,this]
 rw[forIn_cons,v,e2];refine wB (wB ?_);dsimp only;rw[iN (by simp)];refine wP ?_;dsimp only;rw[forIn_nil];refine wP ?_;refine wB (wP ?_);have I:a<s.heap.objs.size:=â ho;refine wB (listItems_at ho rfl ?_);refine wB (listUpdate_at ho rfl ?_);obtain⟨q,M⟩: ∃q,(s.heap.update a (Obj.mapSeq λ_=>#[])).get? a=some (seqObj "list" #[] q):=⟨_,get?_update_seq ho (λ_=>#[])⟩
 dsimp only;refine wB (seqEpoch_at M rfl ?_);refine wB (wpAny_newTuple ?_);refine wB (wpAny_newList ?_);refine ù ?_;rw[iP (by rfl)];refine wB (ĕ ?_);have G:((s.heap.update a (Obj.mapSeq λ_=>#[])).push (seqObj "tuple" vs.toArray 0)).objs.size=↑0+1:=by rw[size_push',Heap.size_update]
 dsimp only;rw[G,forIn_toArray];refine wB (û (hk q M) (λu z Z=>?_) λ_ _ e=>e);obtain⟨b,n,kd,D,lt,g1,g2,o,S,T⟩:=(Z (ë (Nat.lt_succ_of_lt I))).go;have B:a≠↑0+1:=ë (Nat.lt_succ_of_lt I);rw[iP (by rfl)];refine wB (listItems_at g2 rfl ?_);rw[iN (by simp)]
 have fin: ∀st:SortSt,failedOf st=none->(arrOf st).toList.Perm (b.zip vs)->(arrOf st).toList.Pairwise (Le lt)->
   wpAny (model prog w) A (do
    Builtin.List.listUpdate (.ref (↑0+1)) λ_=>#[]
    letGo ((arrOf st).map (·.1)).toList (failedOf st).toList
    let e <-seqEpoch a
    Builtin.List.listUpdate (.ref a) λ_=>(arrOf st).map (·.2)
    if(e !=q)=true then rule "list.sort.modified" >>= λ_=>raiseErrorWords "ValueError" "list modified during sort" >>= λ(_:Unit)=>ret .none else ret .none) P E z:=by
  intro st hf j hs;refine wB (listUpdate_at g2 rfl ?_ (by rw[sA0,o];have:=Ĕ;omega));refine wB (wpAny_letGo ?_);have i:(z.heap.update (↑0+1) (Obj.mapSeq λ_=>#[])).get? a=some (seqObj "list" #[] q):=by rw[ý _ _ (Ne.symm B)];exact g1
  refine wB (seqEpoch_at i rfl ?_);have m:((arrOf st).map (·.2)).size<=sizeLine+1:=by rw[Array.size_map, <-í,j.length_eq,Ļ,o];have:=Ĕ;omega
  refine wB (listUpdate_at i rfl ?_ (hsz2:=m));rw[iN (by simp)];have U:(arrOf st).map (·.2)=((arrOf st).toList.map (·.2)).toArray:=by rw[<-Array.toList_map]
  rw[U];exact wP (T _ j hs)
 by_cases c:vs.toArray.size<2
 .rw[iP c,iP c];refine wB (wP ?_);rw[StateT.run_pure];refine wB (wP ?_);rw[iP (by rfl)];have hz:(b.zip vs).length<=1:=by rw[Ļ,o];simp at c;omega
  refine fin (SortSt.mk' general' (b.toArray.zip vs.toArray) #[] 7 none) rfl ?_ ?_
  .show(b.toArray.zip vs.toArray).toList.Perm _;simp
  .show(b.toArray.zip vs.toArray).toList.Pairwise _;have:(b.toArray.zip vs.toArray).toList=b.zip vs:=by simp
   rw[this]
   match b.zip vs,hz with
   |[],_=>exact .nil
   |[x],_=>exact List.pairwise_singleton _ _
   |x::y::r,h=>simp at h
 .rw[iN c,iN c];obtain⟨k1,k2,Y⟩:=S (by simp at c;omega);refine wB (û k1 (λk s' C=>?_) λ_ _ e=>e);obtain⟨rfl,rfl⟩:=C;have H:(arrOf (SortSt.mk' k (b.toArray.zip vs.toArray) #[] 7 none)).toList=b.zip vs:=by show(b.toArray.zip vs.toArray).toList=_;simp
  have L:(arrOf (SortSt.mk' k (b.toArray.zip vs.toArray) #[] 7 none)).size=vs.length:=by rw[<-í,H,Ļ,o,Nat.min_self]
  refine wB (û (OE (st:=SortSt.mk' k (b.toArray.zip vs.toArray) #[] 7 none) k2 (λp j=>Y p (by rw[H]at j;exact j)) (.none,.none) (by rw[L];simp at c;omega) (by rw[L];exact O) rfl rfl rfl
   (Q:=λ_ d=>B5 (arrOf (SortSt.mk' k (b.toArray.zip vs.toArray) #[] 7 none)) lt d) λd h=>h) (λr s3 X=>?_) λ_ _ e=>e)
  obtain⟨⟨⟩,d⟩:=r;obtain⟨rfl,W,K,N⟩:=X;dsimp only;rw[iP (by rfl)];have F:=fin d K (by rw[<-H];exact W) N;have J:failedOf d=none:=K;unfold failedOf at J;simp only[failedOf]at F;rw[J]at F ⊢;exact F
end
end Srt
namespace Srt
open PySem PyProof.Rows
section
variable{A:ŋ}{E:VP}{s:ŉ}
def Jw{α β:Type}{f:α->Sem β}{g:α->β}{M:Model}(l:List α)(h: ∀x,x∈l->wpAny M A (f x) (λr s'=>s'=s/\r=g x) E s):wpAny M A (l.mapM f) (λr s'=>s'=s/\r=l.map g) E s:=by
 induction l with
 |nil=>rw[List.mapM_nil];exact wP ⟨rfl,rfl⟩
 |cons x l ih=>
  rw[List.mapM_cons];refine wB (û (h x mF0) (λr s' a=>?_) λ_ _ e=>e);rw[a.1,a.2];refine wB (û (ih λy b=>h y (mO _ b)) (λr s' a=>?_) λ_ _ e=>e);rw[a.1,a.2];exact wP ⟨rfl,rfl⟩
def wp_mapMA{α β:Type}{f:α->Sem β}{g:α->β}{M:Model}{l:List α}(h: ∀x,x∈l->wpAny M A (f x) (λr s'=>s'=s/\r=g x) E s):wpAny M A (l.toArray.mapM f) (λr s'=>s'=s/\r=(l.map g).toArray) E s:=by rw[List.mapM_toArray];show wpAny M A _ _ E s;refine wB (û (Jw l h) (λr s' a=>?_) λ_ _ e=>e);obtain⟨rfl,rfl⟩:=a;exact wP ⟨rfl,rfl⟩
def TupAt(h:Heap)(a:Addr)(its:A0):Prop:= ∃o n,h.get? a=some o/\o.cls=.type "tuple"/\o.data=.seq its.toArray n
theorem firstOfTuple'_eq(v:Ŋ):firstOfTuple' v=(do
  if(<-typeOf v) !=.type "tuple" then return none
  return (<-Builtin.List.listItems v)[0]?):=rfl
def OG{M:Model}{a:Addr}{its:A0}(h:TupAt s.heap a its):wpAny M A (firstOfTuple' (.ref a)) (λr s'=>s'=s/\r=its[0]?) E s:=by obtain⟨o,n,h1,b,c⟩:=h;refine wB (ĝ ⟨o,h1,b⟩ ?_);refine wB (listItems_at h1 c ?_);exact wP ⟨rfl,by simp⟩
def EN{M:Model}{l:A0}(d:l≠[])(h: ∀x,x∈l-> ∃a its,x=.ref a/\TupAt s.heap a its):wpAny M A (oneTypeOnly' l.toArray) (λr s'=>s'=s/\r=some (.type "tuple")) E s:=by
 rw[oneTypeOnly'_eq];refine wB (û (wp_mapMA (g:=λ_=>Value.type "tuple") λx k=>?_) (λr s' j=>?_) λ_ _ e=>e)
 .obtain⟨a,its,rfl,o,n,h1,c,m⟩:=h x k;exact ĝ (T:="tuple") ⟨o,h1,c⟩ ⟨rfl,rfl⟩
 .obtain⟨rfl,rfl⟩:=j
  match l,d with
  |x::l,_=>
   have i:(List.map (λ_=>Value.type "tuple") (x::l)).toArray[0]? =some (Value.type "tuple"):=by simp
   have b:((List.map (λ_=>Value.type "tuple") (x::l)).toArray.all λx=>x==Value.type "tuple")=true:=by simp only[all_toArray,all_map,ą];intro _ _;rfl
   rw[i];dsimp only;rw[b];exact wP ⟨rfl,rfl⟩
def wp_kindT{M:Model}{c:A0}(p:c≠[])(h: ∀x,x∈c-> ∃a its b r d,x=.ref a/\TupAt s.heap a its/\its=.ref b::r/\TupAt s.heap b d):
  wpAny M A (keyKind' c.toArray) (λk s'=>s'=s/\k=tuples' false) E s:=by
 rw[keyKind'_eq]
 have m: ∀x, ∃y:Option Ŋ,x∈c->(∃b d,y=some (.ref b)/\TupAt s.heap b d)/\ ∀M:Model,wpAny M A (firstOfTuple' x) (λr s'=>s'=s/\r=y) E s:=by
  intro x;by_cases i:x∈c
  .obtain⟨a,its,b,r,d,rfl,h1,rfl,n⟩:=h x i;exact⟨some (.ref b),λ_=>⟨⟨b,d,rfl,n⟩,λM=>OG h1⟩⟩
  .exact⟨none,λz=>absurd z i⟩
 let g:=λx=>Classical.choose (m x);have gs: ∀x,x∈c->(∃b d,g x=some (.ref b)/\TupAt s.heap b d)/\ ∀M:Model,wpAny M A (firstOfTuple' x) (λr s'=>s'=s/\r=g x) E s:=λx i=>ā (m x) i;refine wB (û (wp_mapMA (g:=g) λx i=>(gs x i).2 M) (λr s' j=>?_) λ_ _ e=>e);obtain⟨rfl,rfl⟩:=j;rw[iP (by simp only[all_toArray,all_map,ą];intro x i;obtain⟨⟨b,d,e,_⟩,_⟩:=gs x i;show(g x).isSome=true;rw[e];rfl)];refine wB (ĕ ?_);have ef:(c.map g).toArray.filterMap id=((c.map g).filterMap id).toArray:=by simp
 rw[ef];refine wB (û (EN (l:=(c.map g).filterMap id) ?_ ?_) (λr s' j=>?_) λ_ _ e=>e)
 .match c,p,gs with
  |x::l,_,gs=>
   obtain⟨⟨b,d,e,_⟩,_⟩:=gs x mF0;rw[å,e];simp
 .intro x i;obtain⟨y,q,e⟩:=mem_filterMap.mp i;obtain⟨z,v,u⟩:=mM.mp q;obtain⟨⟨b,d,o,t⟩,_⟩:=gs z v;have:some x=some (Value.ref b):=by rw[<-o,u];exact e.symm
  cases this;exact⟨b,d,rfl,t⟩
 .obtain⟨rfl,rfl⟩:=j;refine wP ⟨rfl,?_⟩;have:((some (Value.type "tuple")).any λx=>x !=Value.type "tuple")=false:=by rfl
  rw[this]
def wp_kindE{M:Model}{b:A0}(d:b≠[])(h: ∀x,x∈b-> ∃a,x=.ref a/\TupAt s.heap a []):
  wpAny M A (keyKind' b.toArray) (λk s'=>s'=s/\k=oneType') E s:=by
 rw[keyKind'_eq];refine wB (û (wp_mapMA (g:=λ_=>(none:Option Ŋ)) λx i=>?_) (λr s' c=>?_) λ_ _ e=>e)
 .obtain⟨a,rfl,t⟩:=h x i;exact OG t
 .obtain⟨rfl,rfl⟩:=c
  match b,d,h with
  |x::l,d,h=>
   rw[iN (by simp),iN (by simp)];refine wB (û (EN d λx i=>let ⟨a,e,t⟩:=h x i;⟨a,[],e,t⟩) (λr s' c=>?_) λ_ _ e=>e);obtain⟨rfl,rfl⟩:=c;exact wP ⟨rfl,rfl⟩
end
end Srt
namespace Srt
open PySem PyProof.Rows
inductive LexS(A:ŋ)(s:ŉ):List Ŋ->List Ŋ->Bool->Prop
 |nn:LexS A s [] [] false
 |nc (x xs):LexS A s [] (x::xs) true
 |cn (y ys):LexS A s (y::ys) [] false
 |eq {y x ys xs k}:SeqAt.EqAt A s y x true->LexS A s ys xs k->LexS A s (y::ys) (x::xs) k
 |ne {y x ys xs k}:SeqAt.EqAt A s y x false->(∀(prog:Ō)(w:World)(E Q:VP),Q (.bool k) s->wpAny (model prog w) A (richCompare .Lt y x) Q E s)->LexS A s (y::ys) (x::xs) k
section
variable{prog:Ō}{w:World}{A:ŋ}{E:VP}{s:ŉ}
theorem Tf(c:Bool)(x y:Ŋ):keyLt' (tuples' c) x y=(Builtin.List.listItems x >>= λxs=>Builtin.List.listItems y >>= λys=>
  (forIn (xs.toList.zip ys.toList).zipIdx ((none,()):Option Bool×Unit) λz _=>eqBool z.1.1 z.1.2 >>= λe=>if(!e)=true then oneLt' (c&&z.2==0) z.1.1 z.1.2 >>= λr=>pure (.done (some r,()))else pure (.yield (none,()))) >>= λr=>
  match r.1 with
  |some r=>pure r
  |none=>pure (decide (xs.size<ys.size))):=by kernel_rfl
theorem Tg(x y:Ŋ):oneLt' false x y=richCompare .Lt x y >>= λv=>truthOfDropped v:=by rw[oneLt'_eq];rfl
def RP{b:Bool}{Q:Bool->ŉ->Prop}(h:Q b s):wpAny (model prog w) A (truthOfDropped (.bool b)) Q E s:=Ķ h
def Jx{m n:Nat}{k:Bool}(vs ws:A0)(i:Nat)(a:LexS A s vs ws k):vs.length+n=ws.length+m->
   wpAny (model prog w) A (forIn ((vs.zip ws).zipIdx i) ((none,()):Option Bool×Unit) λz _=>eqBool z.1.1 z.1.2 >>= λe=>if(!e)=true then oneLt' (false&&z.2==0) z.1.1 z.1.2 >>= λr=>pure (.done (some r,()))else pure (.yield (none,())))
    (λr s'=>s'=s/\(r=(some k,())\/(r=(none,())/\k=decide (m<n)))) E s:=by
 induction a generalizing i with
 |nn=>intro h;rw[zip_nil_left,zipIdx_nil,forIn_nil];exact wP ⟨rfl,.inr ⟨rfl,(dF0 (by simp at h;omega)).symm⟩⟩
 |nc x xs=>intro h;rw[zip_nil_left,zipIdx_nil,forIn_nil];exact wP ⟨rfl,.inr ⟨rfl,(dT0 (by simp at h;omega)).symm⟩⟩
 |cn y ys=>intro h;rw[List.zip_nil_right,zipIdx_nil,forIn_nil];exact wP ⟨rfl,.inr ⟨rfl,(dF0 (by simp at h;omega)).symm⟩⟩
 |eq he hr ih=>
  intro h;rw[Ĩ,zipIdx_cons,forIn_cons];refine wB (wB (he prog w E _ ?_));rw[iN (by simp)];exact wP (ih (i+1) (by simpa using(by simp at h;omega)))
 |ne he hr=>
  intro h;rw[Ĩ,zipIdx_cons,forIn_cons];refine wB (wB (he prog w E _ ?_));rw[iP (by simp)];simp only[Bool.false_and];rw[Tg];refine wB (wB (hr prog w E _ (RP ?_)));exact wP (wP ⟨rfl,.inl rfl⟩)
def wp_keyLtT{l b:Addr}{its a:A0}{k:Bool}{Q:Bool->ŉ->Prop}(j:TupAt s.heap l its)(i:TupAt s.heap b a)(u:LexS A s its a k)(c:Q k s):
  wpAny (model prog w) A (keyLt' (tuples' false) (.ref l) (.ref b)) Q E s:=by
 obtain⟨B,y,p,_,d⟩:=j;obtain⟨v,z,q,_,o⟩:=i;rw[Tf];refine wB (listItems_at p d (wB (listItems_at q o ?_)));simp only[sA0];refine wB (û (Jx its a 0 u (m:=its.length) (n:=a.length) (by omega)) (λr s' h=>?_) λ_ _ e=>e);obtain⟨rfl,rfl|⟨rfl,e⟩⟩:=h
 .exact wP c
 .dsimp only;rw[<-e];exact wP c
def wp_lt{kd:SortKind}{x y:Keyed}{k:Bool}{st:SortSt}(b:kindOf st=kd)(h: ∀(E:VP)(Q:Bool->ŉ->Prop),Q k s->wpAny (model prog w) A (keyLt' kd x.1 y.1) Q E s){Q:Option Bool->SortSt->Prop}(a:Q (some k) st):
  wpS (model prog w) A E s (lt' x y) Q st:=by
 rw[lt'_eq];refine wpS_bind (wpS_get ?_);rw[b];refine wpS_bind (wpS_lift (Ĉ (h _ _ ⟨rfl,?_⟩)));exact wpS_pure a
end
end Srt
namespace L2
namespace M
open PySem PySem.Spec PyProof.Rows
variable{kvs:List (Key×V)}
mutual
def gM:MV->Bool
 |.int _=>true
 |.str _=>true
 |.tup ds=>uB ds
 |_=>false
def uB:List MV->Bool
 |[]=>true
 |d::ds=>gM d&&uB ds
end
def HZ{α β:Type}{g:α->β}{p m:List β}(h:p.Perm m): ∀l:List α,l.map g=p-> ∃c:List α,c.Perm l/\c.map g=m:=by
 induction h with
 |nil=>intro l e;exact⟨l,.refl _,e⟩
 |cons x _ ih=>
  intro l e
  cases l with
  |nil=>cases e
  |cons a l=>
   injection e with e1 e2
   obtain⟨c,k,d⟩:=ih l e2;exact⟨_,k.cons a,by rw[å,e1,d]⟩
 |swap x y t=>
  intro l e
  match l,e with
  |a::b::l,e=>
   injection e with e1 e2
   injection e2 with e2 e3
   exact⟨_,.swap _ _ _,by rw[å,å,e1,e2,e3]⟩
 |trans _ _ ih1 ih2=>
  intro l e;obtain⟨l1,p1,j⟩:=ih1 l e;obtain⟨l2,p2,i⟩:=ih2 l1 j;exact⟨l2,p2.trans p1,i⟩
section
variable{X:Cx}{α:B6}{S:Sto}{H:Hp}{pins:C0}{σ:St}{s:ŉ}
mutual
theorem UM(I:↑1): ∀{d b:MV}{v:V},gM d=true->gM b=true->Den X.K α H d v->Den X.K α H b v->d=b
 |.int i,b,v,_,h',q,q'=>by
  cases xI q
  cases b with
  |int j=>cases xI q';rfl
  |str x=>cases xK q'
  |tup ds=>obtain⟨a,vs,e,_⟩:=yO q';cases e
  |_=>simp[gM]at h'
 |.str x,b,v,_,h',q,q'=>by
  have e:=xK q
  cases b with
  |int j=>rw[xI q']at e;cases e
  |str y=>rw[xK q']at e;injection e with e;rw[tH e]
  |tup ds=>obtain⟨a,vs,c,_⟩:=yO q';rw[c]at e;cases e
  |_=>simp[gM]at h'
 |.tup ds,b,v,h,h',q,q'=>by
  obtain⟨a,vs,e,t,l⟩:=yO q
  cases b with
  |int j=>rw[xI q']at e;cases e
  |str y=>rw[xK q']at e;cases e
  |tup es=>
   obtain⟨n,k,c,t',m⟩:=yO q';rw[e]at c;cases c;have:=I.tuple_inj t t';subst this;rw[EO I (by unfold gM at h;exact h) (by unfold gM at h';exact h') l m]
  |_=>simp[gM]at h'
theorem EO(I:↑1): ∀{ds es:C8}{vs:List V},uB ds=true->uB es=true->DenL X.K α H ds vs->DenL X.K α H es vs->ds=es
 |[],[],_,_,_,_,_=>rfl
 |[],e::es,_,_,_,q,q'=>by obtain⟨v,r,e,_⟩:=q'.uncons;rw[q.isnil]at e;cases e
 |d::ds,[],_,_,_,q,q'=>by obtain⟨v,r,e,_⟩:=q.uncons;rw[q'.isnil]at e;cases e
 |d::ds,e::es,_,h,h',q,q'=>by obtain⟨v,r,rfl,a,l⟩:=q.uncons;obtain⟨k,j,i,c,b⟩:=q'.uncons;cases i;unfold uB at h h';rw[aE]at h h';rw[UM I h.1 h'.1 a c,EO I h.2 h'.2 l b]
end
def Yo{A:ŋ}{xs ys:A0}{k:Bool}(h:LexR A s xs ys k):Srt.LexS A s xs ys k:=by
 induction h with
 |nn=>exact .nn
 |nc x xs=>exact .nc x xs
 |cn x xs=>exact .cn x xs
 |eq a _ ih=>exact .eq a ih
 |ne a b=>exact .ne a b
inductive KindD:Bool->MV->Prop
 |t (es r):KindD true (.tup (.tup es::r))
 |e:KindD false (.tup [])
abbrev Bz(b:Bool):SortKind:=if b=true then tuples' false else oneType'
def sS(I:↑1){ds:C8}{x:V}{u:Ŋ}(d:Den X.K α H (.tup ds) x)(r:RelV x u): ∃a vs its,u=.ref a/\DenL X.K α H ds vs/\Vals vs its/\Srt.TupAt s.heap a its/\IsTup s.heap a its.toArray:=by obtain⟨a,vs,rfl,t,l⟩:=yO d;cases r;obtain⟨its,e,pt,_⟩:=I.tuple t;obtain⟨o,h1,b,n,c⟩:=id pt;exact⟨a,vs,its,rfl,l,e,⟨o,n,h1,b,c⟩,pt⟩
def Jy(I:↑1)(Z:Wd X.g α S H){A:ŋ}(hu:A.units+64<cLine){b:Bool}{d f:MV}{x y:V}{u v:Ŋ}{k:Bool}(kd:KindD b d)(T:KindD b f)(h1:Den X.K α H d x)(h2:Den X.K α H f y)(rx:RelV x u)(Y:RelV y v)
  (h:BD S zH d f=some k) (prog:Ō) (w:World) (E:VP) (Q:Bool->ŉ->Prop) (hq:Q k s):wpAny (model prog w) A (keyLt' (Bz b) u v) Q E s:=by
 cases kd with
 |t es r=>
  cases T with
  |t es' r'=>
   obtain⟨U,q,i,rfl,l1,C,t1,_⟩:=sS I h1 rx;obtain⟨N,L,j,rfl,l2,M,O,_⟩:=sS I h2 Y;have h':vO (eqv S 39) (BD S 39) (.tup es::r) (.tup es'::r')=some k:=h
   refine Srt.wp_keyLtT t1 O (Yo (TJ (λd f x y u v k a b c B e=>vN I Z 39 A d f x y u v k (by omega) a b c B e)
    (λd f x y u v k a b c B e=>JS I Z 39 A d f x y u v k (by omega) a b c B e) l1 l2 C M h')) hq
 |e=>
  cases T;obtain⟨U,q,i,rfl,l1,C,t1,p1⟩:=sS I h1 rx;obtain⟨N,L,j,rfl,l2,M,O,p2⟩:=sS I h2 Y;cases l1.isnil;cases l2.isnil;cases C;cases M;have hk:k=false:=by have h':(some false:Option Bool)=some k:=h;cases h';rfl
  subst hk;show wpAny (model prog w) A (keyLt' oneType' _ _) Q E s;rw[keyLt'_oneType,oneLt'_eq];simp only[if_true];obtain⟨⟨aa,dd,W,sl⟩,z,hc,n,hd⟩:=id p1;obtain⟨⟨P,D,J,p⟩,G,o,n2,m⟩:=id p2;simp only at hc hd o m;subst hc hd o m;refine wB (wpAny_cRoomFor (by omega) ?_);refine wB (wpAny_callSpecialIfBound?_slot ⟨_,z,rfl⟩ PySem.F.slot_tuple_lt (Ĺ PySem.F.slot_tuple_lt ⟨_,z,rfl⟩ PySem.F.entry_tuple_lt (PySem.F.args_tuple_lt_2 _ _) (EB U N _ _ n n2 dd D sl p false) ⟨z,G,.nn,?_⟩));exact Ķ hq
end
structure OrdD(S:Sto)(ks:C8):Prop where
 any: ∀a,a∈ks-> ∀b,b∈ks-> ∃t,BD S zH a b=some t
 tr: ∀a,a∈ks-> ∀b,b∈ks-> ∀c,c∈ks->BD S zH b a=some false->BD S zH c b=some false->BD S zH c a=some false
 as: ∀a,a∈ks-> ∀b,b∈ks->BD S zH a b=some true->BD S zH b a=some false
theorem KN(a f:Ŋ):argsOk "sorted" ⟨[a],[("key",f)]⟩:=by unfold argsOk;kernel_rfl
theorem RQ(a f:Ŋ):argsOk "list.sort" ⟨[a],[("key",f)]⟩:=by unfold argsOk;kernel_rfl
section
variable{X:Cx}{α:B6}{S:Sto}{H:Hp}{pins:C0}{σ:St}{s:ŉ}{k:Nat}{fa:Addr}{fd:FuncData}{ps:B7}
def Jz{sp:Sp}{Q:VK}{us:A0}{vs:List V}{c:VP}(F:FnOk X.prog X.w X.K X.mg X.base DP k fa fd ps sp)(j:Room (k+2) X.A)(d:Binds X.K fd ps [])
  (I:↑1) (r:Vals vs us) (h:sp vs H Q E0):wpAny (model X.prog X.w) X.A.in1.in1 (call (.ref fa) us) (EP X pins σ Q) c s:=by
 have i:(us++[]).length=ps.length:=by rw[aN, <-r.length];exact F.len _ _ _ _ h
 have b:=d s us I.kIn i;rw[aN]at b;refine wpAny_call (codeAny_mono (F.run X.A.in1.in1 X.stack s H ⟨us,[]⟩ us vs Q E0 j.in1.in1 I.env0.in1.in1 b r h) λr s' a=>?_)
 cases r with
 |error e=>exact False.elim a
 |ok fl=>
  cases fl with
  |ret u=>exact I.after a
  |next=>exact False.elim a
  |brk=>exact False.elim a
  |cont=>exact False.elim a
def Th{g:Gm}{α α':B6}{S:Sto}{H H':Hp}(w:Wd g α S H)(x:Ext α H α' H')(b:Wd g α' S H'):α'=α:=by obtain⟨t,e⟩:=x.pre;have h1:=w.len;have a:=b.len;rw[e,lA]at a;have:t=[]:=Ń.mp (by omega);rw[e,this,aN]
end
section
variable{X:Cx}{α:B6}{H:Hp}{pins:C0}{σ:St}{s:ŉ}{ps:B7}
def XS{e:Addr}{ys:List V}{its:A0}{n:Nat}(J:↑1)(f:pH X pins H e)(w:X.s₀.heap.objs.size<=e)(k:s.heap.get? e=some (seqObj "list" its.toArray n))(A:Vals ys its)(hz:ys.length<=sizeLine):Inv X pins σ (xR H e (.lst ys)) s:=by
 have v: ∀o,X.s₀.heap.get? e≠some o:=λo z=>absurd (ç (â z) w) (ı _);refine⟨J.ok,J.os,J.bare,⟨J.base.keep,J.base.slot,λb a q n y=>?_,J.base.there,λb xs q=>?_,λb o' u q=>?_,λb ps q=>?_⟩,J.loc,J.cell,?_,λx c d=>?_,λp h=>?_,λb u q=>?_,J.len⟩
 .rw[zG λz=>v a (by rw[<-z];exact q)];exact J.base.free b a q n y
 .rw[zG (zO (J.base.tups b xs q) f.1)];exact J.base.tups b xs q
 .rw[zG (zO (J.base.frzs b o' u q) f.1)];exact J.base.frzs b o' u q
 .obtain⟨j,z⟩:=J.base.tbls b ps q;exact⟨j,by rw[zG (zO z f.1)];exact z⟩
 .rw[zG (Ne.symm f.2.1)];exact J.free
 .rw[zG (f.2.2.2.2.1 x c d)];exact J.freeC x c d
 .obtain⟨m,n,ne,nf,i⟩:=J.pin p h;exact⟨m,by rw[zG (f.2.2.2.2.2 p h)];exact n,ne,nf,i⟩
 .by_cases z:b=e
  .subst z;rw[zS]at q;cases q;exact⟨hz,its,n,A,k⟩
  .rw[zG z]at q;exact(J.hok b u q).stay (λ_ _ _ r=>r) (λc r=>by rw[zG (zO r f.1)];exact r) λc xs r=>by rw[zG (zO r f.1)];exact r
def Ti(I:↑1){A:ŋ}{kds:C8}{kvs:List V}{ks:A0}(m:kds≠[]){b:Bool}(c: ∀d,d∈kds->KindD b d)(y:DenL X.K α H kds kvs)(k:Vals kvs ks){F:VP}:
  wpAny (model X.prog X.w) A (keyKind' ks.toArray) (λq s'=>s'=s/\q=Bz b) F s:=by
 have ne:ks≠[]:=λz=>by have h1:=k.length;have n:=y.length;rw[z]at h1;exact m (Ń.mp (by rw[<-n,h1];rfl))
 have all: ∀u,u∈ks-> ∃d v,d∈kds/\Den X.K α H d v/\RelV v u:=by
  intro u h;obtain⟨i,hi⟩:=getElem?_of_mem h;have p:i<kvs.length:=by rw[k.length];exact(gS.mp hi).1
  obtain⟨J,h1,r⟩:=k.get (gE p);rw[hi]at h1;cases h1;obtain⟨d,n,E⟩:=y.get (gE p);exact⟨d,_,è n,E,r⟩
 cases b with
 |true=>
  refine Srt.wp_kindT ne λu h=>?_;obtain⟨d,v,md,j,r⟩:=all u h
  cases c d md with
  |t es rr=>
   obtain⟨a,vs,its,rfl,l,o,t,_⟩:=sS I j r;obtain⟨L,G,rfl,D,_⟩:=l.uncons
   cases o with
   |@cons _ u1 _ us1 rv rr'=>
    obtain⟨B,_,e,rfl,_,_,C,_⟩:=sS I D rv;exact⟨a,_,B,us1,e,rfl,t,rfl,C⟩
 |false=>
  refine Srt.wp_kindE ne λu h=>?_;obtain⟨d,v,md,j,r⟩:=all u h;cases c d md;obtain⟨a,vs,its,rfl,l,o,t,_⟩:=sS I j r;cases l.isnil;cases o;exact⟨a,rfl,t⟩
end
theorem XT{ks its:A0}{N:Nat}(h1:ks.length=N)(a:its.length=N):(List.range N).map (λi=>((ks[i]?).getD .none,(its[i]?).getD .none))=ks.zip its:=by
 apply ext_getElem?;intro i;rw[ö];by_cases hi:i<N
 .have e:(ks.zip its)[i]? =some (ks[i]'#[0],its[i]'#[0]):=by rw[List.getElem?_zip_eq_some];exact⟨gE _,gE _⟩
  rw[List.getElem?_range hi,e];show some ((ks[i]?).getD .none,(its[i]?).getD .none)=_;rw[gE #[0],gE #[0]];rfl
 .rw[getElem?_eq_none (by rw[Ē];lia),getElem?_eq_none (by rw[Ļ];lia)];rfl
theorem EQ{β:Type}{l:List β}{d:β}{idx:Db}(h: ∀i,i∈idx->i<l.length):idx.map (λi=>(l[i]?).getD d)=idx.filterMap (l[·]?):=by
 induction idx with
 |nil=>rfl
 |cons i idx ih=>
  have hi:=h i mF0;rw[å,Ł (gE hi),ih λj a=>h j (mO _ a),gE hi];rfl
def UN(S:Sto)(ds kds r:C8):Prop:= ∃idx:List Nat,idx.Perm (List.range ds.length)/\idx.Pairwise (λi j=> ∀a c,kds[i]? =some a->kds[j]? =some c->BD S zH c a=some false)/\r=idx.filterMap (ds[·]?)
open Classical in
open Classical in
def XU:bootBuiltins "sorted"=some (.builtin "sorted"):=by decide+kernel
section
variable{X:Cx}{W:XW}{tg iter a:Expr}{f:AX}{af:Rho->Sto->R (List Er)}{e:Expr}{es:C5}{pos apos:Pos}
def Itq(K:C6)(k:Bool)(a:Addr):It:=if k=true then Zx K a else Zy K a
def iSeq(K:C6)(tl:TE):TI:=λσ H R=>tl σ H λx H1=> ∃k a,x=.ref a/\(∃xs,FY k K H1 a xs)/\R (Itq K k a) H1
def Tj{l:Expr}{tl:TE}(j:PE X l tl):PI X tg l (iSeq X.K tl):=by
 intro pins s σ H R I h;refine jB (j pins s σ H _ I h) λv c ⟨x,H1,I1,u,m⟩=>?_;obtain⟨k,a,e,⟨xs,i⟩,q⟩:=m;subst e;cases u
 cases k with
 |true=>
  obtain⟨its,n,p,r⟩:=I1.list (show SqL X.K H1 a xs from i);refine wpAny_pyIter_list p.isList ?_;refine⟨c.heap.objs.size,[c.heap.objs.size],_,_,H1,rfl,I1.kept (t':=c.toks) λb o e=>hP0 _ e,GX a _,⟨_,ã _ rfl,rfl,rfl⟩,λb d=>?_,q⟩;have e:b=c.heap.objs.size:=by simpa using d
  subst e;exact I1.fpOk (à _) (I1.hok.fresh (à _))
 |false=>
  obtain⟨its,n,p,r⟩:=I1.tuple (show SqT X.K H1 a xs from i);refine wpAny_pyIter_tuple (show c.heap.IsTuple a its.toArray from p) ?_;refine⟨c.heap.objs.size,[c.heap.objs.size],_,_,H1,rfl,I1.kept (t':=c.toks) λb o e=>hP0 _ e,DL a _,⟨_,ã _ rfl,rfl,rfl⟩,λb d=>?_,q⟩;have e:b=c.heap.objs.size:=by simpa using d
  subst e;exact I1.fpOk (à _) (I1.hok.fresh (à _))
def itQ(r:Er)(S:Sto):R Wk:=match srcOf S r with
 |some q=>.ok ⟨q.ds,q.gs⟩ S
 |none=>.no
def Tl(r:zN X W iter f):HL X W tg iter (λρ S=>(f ρ S).bind itQ):=by
 obtain⟨t,r,k⟩:=r;refine⟨_,Tj r,λα ρ S σ H N F sl q=>k α ρ S σ H _ F sl (q.bind λu p S1 n H1 e L v E c=>?_)⟩
 replace c:=c.shift L
 unfold itQ at c;split at c
 .rename_i q I;obtain⟨l1,M,rfl,p1,h⟩:=vS v I E.1;have J:=h.get _ _ _ p1;refine⟨q.k,l1,rfl,⟨_,J.choose_spec.1⟩,c.here (u:=Itq X.K q.k l1) v ⟨λα S H=>M α S H,?_,p1,λn S1 H1 b S2 m d x w hs=>h.stays _ _ _ _ _ _ d x w hs,h.st _ _ _ p1⟩⟩;intro i b S2 m d B;obtain⟨us,z,A⟩:=h.get _ _ _ d;obtain⟨D,C,O⟩:=q
  cases D with
  |true=>
   obtain⟨i1,i2⟩:=tM (X:=X) (a:=l1) (ds:=C) i b S2 m ⟨us,z,A⟩ B;refine⟨λhi=>⟨(i1 hi).1,λx H' y=>?_⟩,i2⟩;obtain⟨o,j,G,s⟩:=(i1 hi).2 x H' y;obtain⟨rfl,_⟩:=y;exact⟨o,j,d,s⟩
  |false=>
   obtain⟨i1,i2⟩:=TD (X:=X) (a:=l1) (ds:=C) i b S2 m ⟨us,z,A⟩ B;refine⟨λhi=>⟨(i1 hi).1,λx H' y=>?_⟩,i2⟩;obtain⟨o,j,G,s⟩:=(i1 hi).2 x H' y;obtain⟨rfl,_⟩:=y;exact⟨o,j,d,s⟩
 .exact c.elim
theorem DenL.eraseIdx{K:C6}{α:B6}{H:Hp}: ∀{ds:C8}{vs:List V}(n:Nat),DenL K α H ds vs->DenL K α H (ds.eraseIdx n) (vs.eraseIdx n)
 |[],_,_,q=>by rw[q.isnil];exact zW
 |d::ds,_,0,q=>by obtain⟨v,r,rfl,_,l⟩:=q.uncons;exact l
 |d::ds,_,n+1,q=>by obtain⟨v,r,rfl,a,l⟩:=q.uncons;exact zQ a (DenL.eraseIdx n l)
def XX(p:Er)(rs:List Er)(S:Sto):R Er:=match p,rs with
 |.val (.loc l),[.val (.int i)]=>match S[l]? with
  |some (.lst ds)=>if -(2 ^ 63)<=i/\i<2 ^ 63 then match JD ds.length i with
   |some j=>match ds[j]? with
    |some d=>.ok (.val d) (S.set l (.lst (ds.eraseIdx j)))
    |none=>.no
   |none=>.no
   else .no
  |_=>.no
 |_,_=>.no
def To:NG X W ZY XX:=by
 intro p rs x vs α S H0 H Q D c C n u b;unfold XX at b;split at b
 .rename_i l i;obtain⟨a,rfl,h⟩:=aU n;obtain⟨v,rfl,w⟩:=HM u;cases yP w;obtain⟨s,h1,B⟩:=c.of h;rw[h1]at b
  cases s with
  |lst ds=>
   obtain⟨us,k,l1⟩:=B;dsimp only at b;split at b
   .rename_i m;split at b
    .rename_i j r;split at b
     .rename_i d A;obtain⟨y,q,z⟩:=l1.at A;have e:=c.writex h (Fc k) (o:=.lst (us.eraseIdx j));refine⟨a,us,i,j,y,rfl,rfl,k,m.1,m.2,by rw[l1.length];exact(JE r).1,q,?_⟩;exact(b.shift (C.trans e)).val (c.write h (Fc k) ⟨_,zS,(l1.eraseIdx j).ext e⟩) (z.ext e)
     .exact b.elim
    .exact b.elim
   .exact b.elim
  |dic _=>exact b.elim
  |ins _ _=>exact b.elim
  |rcd _ _=>exact b.elim
  |fdc _=>exact b.elim
 .exact b.elim
def Tp(ho:zN X W a f)(b:CN X W (e::es) af)
  (hbase:attributeBase a "pop" X.env (eval a X.env)=eval a X.env:=by rfl)
  (hfew:((backTo pos (starEach (e::es) X.env)).all (λx=>!x.1)&&(backToKw pos (keywordEach [] X.env)).all (λx=>x.1.isSome)
   &&decide ((e::es).length+([]:List Keyword).length+(if([]:List Keyword).isEmpty then 0 else 1)<30))=true:=by rfl)
  (hline:(apos.endLine==pos.line)=true:=by rfl) (hs:q9 X e es:=by rfl) (hplain:Q0 X pos es:=by rfl):
  zN X W (.Call (.Attribute a "pop" apos) (e::es) [] pos) (λρ S=>(f ρ S).bind λp S1=>if xZ p S1=true then(af ρ S1).bind λrs S2=>XX p rs S2 else .no):=
 JP PySem.F.plainAttrs_list PySem.F.slot_list_pop PySem.F.type_list_pop ZZ To RF ho b hbase hfew hline hs hplain
end
section
variable{X:Cx}{W:XW}{a b o i:Expr}{pins:C0}{σ:St}{H:Hp}{s:ŉ}{α:B6}
noncomputable def qA(kvs:List (Key×V))(k:Key)(v:V):List (Key×V):=if(kvs.any λa=>decide (a.1=k))=true then kvs.map (λa=>if a.1=k then(a.1,v)else a)else kvs++[(k,v)]
def uC(kvs:List (Key×V))(k:Key)(v:V):(qA kvs k v).length<=kvs.length+1:=by
 unfold qA;split
 .rw[lM];exact le_succ _
 .rw[lA];exact à _
def Tq{vs:List (Key×Ŋ)}(r:KV kvs vs)(k:Key):(kvs.any λa=>decide (a.1=k))=vs.any λa=>decide (a.1=k):=by
 induction r with
 |nil=>rfl
 |cons h t ih=>rw[List.any_cons,List.any_cons,ih,h.1]
def Ka{vs:List (Key×Ŋ)}(r:KV kvs vs)(k:Key){y:V}{u:Ŋ}(b:RelV y u):KV (kvs.map λa=>if a.1=k then(a.1,y)else a) (vs.map λa=>if a.1=k then(a.1,u)else a):=by
 induction r with
 |nil=>exact .nil
 |@cons p q ps qs h t ih=>
  rw[å,å];refine .cons ?_ ih;by_cases e:p.1=k
  .rw[iP e,iP (h.1.symm.trans e)];exact⟨h.1,b⟩
  .rw[iN e,iN λz=>e (h.1.trans z)];exact h
def Kb{vs:List (Key×Ŋ)}(r:KV kvs vs){p:Key×V}{q:Key×Ŋ}(h:p.1=q.1/\RelV p.2 q.2):KV (kvs++[p]) (vs++[q]):=by
 induction r with
 |nil=>exact .cons h .nil
 |cons h' t ih=>exact .cons h' ih
def RR{vs:List (Key×Ŋ)}(r:KV kvs vs)(k:Key){y:V}{u:Ŋ}(a:RelV y u):KV (qA kvs k y) (stored vs k u):=by
 unfold qA stored;rw[Tq r k];by_cases e:(vs.any λb=>decide (b.1=k))=true
 .rw[iP e,iP e];exact Ka r k a
 .rw[iN e,iN e];exact Kb r ⟨rfl,a⟩
def KO{k:MV}{a b:Key}(h:KeyD k a)(h':KeyD k b):a=b:=by
 cases k with
 |int i=>exact Eq.trans h h'.symm
 |str x=>exact Eq.trans h h'.symm
 |_=>exact False.elim h
def ER{k k':MV}{a:Key}(h:KeyD k a)(h':KeyD k' a):k=k':=by
 cases k with
 |int i=>
  have e:=h;subst e
  cases k' with
  |int j=>have b:(Sum.inl i:Key)=.inl j:=h';cases b;rfl
  |str y=>have b:(Sum.inl i:Key)=.inr _:=h';cases b
  |_=>exact False.elim h'
 |str x=>
  have e:a=.inr _:=h;subst e
  cases k' with
  |int j=>have b:(Sum.inr _:Key)=.inl j:=h';cases b
  |str y=>
   have b:(Sum.inr _:Key)=.inr _:=h';injection b with b
   rw[tH b]
  |_=>exact False.elim h'
 |_=>exact False.elim h
theorem OH: ∀{kvs:E3}{ks:List (Key×V)}{k:MV}{k':Key},DenK X.K α H kvs ks->KeyD k k'->(ks.any λb=>decide (b.1=k'))=(look kvs k).isSome
 |_,_,k,k',.nil,hk=>rfl
 |_,_,k,k',.cons (k:=c) (k':=c') hc a l,hk=>by
  rw[yT,List.any_cons];by_cases h:c=k
  .subst h;rw[iP rfl,dT0 (KO hc hk)];rfl
  .have d: ¬c'=k':=λz=>h (ER hc (z.symm▸hk));rw[iN h,dF0 d];exact OH l hk
theorem ES: ∀{kvs:E3}{ks:List (Key×V)}{k d:MV}{k':Key}{v:V},DenK X.K α H kvs ks->KeyD k k'->Den X.K α H d v->DenK X.K α H (kvs.map λp=>if p.1=k then(p.1,d)else p) (ks.map λb=>if b.1=k' then(b.1,v)else b)
 |_,_,k,d,k',v,.nil,hk,hd=>.nil
 |_,_,k,d,k',v,.cons (k:=c) (k':=c') hc a l,hk,hd=>by
  rw[å,å];by_cases h:c=k
  .subst h;rw[iP rfl,iP (KO hc hk)];exact .cons hc hd (ES l hk hd)
  .have e: ¬c'=k':=λz=>h (ER hc (z.symm▸hk));rw[iN h,iN e];exact .cons hc a (ES l hk hd)
theorem DenK.append: ∀{kvs b:E3}{xs c:List (Key×V)},DenK X.K α H kvs xs->DenK X.K α H b c->DenK X.K α H (kvs++b) (xs++c)
 |_,_,_,_,.nil,h=>h
 |_,_,_,_,.cons hk a l,h=>.cons hk a (DenK.append l h)
theorem DenK.length: ∀{kvs:E3}{xs:List (Key×V)},DenK X.K α H kvs xs->xs.length=kvs.length
 |_,_,.nil=>rfl
 |_,_,.cons _ _ l=>by rw[lC,lC,DenK.length l]
def ET{kvs:E3}{ks:List (Key×V)}{k d:MV}{k':Key}{v:V}(l:DenK X.K α H kvs ks)(a:KeyD k k')(hd:Den X.K α H d v):DenK X.K α H (putK kvs k d) (qA ks k' v):=by
 unfold putK qA;rw[OH l a];by_cases h:(look kvs k).isSome=true
 .rw[iP h,iP h];exact ES l a hd
 .rw[iN h,iN h];exact l.append (.cons a hd .nil)
def DK(X:Cx)(H:Hp)(d:Addr)(ks:List (Key×V)):Prop:=H d=some (.dK ks)\/(ks=[]/\H d=some (DN X.prog X.w d []))
def DK.nf{d:Addr}{ks:List (Key×V)}(h:DK X H d ks): ∀a u,H d≠some (.frz a u):=h.elim (λz=>Fc z) λz=>by first |exact Fc z.2|exact z.elim
def nF(I:↑1){ks:List (Key×V)}{d:Addr}(h:DK X H d ks):ks.length<=sizeLine/\(d==sysModules)=false/\ ∃vs,KV ks vs/\s.heap.DictOf (xE X.prog X.w) d vs:=by
 rcases h with h|⟨rfl,h⟩
 .exact(I.hok d _ h)
 .obtain⟨⟨m,hs,o,es,ep,j,c,hd,i,k⟩,_⟩:=(I.hok d _ h)
  have a:=i;refine⟨zero_le _,hs,[],.nil,o,es,ep,j,c,hd,λe b=>?_,by rw[a];exact .nil,nodup_nil⟩;rw[<-Array.mem_toList_iff,a]at b;exact absurd b (by simp)
def RS:CallR X (.type "list") (λxs H Q=> ∃d ks,xs=[.ref d]/\DK X H d ks/\X.calm=true/\ ∀l,H l=none->Q (.ref l) (xR H l (.lst (ks.map λp=>kV p.1)))):=by
 intro pins s σ H xs us Q I r h;obtain⟨d,ks,rfl,D,K,q⟩:=h;obtain⟨u,rfl,M⟩:=vals1 r;cases M;obtain⟨z,hd,vs,n,O⟩:=nF I D;obtain⟨ep,y⟩:=O.dictAt;have m:ks.length=vs.length:=Paired.length n;refine PySem.W.kdl_call (PySem.W.kdl_dict (knd:=xE X.prog X.w) (kvs:=vs) (ep:=ep) hd) (I.ok.hd K) y (by omega) λh' E o N L G c=>?_
 have F:Vals (ks.map λp=>kV p.1) o.toList:=by
  have A: ∀{ks:List (Key×V)}{vs:List (Key×Ŋ)}{us:A0},KV ks vs->us.length=vs.length->(∀(j:Nat)(v:Ŋ),us[j]? =some v-> ∃(k:Key)(x:Ŋ),vs[j]? =some (k,x)/\(xE X.prog X.w).is k v=true)->Vals (ks.map λp=>kV p.1) us:=by
   intro ks vs us B;unfold KV at B
   induction B generalizing us with
   |nil=>intro m _;cases us with
    |nil=>exact .nil
    |cons a b=>simp at m
   |@cons p q ps qs h t ih=>
    intro m C
    cases us with
    |nil=>simp at m
    |cons a b=>
     obtain⟨k,x,e,hi⟩:=C 0 a rfl;simp only[List.getElem?_cons_zero,Option.some.injEq]at e;subst e;rw[å];refine .cons ?_ (ih (by simpa using m) λj v J=>by simpa using C (j+1) v (by simpa using J));rw[h.1];rcases zZ hi with⟨i,t,e1,e2⟩|⟨i,t,e1,e2⟩
     .subst e2;rw[show k=.inl i from e1];exact⟨t,rfl⟩
     .subst e2;rw[show k=.inr i from e1];exact⟨t,rfl⟩
  exact A n (by rw[í];exact c.1) λj v e=>c.2 j v (by rw[<-ò];exact e)
 refine⟨.ref ↑0,_,I.laid (t':=E) L (à _) (show ObjOk X.prog X.w _ h' _ (.lst (ks.map λp=>kV p.1))from⟨by rw[lM];exact z,o.toList,N,F,?_⟩),rfl,q _ (I.hok.fresh (à _))⟩;rw[Array.toArray_toList];exact G
theorem IA: ∀{kvs:E3}{ks:List (Key×V)},DenK X.K α H kvs ks->DenL X.K α H (kvs.map (·.1)) (ks.map λp=>kV p.1)
 |_,_,.nil=>zW
 |_,_,.cons (k:=c) (k':=c') hc a l=>by
  refine zQ ?_ (IA l)
  cases c with
  |int i=>rw[show c'=.inl i from hc];exact yV i
  |str x=>rw[show c'=.inr _ from hc];exact mN x
  |_=>exact False.elim hc
end
def StrAt(val:Nat->Key)(i:Nat)(v:Ŋ):Prop:=(∃x t,val i=.inr x/\v=.str x t)\/ ∃x t,val i=.inl x/\v=.int x t
def StrAt.is{P:Ō}{w:World}{val:Nat->Key}{i:Nat}{v:Ŋ}(h:StrAt val i v):(xE P w).is (val i) v=true/\v.scannable=true:=by
 rcases h with⟨x,t,e,rfl⟩|⟨x,t,e,rfl⟩<;>rw[e]
 .exact⟨pN P w x t,rfl⟩
 .exact⟨AT P w x t,rfl⟩
section
variable{X:Cx}{o e:Expr}{es:C5}{apos pos:Pos}{to:TE}{t:TA}{T:String}{name:Str}{id:String}{r:V->List V->Hp->VK->Prop}
def rF(X:Cx)(T:String)(c:V->Hp->Prop):Prop:= ∀(pins:C0)(s:ŉ)(σ:St)(H:Hp)(x:V)(v:Ŋ),Inv X pins σ H s->RelV x v->c x H->s.TypeIs v T/\ ∀a,v=.ref a-> ∃b,s.heap.get? a=some b/\b.dict=none
def KP{j:V->Hp->Prop}(c:rF X T j)(q:PlainAttrs T)(a:Slot T name id)(d:typeOf (.builtin id)=pure (.type "method_descriptor"))(w:Gk X id r)(ho:PE X o to)(p:PA X (e::es) t)
  (hbase:attributeBase o name X.env (eval o X.env)=eval o X.env)
  (hfew:((backTo pos (starEach (e::es) X.env)).all (λx=>!x.1)&&(backToKw pos (keywordEach [] X.env)).all (λx=>x.1.isSome)
   &&decide ((e::es).length+([]:List Keyword).length+(if([]:List Keyword).isEmpty then 0 else 1)<30))=true)
  (hline:(apos.endLine==pos.line)=true) (hs:starEach (e::es) X.env=(false,eval e X.env)::starEach es X.env) (hplain:(backTo pos (starEach es X.env)).any (·.1)=false):
  PE X (.Call (.Attribute o name apos) (e::es) [] pos) (λσ H Q=>to σ H λx H1=>j x H1/\t σ H1 λvs b=>r x vs b Q):=by
 intro pins s σ H Q I h;refine wpAny_Call_method_late hbase hfew hline rfl (jB (ho pins s σ H _ I h) λv k ⟨x,H1,I1,m,A,y⟩=>?_);obtain⟨h1,u⟩:=c pins k σ H1 x v I1 m A;refine⟨T,id,q,a,d,h1,u,?_⟩;have i:=p pos pins k σ H1 _ I1 y;rw[hs]at i ⊢;refine Calls.callWith_builtin (by show(false || (backTo pos _).any (·.1))=false;rw[hplain]<;>rfl) (Calls.evalArgs_plain ?_);exact jB i λus C ⟨vs,b,z,n,B⟩=>w pins C σ b x vs v us Q z m n B
def TyD(X:Cx)(x:V)(H:Hp):Prop:= ∃d xs,x=.ref d/\DD X H d xs
def vX:rF X "dict" (TyD X):=by
 intro pins s σ H x v I j ⟨d,xs,e,i⟩;subst e;cases j;rcases i with h|⟨rfl,h⟩
 .obtain⟨⟨m,hs,o,es,ep,c,b,_⟩,_⟩:=(show ObjOk X.prog X.w H s.heap d (DN X.prog X.w d xs)from I.hok d _ h)
  exact⟨⟨o,c,b.1⟩,λa e=>by cases e;exact⟨o,c,b.2.1⟩⟩
 .obtain⟨_,hs,vs,k,o,es,ep,c,b,_⟩:=(show ObjOk X.prog X.w H s.heap d (.dK [])from I.hok d _ h)
  exact⟨⟨o,c,b.1⟩,λa e=>by cases e;exact⟨o,c,b.2.1⟩⟩
end
section
variable{P:Ō}{w:World}{KK:Type}[DecidableEq KK]{knd:HeapKind P w KK}{A:ŋ}{E:VP}{s:ŉ}{d a:Addr}{k:KK}{xs:List (KK×Addr×Ŋ)}
def XY{v:Ŋ}{Q:VP}(z:knd.room A)(b:knd.is s.heap k a)(D:s.heap.DictOfH knd d xs)
  (h1: ∀p,atKey xs k=some p->Q p.2 {s with toks:=s.toks+knd.draws k})
  (h2:atKey xs k=none-> ∀h',h'.DictOfH knd d (storedH xs k a v)->Heap.SameBut d s.heap h'->Q v {s with heap:=h',toks:=s.toks+knd.draws k}) (hsz:xs.length<=sizeLine):
  wpAny (model P w) A (dictSetDefault d (.ref a) v) Q E s:=by
 obtain⟨o,es,ep,m,C,hd,r,q,u⟩:=D;unfold dictSetDefault
 try with_reducible refine ù ?_
 refine wB (knd.pyHash z b ?_);refine wB (wpAny_dictFind_heap (s:={s with toks:=s.toks+knd.draws k}) z b m hd r q u ?_ ?_)
 .intro n;have c:=atKey_none_of_get n;have h:=storedH_new (v:=v) (a:=a) c
  refine wB (ĕ (wB (wpAny_updateDictKeys (hz:=by have e:=size_of_entries r;omega) (s:={s with toks:=s.toks+knd.draws k}) m hd (wP (h2 c _ ⟨_,_,ep+1,Heap.get?_update_self _ m (Obj.isFreed_of_dict (Obj.data_mapDictKeys hd _)),
   C.mapDictKeys _,Obj.data_mapDictKeys hd _,?_,?_,?_⟩ (ď ..))))))
  .rw[h];simp[r,entryOfKey]
  .rw[h];intro x i;rcases é.mp i with i|i
   .exact knd.keeps (q x i) m hd (ď ..)
   .rw[mS.mp i];exact knd.keeps b m hd (ď ..)
  .rw[h,ð,Ĥ];refine⟨u,by simp,λx i y F=>?_⟩;rw[mS.mp F];rintro rfl;exact not_mem_keys_of_get n i
 .intro j p B;refine wB (ę (s:={s with toks:=s.toks+knd.draws k}) m hd ?_);rw[entry_at r j,B];exact wB (ĕ (wP (h1 _ (atKey_of_get u B))))
end
section
variable{X:Cx}{W:XW}{o e:Expr}{es:C5}{f:AX}{af:Rho->Sto->R (List Er)}{apos pos:Pos}
theorem KQ{α:B6}{H:Hp}: ∀{kvs:E3}{xs:List (NK×Addr×Ŋ)}{k b:MV}{nk:NK},DenN X.K α H kvs xs->yZ k=some nk->look kvs k=some b-> ∃a u v,atKey xs nk=some (a,u)/\Den X.K α H b v/\RelV v u
 |_,_,k,b,nk,.nil,hk,h=>by cases h
 |_,_,k,b,nk,.cons (k:=k') (nk:=nk') (a:=a) (d:=d') (v:=v) (u:=u) hk' e ha hd r l,hk,h=>by
  rw[yT]at h;by_cases c:k'=k
  .subst c;have:nk'=nk:=by rw[hk]at hk';exact(ä hk').symm
   rw[iP rfl]at h;cases h;exact⟨a,u,v,by rw[sN,iP this],hd,r⟩
  .have n:nk'≠nk:=λz=>c (tY hk' (by rw[hk,z]));rw[iN c]at h;obtain⟨i,p,o,h1,j,m⟩:=KQ l hk h;exact⟨i,p,o,by rw[sN,iN n];exact h1,j,m⟩
def rSD(X:Cx):V->List V->Hp->VK->Prop:=λx vs H Q=> ∃(α:B6)(kvs:E3)(xs:List (NK×Addr×Ŋ))(a d:Addr)(k:MV)(nk:NK)(y:V),x=.ref d/\vs=[.ref a,y]/\DD X H d xs/\DenN X.K α H kvs xs/\yZ k=some nk/\iR nk<=4/\Den X.K α H k (.ref a)/\xs.length<sizeLine/\
 (∀b v,look kvs k=some b->Den X.K α H b v->Q v H)/\(look kvs k=none-> ∀u,RelV y u->Q y (xR H d (DN X.prog X.w d (storedH xs nk a u))))
def Yp(hu:X.A.units+64<cLine):Gk X "dict.setdefault" (rSD X):=by
 intro pins s σ H x vs v us Q I rx Z h;obtain⟨α,kvs,xs,a,d,k,O,y,rfl,rfl,m,l,K,e,ha,hz,q1,q2⟩:=h;obtain⟨u1,j,rfl,r1,S⟩:=vals2 Z;cases rx;cases r1;obtain⟨hm,G,hs⟩:=qS I m l;have N:s.TypeIs (.ref d) "dict":=(vX pins s σ H (.ref d) (.ref d) I rfl ⟨d,xs,rfl,m⟩).1;have c:=CS l K;refine ì PySem.F.slot_dict_setdefault N PySem.F.entry_dict_setdefault ?_ (PySem.F.args_dict_setdefault_3 _ _ _);unfold Builtin.«dict.setdefault»;refine wB ?_;unfold Builtin.Dict.keyAndDefault;refine wB (Ġ N ?_);show wpAny _ _ (pure (d,Value.ref a,some j)) _ _ s;refine wP ?_;show wpAny _ _ (if(d==sysModules)=true then _ else(dictSetDefault d (.ref a) j >>= _)) _ _ s;rw[iN (by rw[hs];exact xF0)];refine wB (XY (knd:=zU X.prog X.w) (show X.A.units+1+4<cLine by omega) ⟨vU I K ha rfl,e⟩ hm (λp U=>?_) (λhn h' B E=>?_) G)
 .rw[U]at c;obtain⟨d',i⟩:=ï.mp (show(look kvs k).isSome=true from c.symm);obtain⟨a2,u3,P,T,g2,Y⟩:=KQ l K i;rw[U]at T;cases T;exact wP ⟨_,rfl,P,H,I.kept (t':=_) (λ_ _ z=>z),Y,q1 d' P i g2⟩
 .rw[hn]at c
  have J:look kvs k=none:=by
   cases z:look kvs k with
   |none=>rfl
   |some _=>rw[z]at c;cases c
  have mu:Ob (H d):=by rcases m with z|⟨_,z⟩<;>rw[z]<;>exact trivial
  obtain⟨q,es,ep,C,hc,hd,he,_,M⟩:=B;refine wP ⟨_,rfl,y,_,I.write (t':=_) (x:=d) (e:=d) (o:=DN X.prog X.w d (storedH xs O a j)) mu (.inl rfl) (λb uo hb eo=>(E.2 b hb).trans eo) ⟨q,C⟩ ?_,S,q2 J j S⟩;refine⟨⟨by have:=sP (xs:=xs) (k:=O) (a:=a) (u:=j);omega,hs,q,es,ep,C,hc,hd,he,M⟩,⟨q,C⟩,?_⟩;rintro h1 h2 ⟨z1,z2,o',n,D,L,r⟩ W;exact⟨z1,z2,o',n,D,W o' L,r⟩
def Yq(p:Er)(k y:MV)(S1:Sto):R Er:=match bL S1 p with
 |some (l,kvs)=>if keyOk k=true/\kvs.length<1000000 then match look kvs k with
  |some d=>.ok (.val d) S1
  |none=>.ok (.val y) (S1.set l (.dic (putK kvs k y)))
  else .no
 |none=>.no
def Vv(p:Er)(rs:List Er)(S:Sto):R Er:=match rs with
 |[.val k,r]=>(wQ r S).bind λy S1=>Yq p k y S1
 |_=>.no
def qB(p:Er)(S:Sto):Bool:=(bL S p).isSome
def Yr:NG X W (rSD X) Vv:=by
 intro p rs x vs α S H0 H Q h N T J j a
 match rs,j,a with
 |[],_,a=>exact a.elim
 |[.val _],_,a=>exact a.elim
 |.new _::_,_,a=>exact a.elim
 |.val _::_::_::_,_,a=>exact a.elim
 |[.val k,r],j,a=>
  cases j with
  |cons dk n1 l1=>
   cases l1 with
   |cons d n2 l2=>
    cases l2;obtain⟨M,S',α',P,G,A,i,z⟩:=bR N T d;have a:Post X.g W h H0 ((wQ r S).bind λy S1=>Yq p k y S1) Q:=a;rw[P]at a;have a:Post X.g W h H0 (Yq p k M S') Q:=a;unfold Yq at a;split at a
    .rename_i l kvs B;split at a
     .rename_i F
      have v:DenX X.K α' H p x:=by
       cases p with
       |val m=>exact Den.ex0 A J
       |new ds=>cases B
      obtain⟨I,h1,E,O⟩:=tZ F.1;obtain⟨c,xs,rfl,C,Y,e,n⟩:=sO i B v;have b:Den X.K α' H k _:=Den.ex0 A dk.1;obtain⟨D,rfl⟩:=CT (X:=X) (α:=α') (H:=H) O b;refine⟨α',kvs,xs,D,c,k,I,_,rfl,rfl,e,n,h1,E,b,?_,λU Z s g2=>?_,λs u L=>?_⟩
      .rw[n.length];exact ç F.2 (fits (à _))
      .rw[s]at a;exact(Post.shift G a).val i g2
      .rw[s]at a;have q:=i.writex C e.nf (o:=DN X.prog X.w c (storedH xs I D u));exact(Post.shift (G.trans q) a).val (i.write C e.nf (.inr ⟨_,zS,(KD n h1 E b z L).ex0 q.toEx0⟩)) (z.ext q)
     .exact a.elim
    .exact a.elim
def Ys(D:X.A.units+64<cLine)(ho:zN X W o f)(b:CN X W (e::es) af)
  (hbase:attributeBase o "setdefault" X.env (eval o X.env)=eval o X.env:=by rfl)
  (hfew:((backTo pos (starEach (e::es) X.env)).all (λx=>!x.1)&&(backToKw pos (keywordEach [] X.env)).all (λx=>x.1.isSome)
   &&decide ((e::es).length+([]:List Keyword).length+(if([]:List Keyword).isEmpty then 0 else 1)<30))=true:=by rfl)
  (hline:(apos.endLine==pos.line)=true:=by rfl) (hs:q9 X e es:=by rfl) (hplain:Q0 X pos es:=by rfl):
  zN X W (.Call (.Attribute o "setdefault" apos) (e::es) [] pos) (λρ S=>(f ρ S).bind λp S1=>if qB p S1=true then(af ρ S1).bind λrs S2=>Vv p rs S2 else .no):=by
 obtain⟨to,ho,B⟩:=ho;obtain⟨t,b,k⟩:=b;refine⟨_,KP vX PySem.F.plainAttrs_dict PySem.F.slot_dict_setdefault PySem.F.type_dict_setdefault (Yp D) ho b hbase hfew hline hs hplain,λα ρ S σ H Q z sl q=>B α ρ S σ H _ z sl (q.bind λu p S1 a H1 G r j m h=>?_)⟩;split at h
 .rename_i i;obtain⟨⟨l,kvs⟩,i⟩:=ï.mp i;obtain⟨c,xs,rfl,_,_,s,_⟩:=sO j i m.1;exact⟨⟨c,xs,rfl,s⟩,k a ρ S1 σ H1 _ j (sl.ext r) ((h.shift r).bind λvs rs S2 d v E n C w y=>Yr p rs _ vs d S2 H1 v Q a C n (m.1.ext n) w y)⟩
 .exact h.elim
end
def VAt(d:Addr)(us:A0)(ep:Nat)(h:Heap):Prop:= ∃o es,h.get? d=some o/\o.ExactDict/\o.data=.dict es ep/\es.toList.map (·.val)=us
def VAt.at{d:Addr}{us:A0}{ep:Nat}{h h':Heap}(x:VAt d us ep h)(m: ∀o,h.get? d=some o->h'.get? d=some o):VAt d us ep h':=let ⟨o,es,a,r⟩:=x;⟨o,es,m o a,r⟩
theorem VAt.size{d:Addr}{us:A0}{ep:Nat}{h:Heap}(x:VAt d us ep h): ∃o es,h.get? d=some o/\o.ExactDict/\o.data=.dict es ep/\es.size=us.length/\ ∀i (hi:i<es.size),us[i]? =some es[i].val:=by obtain⟨o,es,b,a,hd,e⟩:=x;refine⟨o,es,b,a,hd,by rw[<-e,lM,í],λi hi=>?_⟩;rw[<-e,ö,ò,Đ hi];rfl
section
variable{X:Cx}{o:Expr}{apos pos:Pos}{to:TE}{T:String}{name:Str}{id:String}{r:V->List V->Hp->VK->Prop}
def Kc{d:V->Hp->Prop}(b:rF X T d)(j:PlainAttrs T)(a:Slot T name id)(c:typeOf (.builtin id)=pure (.type "method_descriptor"))(k:Gk X id r)(ho:PE X o to)
  (hbase:attributeBase o name X.env (eval o X.env)=eval o X.env) (hline:(apos.endLine==pos.line)=true):PE X (.Call (.Attribute o name apos) [] [] pos) (λσ H Q=>to σ H λx H1=>d x H1/\r x [] H1 Q):=by
 intro pins s σ H Q I h;refine wpAny_Call_method0_late hbase hline (jB (ho pins s σ H _ I h) λv e ⟨x,H1,I1,i,p,n⟩=>?_);obtain⟨h1,m⟩:=b pins e σ H1 x v I1 i p;exact⟨T,id,j,a,c,h1,m,Calls.callWith_builtin rfl (PySem.evalArgs_none (k pins e σ H1 x [] v [] Q I1 i .nil n))⟩
theorem UO{α:B6}{H:Hp}: ∀{kvs:E3}{xs:List (NK×Addr×Ŋ)},DenN X.K α H kvs xs-> ∃ys,DenL X.K α H (kvs.map (·.2)) ys/\Vals ys (xs.map (·.2.2))
 |_,_,.nil=>⟨[],zW,.nil⟩
 |_,_,.cons hk e a d r l=>by obtain⟨ys,h1,b⟩:=UO l;exact⟨_::ys,zQ d h1,.cons r b⟩
end
end M
end L2
namespace L2
open PySem PySem.Spec PyProof.Rows
open Builtin Builtin.ObjectAttr
section
variable{h:Heap}{x:Addr}{o:Obj}{v:Ŋ}{name:Str}
def SetAt(h h':Heap)(x:Addr)(o:Obj)(name:Str)(v:Ŋ)(a:Addr):Prop:=
 h.get? a=none/\a≠x/\h'.get? x=some {cls:=o.cls,dict:=some a,data:=o.data,slots:=o.slots}/\h'.Ns1 a (λy=>if y=name then some v else none)/\ ∀b c,b≠x->h.get? b=some c->h'.get? b=some c
end
noncomputable abbrev BIG:Nat:=10 ^ 100
section
variable{i:Nat}{σ:St}{H:Hp}
def tJ(i:Nat):TE:=λσ H Q=> ∃n,σ[i]? =some (some (.int n))/\n.natAbs<BIG/\ ∀y:Str,Q (.str y) H
end
namespace M
structure XIn(K:C6)(M C f:Addr):Prop where
 ex: ∃nm q N bs sn sub ab col dd k0 k1 k2 k3 k5,K.lookup C=some (excClassObj nm q C N bs (.ref M::A5) true sn sub ab col dd k0 k1 k2 k3 k5 "ValueError.__new__")/\PySem.W.nsOkIn K N=true/\PySem.W.nsIn K N "__init__"=some (some (.ref f))/\ ∀n∈qn,PySem.W.nsIn K N n=some none
 fo: ∃o,K.lookup f=some o/\o.cls=.type "function"
def XIn.cl{K:C6}{M C f:Addr}(x:XIn K M C f):XCl K C (.ref M::A5) (some (.ref f)):=by obtain⟨o,q,N,bs,j,h,k,e,m,n,k1,k2,i,p,a,b,c,d⟩:=x.ex;exact⟨o,q,N,bs,true,j,h,k,e,m,n,k1,k2,i,p,a,b,c,d,rfl⟩
structure DefM(K:C6)(mg:B8)(x:Str)(st:Stmt):Prop where
 ex: ∃f fd,mg x=some (.ref f)/\Fun K x x st f fd
def def_mk{K:C6}{mg:B8}{h:Heap}{x:Str}{st:Stmt}{g:Addr}{od i:Option Addr}{sl:Array (Option Ŋ)}{e kV b d cd ct:Ŋ}(a:PySem.W.nsIn K mainGlobals x=some (some (.ref g)))
  (l:K.lookup g=some ⟨e,od,.func (PySem.W.fnOf x x (mK st) (gC st) (zP st) .none kV b d i cd ct),sl⟩) (c:PySem.W.codeIn K cd x=true) (k:PySem.W.keepIn K (.ref g)=true) (X:K.In h) (GG:h.Ns mainGlobals mg):DefM K mg x st:=⟨_,_,PySem.W.mg_of X GG a,Pm l c k⟩
structure Cal(P:Ō)(w:World)(K:C6)(mg:B8)(base:Heap)(CX:WN)(x:Str)(k:Nat)(ps:B7)(sp:Sp):Prop where
 ex: ∃fa fd,FnOk P w K mg base CX k fa fd ps sp/\mg x=some (.ref fa)/\PySem.W.keepIn K (.ref fa)=true/\Binds K fd ps []
abbrev XZ(P:Program)(w:World)(K:C6)(mg:B8)(base:Heap)(x:Str)(k n:Nat)(ps:B7)(F:List MV->Sto->R Er):Prop:=Cal P w K mg base DP x k ps (QZ ⟨K,mg,P,w⟩ n F)
abbrev Yt(P:Program)(w:World)(K:C6)(mg:B8)(base:Heap)(x:Str)(k n:Nat)(ps:B7)(F:List MV->Sto->R Er):Prop:=Cal P w K mg base (CXe P w) x k ps (spX ⟨K,mg,P,w⟩ n F)
section
variable{P:Ō}{w:World}{K:C6}{mg:B8}{base:Heap}{x:Str}{st:Stmt}{ps:B7}{k n:Nat}{F:List MV->Sto->R Er}
abbrev Ca(x:Str)(st:Stmt)(ps:B7):Prop:= ∀(kV a d:Value)(c:Option Addr)(b ct:Value)(us:A0),us.length=ps.length->bindArgs (PySem.W.fnOf x x (mK st) (gC st) (zP st) .none kV a d c b ct) ⟨us,[]⟩=pure (ps.zip us)
def okC(D:DefM K mg x st)(b:Ca x st ps)(h: ∀f fd,Fun K x x st f fd->FnOk P w K mg base DP k f fd ps (QZ ⟨K,mg,P,w⟩ n F)):XZ P w K mg base x k n ps F:=
 let ⟨f,fd,m,a⟩:=D.ex;⟨f,fd,h f fd a,m,a.kp,a.binds b⟩
def Cal.noX(G:Yt P w K mg base x k n ps F):XZ P w K mg base x k n ps F:=let ⟨fa,fd,G,m,a,b⟩:=G.ex;⟨fa,fd,G.noX,m,a,b⟩
def Tr{l:PySem.W.OpenLaw}{fa:Addr}{p:Str}(D:DefM K mg x st)(c:mg x=some (.ref fa))(e: ∀(kV a i:Ŋ)(j:Option Addr)(b ct:Ŋ)(s:ŉ)(v:Ŋ),BindsTo s (PySem.W.fnOf x x (mK st) (gC st) (zP st) .none kV a i j b ct) ⟨[v],[]⟩ [(p,v)])
  (h: ∀base f fd,Fun K x x st f fd->FnOk l.prog w K mg base DP k f fd [p] (QZ ⟨K,mg,l.prog,w⟩ 1 F)):
  ∃fd:FuncData,(∀(s:ŉ)(v:Ŋ),BindsTo s fd ⟨[v],[]⟩ [(p,v)])/\ ∀base:Heap,K.In base->base.Ns mainGlobals mg->FnOk l.prog w K mg base DP k fa fd [p] (HU K F):=by
 obtain⟨f,fd,m,d⟩:=D.ex;rw[c]at m;cases m;refine⟨fd,?_,λbase _ _=>(h base fa fd d).imp λvs H Q E=>Bl (g:=⟨K,mg,_,w⟩) vs H Q E⟩;obtain⟨_,_,_,_,_,_,_,_,_,rfl,_,_⟩:=d.ex;exact e _ _ _ _ _ _
end
section
variable{X:Cx}{W:XW}{e:Expr}{es:C5}{af:Rho->Sto->R (List Er)}{k n:Nat}{ps:B7}{F:List MV->Sto->R Er}{x:Str}{p pos:Pos}
def Cb(G:XZ X.prog X.w X.K X.mg X.base x k n ps F)(i:Room k X.A)(c:Gl X x)(h:CN X W (e::es) af)(a:(x==("__debug__":Str))=false:=by decide)
  (he:q9 X e es:=by rfl) (hpl:Q0 X pos es:=by rfl):zN X W (.Call (.Name x p) (e::es) [] pos) (λρ S=>(af ρ S).bind λrs S1=>zK n F rs S1):=
 let ⟨_,_,G,m,d,b⟩:=G.ex;Hy G i c m d b h a he hpl
end
end M
end L2
namespace L2
open PySem PySem.Spec PyProof.Rows
structure RoomH(k:Nat)(A:ŋ):Prop where
 dp:A.depth+3 * k+5<recursionLimit
 un:A.units+16 * k+200<cLine
def RoomH.depth{k:Nat}{A:ŋ}(r:RoomH k A):A.depth<recursionLimit:=by have:=r.dp;omega
def RoomH.units{k:Nat}{A:ŋ}(r:RoomH k A):A.units+64<cLine:=by have:=r.un;omega
structure FnOkH(P:Ō)(w:World)(K:C6)(mg:B8)(base:Heap)(k:Nat)(f:Addr)(fd:FuncData)(ps:B7)(sp:Sp):Prop where
 len: ∀vs H Q E,sp vs H Q E->vs.length=ps.length
 run: ∀(A:ŋ)(outer:List Env)(s:ŉ)(H:Hp)(args:Args)(us:A0)(vs:List V)(Q:VK)(E:XK),RoomH k A->HdA A H->Env0 P w K mg base A outer s H->BindsTo s fd args (ps.zip us)->Vals vs us->sp vs H Q E->
  codeAny (model P w) A (.call (.ref f) args) (CR DP outer P w H s Q E) s
namespace M
section
variable{P:Ō}{w:World}{K:C6}{mg:B8}{base:Heap}{x:Str}{ps:B7}{k n:Nat}{F:List MV->Sto->R Er}
structure CalH(P:Ō)(w:World)(K:C6)(mg:B8)(base:Heap)(x:Str)(k n:Nat)(ps:B7)(F:List MV->Sto->R Er):Prop where
 ex: ∃fa fd,FnOkH P w K mg base k fa fd ps (QZ ⟨K,mg,P,w⟩ n F)/\mg x=some (.ref fa)/\PySem.W.keepIn K (.ref fa)=true/\Binds K fd ps []
end
noncomputable def Yu(kvs:E3)(S:Sto):R Er:=.ok (.val (.loc ↑2)) (S++[.dic kvs])
section
variable{X:Cx}{o e:Expr}{es:C5}
noncomputable def cU(ks:List (Key×V))(k:Key):Option V:=(ks.find? λp=>decide (p.1=k)).map (·.2)
theorem CY: ∀{ks:List (Key×V)}{vs:List (Key×Ŋ)}(r:KV ks vs)(k:Key),(∀v,cU ks k=some v-> ∃u,valueAt vs k=some u/\RelV v u)/\(cU ks k=none->valueAt vs k=none)
 |_,_,.nil,k=>⟨λv h=>(nomatch h),λ_=>rfl⟩
 |(a,x)::ks,(b,u)::vs,.cons ⟨h1,h2⟩ l,k=>by
  cases h1;have d:=CY l k;unfold cU valueAt;by_cases c:a=k
  .simp only[find?_cons,c];exact⟨λv h=>⟨u,rfl,by cases h;exact h2⟩,λh=>nomatch h⟩
  .simp only[find?_cons,c];exact d
theorem qT{α:B6}{H:Hp}: ∀{kvs:E3}{ks:List (Key×V)}{k:MV}{k':Key},DenK X.K α H kvs ks->KeyD k k'->(∀d,look kvs k=some d-> ∃v,cU ks k'=some v/\Den X.K α H d v)/\(look kvs k=none->cU ks k'=none)
 |_,_,_,_,.nil,_=>⟨λd h=>(nomatch h),λ_=>rfl⟩
 |_,_,k,k',.cons (k:=k0) (k':=k0') (v:=v0) h1 h2 l,hk=>by
  have b:=qT l hk;rw[yT];unfold cU;by_cases c:k0=k
  .subst c;have:=KO h1 hk;simp only[find?_cons,this];exact⟨λd h=>⟨v0,rfl,by cases h;exact h2⟩,λh=>nomatch h⟩
  .have a: ¬k0'=k':=λz=>c (ER h1 (z▸hk));simp only[find?_cons,a,iN c];exact b
def TyK(X:Cx)(x:V)(H:Hp):Prop:= ∃d a,x=.ref d/\DK X H d a
def KR:rF X "dict" (TyK X):=by intro pins s σ H x v I i ⟨d,j,e,h⟩;subst e;cases i;obtain⟨_,hs,vs,k,o,es,ep,c,b,_⟩:=nF I h;exact⟨⟨o,c,b.1⟩,λa e=>by cases e;exact⟨o,c,b.2.1⟩⟩
end
section
variable{α β:Type}
def vJ(i:Nat)(ρ:Rho)(S:Sto):R Er:=He (ρ[i]?) S
noncomputable def kJ(d:MV)(_:Rho)(S:Sto):R Er:=.ok (.val d) S
noncomputable def bJ(f:Rho->Sto->R α)(F:α->Sto->R β)(ρ:Rho)(S:Sto):R β:=(f ρ S).bind F
noncomputable def dJ(F:Er->Er->Sto->R Er)(f g:AX)(ρ:Rho)(S:Sto):R Er:=(f ρ S).bind λp S=>(g ρ S).bind λq S=>F p q S
def nJ(f:AX)(ρ:Rho)(S:Sto):R Er:=(f ρ S).bind λp S=>(aV p S).bind λk S=>.ok (.val (.bl !k)) S
def aJ(f g:AX)(ρ:Rho)(S:Sto):R Er:=(f ρ S).bind λp S=>andF p S λS=>g ρ S
def oJ(f g:AX)(ρ:Rho)(S:Sto):R Er:=(f ρ S).bind λp S=>orF p S λS=>g ρ S
noncomputable def iJ(c:AZ)(f g:Rho->Sto->R α)(ρ:Rho)(S:Sto):R α:=(c ρ S).bind λk S=>if k=true then f ρ S else g ρ S
noncomputable def mJ(_:Rho)(S:Sto):R (Option Int):=.ok none S
noncomputable def tJ(F:Er->Option Int->Option Int->Sto->R Er)(f:AX)(g h:Rho->Sto->R (Option Int))(ρ:Rho)(S:Sto):R Er:=(f ρ S).bind λp S=>(g ρ S).bind λl S=>(h ρ S).bind λu S=>F p l u S
def lJ(k:E3)(_:Rho)(S:Sto):R Er:=Yu k S
def zJ(_:Rho)(S:Sto):R Er:=EG S
def fJ(n:Nat)(F:List MV->Sto->R Er)(a:Rho->Sto->R (List Er))(ρ:Rho)(S:Sto):R Er:=(a ρ S).bind λr S=>zK n F r S
def xJ(n:Nat)(F:List MV->Sto->R Er)(a:Rho->Sto->R (List Er))(ρ:Rho)(S:Sto):R Er:=(a ρ S).bind λr S=>UA n F r S
def hJ(F:List MV->Sto->R Er)(_:Rho)(S:Sto):R Er:=zK 0 F [] S
noncomputable def eJ(t:Er->Sto->Bool)(F:Er->List Er->Sto->R Er)(f:AX)(a:Rho->Sto->R (List Er))(ρ:Rho)(S:Sto):R Er:=(f ρ S).bind λp S=>if t p S=true then(a ρ S).bind λr S=>F p r S else .no
noncomputable def gJ(t:Er->Sto->Bool)(F:Er->List Er->Sto->R Er)(f:AX)(ρ:Rho)(S:Sto):R Er:=(f ρ S).bind λp S=>if t p S=true then F p [] S else .no
noncomputable def uJ(_:Rho)(S:Sto):R Bool:=.ok true S
def pJ(i:Rho->Sto->R Wk)(g:MV->Rho->Sto->R Rho)(c:AZ)(e:AX)(n:Nat)(I:Db)(ρ:Rho)(S:Sto):R Er:=(i ρ S).bind λk S=>if k.ds.length<1000000 then(yD g c e (vE n I ρ) k.gs k.ds S).bind λo S=>.ok (.new o) S else .no
def jJ(F G:Er->Er->Sto->R Er)(f g h:AX)(ρ:Rho)(S:Sto):R Er:=(f ρ S).bind λp S=>(g ρ S).bind λq S=>chF F G p q S λS=>h ρ S
noncomputable def qJ(f:AZ)(ρ:Rho)(S:Sto):R Bool:=(f ρ S).bind λk S=>.ok (!k) S
noncomputable def rJ(f g:AZ)(ρ:Rho)(S:Sto):R Bool:=(f ρ S).bind λk S=>if k=true then g ρ S else .ok false S
noncomputable def sJ(f g:AZ)(ρ:Rho)(S:Sto):R Bool:=(f ρ S).bind λk S=>if k=true then .ok true S else g ρ S
noncomputable def wJ(_:Rho)(S:Sto):R (List Er):=.ok [] S
noncomputable def yJ(f:AX)(g:Rho->Sto->R (List Er))(ρ:Rho)(S:Sto):R (List Er):=(f ρ S).bind λp S=>(g ρ S).bind λl S=>.ok (p::l) S
noncomputable def AJ(f:AX)(ρ:Rho)(S:Sto):R Fl:=(f ρ S).bind λr S=>.ok (.ret r) S
noncomputable def BJ(f:AX)(ρ:Rho)(S:Sto):R Fl:=(f ρ S).bind λ_ S=>.ok (.next ρ) S
def CJ(f:AX)(i:Nat)(ρ:Rho)(S:Sto):R Fl:=(f ρ S).bind (DZ ρ i)
noncomputable def DJ(F:Er->Er->MV->Rho->Sto->R Rho)(f g:AX)(d:MV)(ρ:Rho)(S:Sto):R Rho:=(f ρ S).bind λp S=>(g ρ S).bind λq S=>F p q d ρ S
def EJ(f:AX)(g:MV->Rho->Sto->R Rho)(ρ:Rho)(S:Sto):R Fl:=(f ρ S).bind (Hn g ρ)
def FJ(i:Rho->Sto->R Wk)(g:MV->Rho->Sto->R Rho)(b:AY)(ρ:Rho)(S:Sto):R Fl:=(i ρ S).bind λk S=>xP g b k.gs k.ds ρ S
noncomputable def GJ(a:Rho->Sto->R (List Er))(c:Str)(ρ:Rho)(S:Sto):R Fl:=(a ρ S).bind λr S=>if r.length<=10 then .exc c [] S else .no
def HJ(cs:B7)(i:Nat)(h:AY)(n:Nat)(F:List MV->Sto->R Er)(a:Rho->Sto->R (List Er))(ρ:Rho)(S:Sto):R Fl:=(noX (a ρ S)).bind λr S=>Sj cs i (λ_ S=>.ok (.next ρ) S) h ρ (UA n F r S)
def IJ(cs:B7)(i j:Nat)(h:AY)(n:Nat)(F:List MV->Sto->R Er)(a:Rho->Sto->R (List Er))(ρ:Rho)(S:Sto):R Fl:=(noX (a ρ S)).bind λr S=>Sj cs i (DZ ρ j) h ρ (UA n F r S)
noncomputable def JJ(ρ:Rho)(S:Sto):R Fl:=.ok (.next ρ) S
end
section
variable{p:Pos}{f:AX}
def augF(F:Er->Er->Sto->R Er)(i:Nat)(f:AX)(ρ:Rho)(S:Sto):R Fl:=(He (ρ[i]?) S).bind λp S1=>(f ρ S1).bind λq S2=>(F p q S2).bind (DZ ρ i)
end
def KJ(n:Nat)(F:List MV->Sto->R Er)(a:Rho->Sto->R (List Er))(ρ:Rho)(S:Sto):R Er:=(noX (a ρ S)).bind λr S=>UA n F r S
def LJ(c:AZ)(f g:AX)(ρ:Rho)(S:Sto):R Er:=(noX (c ρ S)).bind λk S=>if k=true then f ρ S else g ρ S
def MJ(cs:B7)(i:Nat)(h:AY)(f:AX)(ρ:Rho)(S:Sto):R Fl:=Sj cs i (λ_ S=>.ok (.next ρ) S) h ρ (f ρ S)
end M
end L2
namespace L2
open PySem PySem.Spec PyProof.Rows
namespace M
section
variable{f:AX}{af:Rho->Sto->R (List Er)}{p:Pos}{m:Str}
noncomputable def selM(m:Str)(l:List (Str×(List MV->Sto->R Er))):Er->Option (List MV->Sto->R Er)
 |.val (.obj c ns _)=>if m∈ns then none else l.lookup c
 |_=>none
def NJ(m:Str)(n:Nat)(l:List (Str×(List MV->Sto->R Er)))(f:AX)(af:Rho->Sto->R (List Er))(ρ:Rho)(S:Sto):R Er:=(f ρ S).bind λp S=>match selM m l p with
 |some F=>(af ρ S).bind λr S=>zK n F (p::r) S
 |none=>.no
end
section
variable{X:Cx}{W:XW}{a e:Expr}{es:C5}{pos apos:Pos}{f:AX}{af:Rho->Sto->R (List Er)}
def Ke:Er->List Er->Sto->R Er
 |p,[r],S=>match Aw S r with
  |some zs=>GK p S λds=>if ds.length+zs.length<=sizeLine then some (ds++zs)else none
  |none=>.no
 |_,_,_=>.no
def YA:NG X W SY Ke:=by
 intro p rs x vs α S H0 H Q h m w n d a
 match rs,d,a with
 |[],_,a=>exact a.elim
 |_::_::_,_,a=>exact a.elim
 |[r],d,a=>
  have a:Post X.g W h H0 (match Aw S r with |some i=>GK p S λds=>if ds.length+i.length<=sizeLine then some _ else none|none=>.no) Q:=a;split at a
  .rename_i i u;obtain⟨v,rfl,q⟩:=HM d;obtain⟨b,us,rfl,s,j⟩:=JU m u q;obtain⟨c,ws,ds,es,rfl,h1,l1,e,k⟩:=HR m w n a;split at e
   .rename_i o;cases e;exact⟨c,b,ws,us,rfl,rfl,h1,s,by rw[l1.length,j.length];exact o,k _ (l1.append j)⟩
   .cases e
  .exact a.elim
def YB(ho:zN X W a f)(b:CN X W (e::es) af)
  (hbase:attributeBase a "extend" X.env (eval a X.env)=eval a X.env:=by rfl)
  (hfew:((backTo pos (starEach (e::es) X.env)).all (λx=>!x.1)&&(backToKw pos (keywordEach [] X.env)).all (λx=>x.1.isSome)
   &&decide ((e::es).length+([]:List Keyword).length+(if([]:List Keyword).isEmpty then 0 else 1)<30))=true:=by rfl)
  (hline:(apos.endLine==pos.line)=true:=by rfl) (hs:q9 X e es:=by rfl) (hplain:Q0 X pos es:=by rfl):
  zN X W (.Call (.Attribute a "extend" apos) (e::es) [] pos) (λρ S=>(f ρ S).bind λp S1=>if xZ p S1=true then(af ρ S1).bind λrs S2=>Ke p rs S2 else .no):=
 JP PySem.F.plainAttrs_list PySem.F.slot_list_extend PySem.F.type_list_extend WS YA RF ho b hbase hfew hline hs hplain
end
section
variable{X:Cx}{W:XW}{a b o i e:Expr}{f g:AX}{pos:Pos}{α:B6}{H:Hp}{pins:C0}{σ:St}{s:ŉ}
def Ts:MV->Option Key
 |.int i=>some (.inl i)
 |.str x=>some (.inr (fR x))
 |_=>none
def YC: ∀{k:MV}{k':Key},Ts k=some k'->KeyD k k'
 |.int i,_,h=>by cases h;exact rfl
 |.str x,_,h=>by cases h;exact rfl
 |.non,_,h=>nomatch h
 |.bl _,_,h=>nomatch h
 |.tup _,_,h=>nomatch h
 |.scr _,_,h=>nomatch h
 |.loc _,_,h=>nomatch h
 |.typ _,_,h=>nomatch h
 |.obj _ _ _,_,h=>nomatch h
def YD: ∀{k:MV}{k':Key}{v:V},Ts k=some k'->Den X.K α H k v->v=kV k'
 |.int i,_,_,h,d=>by cases h;exact xI d
 |.str x,_,_,h,d=>by cases h;exact xK d
 |.non,_,_,h,_=>nomatch h
 |.bl _,_,_,h,_=>nomatch h
 |.tup _,_,_,h,_=>nomatch h
 |.scr _,_,_,h,_=>nomatch h
 |.loc _,_,_,h,_=>nomatch h
 |.typ _,_,_,h,_=>nomatch h
 |.obj _ _ _,_,_,h,_=>nomatch h
def OI: ∀{k:Key}{u:Ŋ},RelV (kV k) u->(xE X.prog X.w).is k u=true
 |.inl i,_,h=>by obtain⟨t,rfl⟩:=(h: ∃t,_=_);exact AT _ _ i t
 |.inr x,_,h=>by obtain⟨t,rfl⟩:=(h: ∃t,_=_);exact pN _ _ x t
def sT(k:MV):Bool:=(Ts k).isSome
def Yv{kvs:E3}{d:Addr}(ob:ObD X.g α H d (.dic kvs))(i:kvs.all (λp=>sT p.1)=true): ∃b,DK X H d b/\DenK X.K α H kvs b:=by
 rcases ob with⟨b,h,l⟩|⟨xs,h,l⟩
 .exact⟨b,.inl h,l⟩
 .cases l with
  |nil=>exact⟨[],.inr ⟨rfl,h⟩,.nil⟩
  |@cons k nk a d v u fs xs hn e ha hd r l=>
   rw[List.all_cons,aE]at i;obtain⟨j,c⟩:=ï.mp i.1;have:=YD c ha;cases j<;>cases this
def uD(S:Sto):Er->Option (Nat×List (MV×MV))
 |.val (.loc l)=>match S[l]? with
  |some (.dic kvs)=>if kvs.all (λp=>sT p.1)=true then some (l,kvs)else none
  |_=>none
 |_=>none
def Fj{S:Sto}(j:Wd X.g α S H){r:Er}{x:V}{l:Nat}{kvs:E3}(e:uD S r=some (l,kvs))(d:DenX X.K α H r x):
  ∃c a,x=.ref c/\α[l]? =some c/\S[l]? =some (.dic kvs)/\DK X H c a/\DenK X.K α H kvs a/\kvs.all (λp=>sT p.1)=true:=by
 unfold uD at e;split at e
 .rename_i n;obtain⟨c,rfl,h⟩:=aU d;split at e
  .rename_i a b;split at e
   .rename_i i;obtain⟨rfl,rfl⟩:=Prod.mk.inj (ä e);obtain⟨xs,k,l⟩:=Yv (j.obj _ c _ h b) i;exact⟨c,xs,rfl,h,b,k,l,i⟩
   .cases e
  .cases e
 .cases e
def RT{ks:List (Key×V)}{d:Addr}(a:DK X H d ks):Ob (H d):=by rcases a with z|⟨_,z⟩<;>rw[z]<;>exact trivial
def Yw(X:Cx):TSet:=λo i v H Q=> ∃(ks:List (Key×V))(d:Addr)(k:Key),o=.ref d/\i=kV k/\DK X H d ks/\ks.length<sizeLine/\Q (xR H d (.dK (qA ks k v)))
def YE:Fx X (Yw X):=by
 intro pins s σ H o i v ov G u Q I y E p h;obtain⟨m,d,k,rfl,rfl,n,K,q⟩:=h;cases y;obtain⟨z,hd,vs,c,D⟩:=nF I n;have F:m.length=vs.length:=Paired.length c;have L:=uC m k v;refine wpAny_setItem_pairs (knd:=xE X.prog X.w) (hsz:=by omega) (OI E) D λh' a j=>⟨_,?_,q⟩
 have B: ∃q,h'.get? d=some q:=let ⟨q,_,_,r,_⟩:=a;⟨q,r⟩;exact I.write (t':=_) (x:=d) (e:=d) (RT n) (.inl rfl) (λb J A C=>(j.2 b A).trans C) B ⟨by omega,hd,_,RR c _ p,a⟩
def IB(p q:Er)(d:MV)(ρ:Rho)(S:Sto):R Rho:=match q with
 |.val k=>match uD S p with
  |some (l,kvs)=>if sT k=true/\kvs.length<1000000 then .ok ρ (S.set l (.dic (putK kvs k d)))else .no
  |none=>.no
 |_=>.no
def Kf(ho:zN X W o f)(hi:zN X W i g)
  (ha: ∀v,assign (.Subscript o i pos) X.env v=(do
   let ov <-holding [v] (eval o X.env);let s <-holding [v,ov] (eval i X.env)
   standAt pos
   holding [v,ov,s] (setItem ov s v)
   release [v,ov,s] []):=by intro _;rfl):XA X W (.Subscript o i pos) (λd ρ S=>(f ρ S).bind λp S1=>(g ρ S1).bind λq S2=>IB p q d ρ S2):=by
 obtain⟨to,ho,T⟩:=ho;obtain⟨ti,hi,O⟩:=hi;refine⟨_,QL ho hi YE ha,λα ρ S σ H d v Q N sl U q=>T α ρ S σ H _ N sl (q.bind λu p S1 w H1 e1 m L M P=>O w ρ S1 σ H1 _ L (sl.ext m) ((P.shift m).bind λu2 p2 S2 h J Z j z K a=>?_))⟩
 replace a:=a.shift j
 have B:=DenX.ext j M.1;have A:=(U.ext m).ext j;unfold IB at a;split at a
 .rename_i k;split at a
  .rename_i l kvs e;split at a
   .rename_i I;obtain⟨c,C,rfl,F,Y,r,E,D⟩:=Fj z e B;obtain⟨G,b⟩:=ï.mp I.1;refine⟨C,c,G,rfl,YD (X:=X) (α:=h) (H:=J) b K.1,r,?_,?_⟩
    .rw[E.length];exact ç I.2 (fits (à _))
    .have y:=z.writex F r.nf (o:=.dK (qA C G v));have n:=((sl.ext m).ext j).ext y;exact a σ h _ y (z.write F r.nf (.inl ⟨_,zS,(ET (k:=k) E (YC b) A).ex0 y.toEx0⟩)) n
   .exact a.elim
  .exact a.elim
 .exact a.elim
abbrev Yx(X:Cx)(a:Bool):R2:=λx y H Q=> ∃(ks:List (Key×V))(d:Addr)(k:Key),x=kV k/\y=.ref d/\DK X H d ks/\
 Q (.bl (if a=true then !(cU ks k).isSome else(cU ks k).isSome)) H
theorem look_same{ks:List (Key×V)}{vs:List (Key×Ŋ)}(r:KV ks vs)(k:Key):(valueAt vs k).isSome=(cU ks k).isSome:=by
 obtain⟨l1,l2⟩:=CY r k
 cases h:cU ks k with
 |none=>rw[l2 h];rfl
 |some v=>obtain⟨u,e,_⟩:=l1 v h;rw[e];rfl
def Tt:OpR X (compareOp .In) (Yx X false):=by intro pins s σ H x y v u Q I e j h;obtain⟨b,d,k,rfl,rfl,c,q⟩:=h;cases j;obtain⟨_,hs,vs,a,i⟩:=nF I c;refine wpAny_in_of (OI e) hs i.mapOf ?_;rw[look_same a k];exact⟨.bl (cU b k).isSome,H,I.kept (λ_ _ z=>z),rfl,q⟩
def YF(a:Bool)(p q:Er)(S:Sto):R Er:=match p with
 |.val k=>match uD S q with
  |some (_,kvs)=>if sT k=true then .ok (.val (.bl (if a=true then !(look kvs k).isSome else(look kvs k).isSome))) S else .no
  |none=>.no
 |_=>.no
theorem YG{kvs:E3}{ks:List (Key×V)}{k:MV}{k':Key}(l:DenK X.K α H kvs ks)(b:KeyD k k'):(cU ks k').isSome=(look kvs k).isSome:=by
 obtain⟨a,g2⟩:=qT l b
 cases h:look kvs k with
 |none=>rw[g2 h];rfl
 |some v=>obtain⟨u,e,_⟩:=a v h;rw[e];rfl
def Kg{d:Bool}:QX X W (Yx X d) (YF d):=by
 intro p q x y α S H Q h j s a;unfold YF at a;split at a
 .rename_i k;split at a
  .rename_i l kvs e;split at a
   .rename_i r;obtain⟨c,i,rfl,_,_,m,n,_⟩:=Fj h e s;obtain⟨o,b⟩:=ï.mp r;refine⟨i,c,o,YD b j,rfl,m,?_⟩;rw[YG n (YC b)];exact Post.val a h (dC _)
   .exact a.elim
  .exact a.elim
 .exact a.elim
def Tu(d:zN X W a f)(c:zN X W b g)(e:behindInMarks .In b=false:=by with_unfolding_all rfl):rO X W (.Compare a [.In] [b] pos) (λρ S=>((f ρ S).bind λp S1=>(g ρ S1).bind λq S2=>YF false p q S2).bind aV):=pS Tt Kg d c e
end
def RU(p:Er)(S:Sto):Bool:=(uD S p).isSome
section
variable{X:Cx}{W:XW}{α:B6}{H:Hp}
def vY:List Er->Sto->R Er
 |[r],S=>match uD S r with |some (_,kvs)=>.ok (.new (kvs.map (·.1))) S|none=>.no
 |_,_=>.no
def Cc(j:X.calm=true):pU X W (λxs H Q=> ∃d b,xs=[.ref d]/\DK X H d b/\X.calm=true/\ ∀l,H l=none->Q (.ref l) (xR H l (.lst (b.map λp=>kV p.1)))) vY:=by
 intro rs vs α S H Q h d a;unfold vY at a;split at a
 .split at a
  .rename_i n kvs e;obtain⟨v,rfl,o⟩:=lR d;obtain⟨c,b,rfl,h1,q,i,k,_⟩:=Fj h e o;exact⟨c,b,rfl,i,j,λl m=>Post.newl a h m (IA k)⟩
  .exact a.elim
 .exact a.elim
end
def shrC(i j:Int):Prop:=0<=j
instance(i j:Int):Decidable (shrC i j):=inferInstanceAs (Decidable (_<=_))
end M
end L2
namespace PySem
def KU:typeLookup (.type "list") "keys"=pure none:=am_miss_of_fast (by decide+kernel)
def getAttr?_miss_list{prog:Ō}{w:World}{A:ŋ}{E:VP}{s:ŉ}{a:Addr}{o:Obj}{xs:B0}{k:Nat}{name:Str}{Q:Option Ŋ->ŉ->Prop}
  (hx:s.heap.get? a=some o) (hc:o.cls=.type "list") (hdat:o.data=.seq xs k) (hd:o.dict=none) (hmiss:typeLookup (.type "list") name=pure none) (hname:(["__module__","__name__","__qualname__","__doc__","__annotations__"]:B7).contains name=false) (hA:A.handled=none)
  (h: ∀h' n,(∀b o,s.heap.get? b=some o->h'.get? b=some o)->Q none {s with heap:=h',toks:=n}) (hsz:name.length+100<=sizeLine:=by size_fits):
  wpAny (model prog w) A (getAttr? (.ref a) name) Q E s:=by
 obtain⟨c,q,r,sl⟩:=o;simp only at hc hdat hd;subst hc hdat hd;obtain⟨u,g,d,n,p⟩:=s;have m: ∀j,(⟨u,g,d,j,p⟩:ŉ).TypeIs (.ref a) "list":=λ_=>⟨_,hx,rfl⟩
 have C:=sub_AttributeError;have v:=F.slot_list_getattribute.lookup;have z:=F.slot_list_getattribute.bind (.ref a);have y:=am_list_getattr_none;unfold getAttr? getAttrBy? getAttrBy
 repeat (any_goals (first |assumption|exact m _|((with_reducible show wpAny _ _ (call (Value.builtin "list.__getattribute__") _ _) _ _ _);refine Ĺ F.slot_list_getattribute (m _) am_entry_list_getattribute (F.args_list_getattribute_2 _ _) (meets_getattribute_miss_list a xs k sl name _ hmiss hname hsz) ⟨hx,hA,λh' j e i=>?_⟩)|wp_step))
 obtain⟨t',D,B⟩:=i.there;show wpAny _ _ (getattributeRaised _ _ _ _ _ _ _) _ _ _;unfold getattributeRaised
 repeat (any_goals (first |assumption|wp_step))
 exact h _ _ i.keeps
namespace F
def entry_dict_update_loop:entryFor table "dict.update.loop"=some Builtin.«dict.update.loop»:=entryFor_of_tree (by kernel_rfl)
def plain_dict_update_loop:plainId "dict.update.loop"=true:=by decide+kernel
end F
open PyProof.Rows
end PySem
namespace L2
namespace M
open PySem PySem.Spec PyProof.Rows
variable{xs:List (NK×Addr×Ŋ)}
section
variable{X:Cx}{α:B6}{H:Hp}
def OJ(ps:List (Key×V)):List (Key×V):=ps.foldl (λa p=>qA a p.1 p.2) []
def UP{ps:List (Key×V)}{b:List (Key×Ŋ)}(r:KV ps b): ∀{as:List (Key×V)}{bs:List (Key×Ŋ)},KV as bs->KV (ps.foldl (λa p=>qA a p.1 p.2) as) (merged bs b):=by
 induction r with
 |nil=>intro as bs h;exact h
 |@cons p q ps b h t ih=>
  intro as bs c;rw[ě];show KV _ _;rw[h.1];exact ih (RR c _ h.2)
theorem YH(ps:List (Key×V)):(OJ ps).length<=ps.length:=by
 have: ∀(ps as:List (Key×V)),(ps.foldl (λa p=>qA a p.1 p.2) as).length<=as.length+ps.length:=by
  intro ps
  induction ps with
  |nil=>intro as;exact à _
  |cons p ps ih=>
   intro as;rw[ě,lC];have:=ih (qA as p.1 p.2);have:=uC as p.1 p.2
   lia
 have:=this ps [];rw[ú,Ă]at this;exact this
def Cd(ps:E3):List (MV×MV):=ps.foldl (λa p=>putK a p.1 p.2) []
theorem vZ: ∀{kvs:E3}{ps:List (Key×V)},DenK X.K α H kvs ps-> ∀{as:E3}{bs:List (Key×V)},DenK X.K α H as bs->DenK X.K α H (kvs.foldl (λb p=>putK b p.1 p.2) as) (ps.foldl (λb p=>qA b p.1 p.2) bs)
 |_,_,.nil,as,bs,h=>h
 |_,_,.cons hk a l,as,bs,h=>by exact vZ l (ET h hk a)
def KW:bootBuiltins "dict"=some (.type "dict"):=by decide+kernel
end
section
variable{X:Cx}{W:XW}{b o e:Expr}{es:C5}{f:AX}{af:Rho->Sto->R (List Er)}{apos pos:Pos}{α:B6}{H:Hp}{pins:C0}{σ:St}{s:ŉ}
def OK(ks ps:List (Key×V)):List (Key×V):=ps.foldl (λa p=>qA a p.1 p.2) ks
theorem IC: ∀(ps ks:List (Key×V)),(OK ks ps).length<=ks.length+ps.length
 |[],ks=>à _
 |p::ps,ks=>by have h1:=IC ps (qA ks p.1 p.2);have a:=uC ks p.1 p.2;show(OK (qA ks p.1 p.2) ps).length<=_;rw[lC];omega
def Nb(X:Cx):V->List V->Hp->VK->Prop:=λx vs H Q=> ∃(ks ps:List (Key×V))(d p:Addr),x=.ref d/\vs=[.ref p]/\d≠p/\DK X H d ks/\DK X H p ps/\ks.length+ps.length<2000000/\Q .non (xR H d (.dK (OK ks ps)))
def Kh:Gk X "dict.update" (Nb X):=by
 intro pins s σ H x vs v us Q I M E h;obtain⟨i,ps,d,p,rfl,rfl,n,j,B,U,q⟩:=h;obtain⟨W,rfl,G⟩:=vals1 E;cases M;cases G;have L:s.TypeIs (.ref d) "dict":=(KR pins s σ H (.ref d) (.ref d) I rfl ⟨d,i,rfl,j⟩).1;obtain⟨z,hs,vs,A,O⟩:=nF I j;obtain⟨T,o,c,a,m⟩:=nF I B;have P:i.length=vs.length:=Paired.length A;have D:ps.length=c.length:=Paired.length a;have y:=Ĕ
 refine call_meetsIn PySem.F.slot_dict_update L PySem.F.entry_dict_update (PySem.F.args_dict_update_2 _ _) (meets_dict_update (xE X.prog X.w) d p n o)
  ⟨vs,c,O,m,by rw[y];omega,λh' u _ K=>?_⟩
 have r: ∃q,h'.get? d=some q:=let ⟨q,_,_,J,_⟩:=u;⟨q,J⟩;have C:=IC ps i;refine⟨.non,xR H d (.dK (OK i ps)),?_,rfl,q⟩;exact I.write (t':=_) (x:=d) (e:=d) (RT j) (.inl rfl) (λb S k N=>(K.2 b k).trans N) r ⟨by rw[y];omega,hs,_,UP a A,u⟩
def wU(kvs ps:E3):List (MV×MV):=ps.foldl (λa p=>putK a p.1 p.2) kvs
def EU(p:Er)(rs:List Er)(S:Sto):R Er:=match rs with
 |[r]=>match uD S p with
  |some (l,kvs)=>match uD S r with
   |some (m,ps)=>if l≠m/\kvs.length+ps.length<1000000 then .ok (.val .non) (S.set l (.dic (wU kvs ps)))else .no
   |none=>.no
  |none=>.no
 |_=>.no
def Ki:NG X W (Nb X) EU:=by
 intro p rs x vs α S H0 H Q E h D u v a;unfold EU at a;split at a
 .rename_i r;split at a
  .rename_i l kvs y;split at a
   .rename_i m ps C;split at a
    .rename_i A
     cases v with
     |cons dv n1 l1=>
     cases l1;obtain⟨c,j,rfl,h1,F,d,q,_⟩:=Fj h y u;obtain⟨n,b,rfl,B,w,e,i,_⟩:=Fj h C dv.1;have k:c≠n:=λz=>A.1 (by subst z;exact(List.getElem?_inj (gS.mp h1).1 h.nd).mp (h1.trans B.symm));have I:j.length=kvs.length:=DenK.length q;have G:b.length=ps.length:=DenK.length i;refine⟨j,b,c,n,rfl,rfl,k,d,e,by omega,?_⟩;have s:=h.writex h1 d.nf (o:=.dK (OK j b));exact(Post.shift (D.trans s) a).val (h.write h1 d.nf (.inl ⟨_,zS,(vZ i q).ex0 s.toEx0⟩)) tL
    .exact a.elim
   .exact a.elim
  .exact a.elim
 .exact a.elim
def Kj(ho:zN X W o f)(b:CN X W (e::es) af)
  (hbase:attributeBase o "update" X.env (eval o X.env)=eval o X.env:=by rfl)
  (hfew:((backTo pos (starEach (e::es) X.env)).all (λx=>!x.1)&&(backToKw pos (keywordEach [] X.env)).all (λx=>x.1.isSome)
   &&decide ((e::es).length+([]:List Keyword).length+(if([]:List Keyword).isEmpty then 0 else 1)<30))=true:=by rfl)
  (hline:(apos.endLine==pos.line)=true:=by rfl) (hs:q9 X e es:=by rfl) (hplain:Q0 X pos es:=by rfl):
  zN X W (.Call (.Attribute o "update" apos) (e::es) [] pos) (λρ S=>(f ρ S).bind λp S1=>if RU p S1=true then(af ρ S1).bind λrs S2=>EU p rs S2 else .no):=by
 obtain⟨to,ho,A⟩:=ho;obtain⟨t,b,k⟩:=b;refine⟨_,KP KR PySem.F.plainAttrs_dict PySem.F.slot_dict_update PySem.F.type_dict_update Kh ho b hbase hfew hline hs hplain,λα ρ S σ H Q z sl q=>A α ρ S σ H _ z sl (q.bind λu p S1 a H1 D r j m h=>?_)⟩;split at h
 .rename_i i;obtain⟨⟨l,kvs⟩,i⟩:=ï.mp i;obtain⟨c,xs,rfl,_,_,s,_⟩:=Fj j i m.1;exact⟨⟨c,xs,rfl,s⟩,k a ρ S1 σ H1 _ j (sl.ext r) ((h.shift r).bind λvs rs S2 d v C n B w y=>Ki p rs _ vs d S2 H1 v Q a B n (m.1.ext n) w y)⟩
 .exact h.elim
end
section
variable{prog:Ō}{w:World}{K:Type}[DecidableEq K]{knd:KeyKind prog w K}
def TSet(knd:KeyKind prog w K)(h:Heap)(a:Addr)(S:K->Bool)(n:Nat)(b:Bool):Prop:=
 ∃o es ep t,h.get? a=some o/\o.ExactSet/\o.data=.set es ep t/\ElemsOf knd es.toList/\(∀k,S k=true↔ ∃e∈es.toList,knd.is k e.2=true)
  /\es.size<scanBound/\t.fits es.size=true/\es.size=n/\t.led=b/\(es.size=0\/t.plain=false)/\(es.toList.map (·.2)).Pairwise (λx y=> ∀k,knd.is k x=true-> ¬knd.is k y=true)
end
def StrT(val:Nat->Key)(i:Nat)(v:Ŋ):Prop:= ∃x t,val i=.inr x/\v=.str x t
def StrT.is{P:Ō}{w:World}{val:Nat->Key}{i:Nat}{v:Ŋ}(h:StrT val i v):(xE P w).is (val i) v=true/\v.scannable=true/\plainKind v=false:=by obtain⟨x,t,e,rfl⟩:=h;rw[e];exact⟨pN P w x t,rfl,rfl⟩
def SetAt(h:Heap)(D:Addr)(es:Array (Int×Ŋ))(ep:Nat)(t:SetTable):Prop:= ∃o,h.get? D=some o/\o.ExactSet/\o.data=.set es ep t/\t.fits es.size=true
def SetAt.keep{h h':Heap}{D:Addr}{es:Array (Int×Ŋ)}{ep:Nat}{t:SetTable}(x:SetAt h D es ep t)(m: ∀o,h.get? D=some o->h'.get? D=some o):SetAt h' D es ep t:=by obtain⟨o,a,r⟩:=x;exact⟨o,m o a,r⟩
section
variable{X:Cx}{W:XW}
def Ce:CallR X (.type "dict") (λxs H Q=> ∃d a,xs=[.ref d]/\DK X H d a/\ ∀p,H p=none->Q (.ref p) (xR H p (.dK a))):=by intro pins s σ H xs us Q I r h;obtain⟨d,a,rfl,m,q⟩:=h;obtain⟨u,rfl,v⟩:=vals1 r;cases v;obtain⟨n,hs,vs,j,hd⟩:=nF I m;have y:a.length=vs.length:=Paired.length j;refine kt_call_dict (knd:=xE X.prog X.w) (more:=vs) hs hd (by omega) λh' c i=>?_;have k: ∀b o,s.heap.get? b=some o->h'.get? b=some o:=λb o e=>(i.2 b (ë (â e))).trans (hP0 _ e);refine⟨.ref ↑0,_,I.laid (t':=s.toks) k (à _) (show ObjOk X.prog X.w _ h' _ (.dK a)from⟨n,ŀ.mpr (Ne.symm (ë (KE I))),_,j,c⟩),rfl,q _ (I.hok.fresh (à _))⟩
def RV:List Er->Sto->R Er
 |[r],S=>match uD S r with |some (_,kvs)=>.ok (.val (.loc S.length)) (S++[.dic kvs])|none=>.no
 |_,_=>.no
def Tv:pU X W (λxs H Q=> ∃d b,xs=[.ref d]/\DK X H d b/\ ∀p,H p=none->Q (.ref p) (xR H p (.dK b))) RV:=by
 intro rs vs α S H Q h d a;unfold RV at a;split at a
 .split at a
  .rename_i l kvs e;obtain⟨v,rfl,q⟩:=lR d;obtain⟨c,b,rfl,s,u,n,k,_⟩:=Fj h e q;refine⟨c,b,rfl,n,λp j=>?_⟩;have i:=h.newx (o:=.dK b) j;obtain⟨x,r⟩:=h.put (ho:=.dK b) (m:=.dic kvs) j (.inl ⟨_,zS,k.ex0 ⟨⟨[p],rfl⟩,i.tup,i.frz⟩⟩);exact a (.ref p) (α++[p]) _ x r (DenE.val (mP (by rw[<-h.len,æ (à _),sub_self];rfl)))
  .exact a.elim
 .exact a.elim
end
section
variable{X:Cx}{W:XW}{o e:Expr}{es:C5}{f:AX}{af:Rho->Sto->R (List Er)}{apos pos:Pos}
def rSX(X:Cx):V->List V->Hp->VK->Prop:=λx vs H Q=> ∃(ks:List (Key×V))(d:Addr)(k:Key)(y:V),x=.ref d/\vs=[kV k,y]/\DK X H d ks/\ks.length<sizeLine/\(∀v,cU ks k=some v->Q v H)/\(cU ks k=none->Q y (xR H d (.dK (qA ks k y))))
theorem Tw:Gk X "dict.setdefault" (rSX X):=by
 intro pins s σ H x vs v us Q I M z h;obtain⟨i,d,k,y,rfl,rfl,j,U,J,C⟩:=h;obtain⟨W,P,rfl,A,r⟩:=vals2 z;cases M;have w:s.TypeIs _ "dict":=(KR pins s σ H (.ref d) _ I rfl ⟨d,i,rfl,j⟩).1;obtain⟨_,hs,ws,n,O⟩:=nF I j;have S:=Paired.length n;obtain⟨l1,l2⟩:=CY n k;have Y:=uC i k y;refine ì PySem.F.slot_dict_setdefault w PySem.F.entry_dict_setdefault ?_ (PySem.F.args_dict_setdefault_3 _ _ _);unfold Builtin.«dict.setdefault»;refine wB ?_;unfold Builtin.Dict.keyAndDefault;refine wB (Ġ w ?_);show wpAny _ _ _ _ _ s;refine wP ?_;show wpAny _ _ (if _=true then _ else _) _ _ s;rw[iN (by rw[hs];exact xF0)];refine wB (kt_dictSetDefault_pairs (OI A) O (λu p=>?_) (λK h' c m=>?_) #[0])
 .cases a:cU i k with
  |some v=>
   obtain⟨E,e,B⟩:=l1 v a;rw[p]at e;cases e;exact wP ⟨u,rfl,v,H,I.tok _,B,J v a⟩
  |none=>rw[l2 a]at p;cases p
 .cases a:cU i k with
  |some v=>
   obtain⟨E,e,_⟩:=l1 v a;rw[K]at e;cases e
  |none=>
   have L: ∃q,h'.get? d=some q:=let ⟨q,_,_,D,_⟩:=c;⟨q,D⟩;exact wP ⟨P,rfl,y,_,I.write (o:=.dK _) (RT j) (.inl rfl) (λb T G N=>(m.2 b G).trans N) L ⟨by lia,hs,_,RR n _ r,c⟩,r,C a⟩
def OL(p:Er)(k y:MV)(S1:Sto):R Er:=match uD S1 p with
 |some (l,kvs)=>if sT k=true/\kvs.length<1000000 then(match look kvs k with
  |some d=>.ok (.val d) S1
  |none=>.ok (.val y) (S1.set l (.dic (putK kvs k y))))else .no
 |none=>.no
def Cf(p:Er)(rs:List Er)(S:Sto):R Er:=match rs with
 |[.val k,r]=>(wQ r S).bind λy S1=>OL p k y S1
 |_=>.no
def Tx:NG X W (rSX X) Cf:=by
 intro p rs x vs α S H0 H Q n M T I q a
 match rs,q,a with
 |[],_,a=>exact a.elim
 |[.val _],_,a=>exact a.elim
 |.new _::_,_,a=>exact a.elim
 |.val _::_::_::_,_,a=>exact a.elim
 |[.val k,r],q,a=>
  cases q with
  |cons dk n1 l1=>
   cases l1 with
   |cons d n2 l2=>
    cases l2;obtain⟨L,S',α',O,F,A,j,z⟩:=bR M T d;have a:Post X.g W n H0 ((wQ r S).bind λy S1=>OL p k y S1) Q:=a;rw[O]at a;have a:Post X.g W n H0 (OL p k L S') Q:=a;unfold OL at a;split at a
    .rename_i l kvs B;split at a
     .rename_i D
      have u:DenX X.K α' H p x:=by
       cases p with
       |val m=>exact Den.ex0 A I
       |new ds=>cases B
      obtain⟨c,G,rfl,o,U,b,s,_⟩:=Fj j B u;obtain⟨N,h⟩:=ï.mp D.1;obtain⟨E,g2⟩:=qT s (YC h);have P:=YD h (Den.ex0 A dk.1);subst P;refine⟨G,c,N,_,rfl,rfl,b,?_,λv e=>?_,λe=>?_⟩
      .rw[s.length];exact ç D.2 (fits (à _))
      .cases i:look kvs k with
       |some d2=>
        obtain⟨J,w,C⟩:=E d2 i;rw[w]at e;cases e;rw[i]at a;exact(Post.shift F a).val j C
       |none=>rw[g2 i]at e;cases e
      .cases i:look kvs k with
       |some d2=>obtain⟨J,w,C⟩:=E d2 i;rw[w]at e;cases e
       |none=>
        rw[i]at a;exact(Post.shift (F.trans (j.writex o b.nf)) a).val (j.write o b.nf (.inl ⟨_,zS,(ET s (YC h) z).ex0 (j.writex o b.nf).toEx0⟩)) (z.ext (j.writex o b.nf))
     .exact a.elim
    .exact a.elim
def Ua(ho:zN X W o f)(b:CN X W (e::es) af)
  (hbase:attributeBase o "setdefault" X.env (eval o X.env)=eval o X.env:=by rfl)
  (hfew:((backTo pos (starEach (e::es) X.env)).all (λx=>!x.1)&&(backToKw pos (keywordEach [] X.env)).all (λx=>x.1.isSome)
   &&decide ((e::es).length+([]:List Keyword).length+(if([]:List Keyword).isEmpty then 0 else 1)<30))=true:=by rfl)
  (hline:(apos.endLine==pos.line)=true:=by rfl) (hs:q9 X e es:=by rfl) (hplain:Q0 X pos es:=by rfl):
  zN X W (.Call (.Attribute o "setdefault" apos) (e::es) [] pos) (λρ S=>(f ρ S).bind λp S1=>if RU p S1=true then(af ρ S1).bind λrs S2=>Cf p rs S2 else .no):=by
 obtain⟨to,ho,A⟩:=ho;obtain⟨t,b,k⟩:=b;refine⟨_,KP KR PySem.F.plainAttrs_dict PySem.F.slot_dict_setdefault PySem.F.type_dict_setdefault Tw ho b hbase hfew hline hs hplain,λα ρ S σ H Q z sl q=>A α ρ S σ H _ z sl (q.bind λu p S1 a H1 D r j m h=>?_)⟩;split at h
 .rename_i i;obtain⟨⟨l,kvs⟩,i⟩:=ï.mp i;obtain⟨c,xs,rfl,_,_,s,_⟩:=Fj j i m.1;exact⟨⟨c,xs,rfl,s⟩,k a ρ S1 σ H1 _ j (sl.ext r) ((h.shift r).bind λvs rs S2 d v C n B w y=>Tx p rs _ vs d S2 H1 v Q a B n (m.1.ext n) w y)⟩
 .exact h.elim
end
section
variable{X:Cx}{W:XW}{a b:Expr}{f g:AX}{pos:Pos}
abbrev BF:=Fg (λ_ _=>True) λi j=>Builtin.bitAnd i j
abbrev Ub:=Fg (λ_ _=>True) λi j=>Builtin.bitOr i j
def Kk(c:zN X W a f)(d:zN X W b g):zN X W (.BinOp a .BitAnd b pos) (λρ S=>(f ρ S).bind λp S1=>(g ρ S1).bind λq S2=>BF p q S2):=BB Ox JT c d
def Uc(c:zN X W a f)(d:zN X W b g):zN X W (.BinOp a .BitOr b pos) (λρ S=>(f ρ S).bind λp S1=>(g ρ S1).bind λq S2=>Ub p q S2):=BB Ww JT c d
end
section
variable{P:Ō}{w:World}{KK:Type}[DecidableEq KK]{knd:HeapKind P w KK}{A:ŋ}{E:VP}{s:ŉ}{d a:Addr}{k:KK}{xs:List (KK×Addr×Ŋ)}
def YI{Q:Option Ŋ->ŉ->Prop}(i:knd.room A)(b:knd.is s.heap k a)(u:s.heap.DictOfH knd d xs)(h:Q ((atKey xs k).map (·.2)) {s with toks:=s.toks+knd.draws k}):wpAny (model P w) A (dictGet d (.ref a)) Q E s:=by
 obtain⟨o,es,ep,m,v,hd,r,e,q⟩:=u;unfold dictGet
 try with_reducible refine ù ?_
 refine wB (knd.pyHash i b ?_);refine wB (wpAny_dictFind_heap (s:={s with toks:=s.toks+knd.draws k}) i b m hd r e q ?_ ?_)
 .intro c;rw[atKey_none_of_get c]at h;exact wP h
 .intro j p n;refine wB (ę (s:={s with toks:=s.toks+knd.draws k}) m hd ?_);rw[entry_at r j,n];rw[atKey_of_get q n]at h;exact wP h
end
section
variable{X:Cx}{W:XW}{o e:Expr}{es:C5}{f:AX}{af:Rho->Sto->R (List Er)}{apos pos:Pos}
def rGD(X:Cx):V->List V->Hp->VK->Prop:=λx vs H Q=> ∃(α:B6)(kvs:E3)(xs:List (NK×Addr×Ŋ))(a d:Addr)(k:MV)(nk:NK)(y:V),x=.ref d/\vs=[.ref a,y]/\DD X H d xs/\DenN X.K α H kvs xs/\yZ k=some nk/\iR nk<=4/\Den X.K α H k (.ref a)/\
 (∀b v,look kvs k=some b->Den X.K α H b v->Q v H)/\(look kvs k=none->Q y H)
def Yy(W:X.A.units+64<cLine):Gk X "dict.get" (rGD X):=by
 intro pins s σ H x vs v us Q I N B h;obtain⟨α,kvs,xs,a,d,k,O,y,rfl,rfl,n,l,j,e,r,L,E⟩:=h;obtain⟨U,P,rfl,D,K⟩:=vals2 B;cases N;cases D;obtain⟨u,J,hs⟩:=qS I n l;have M:s.TypeIs (.ref d) "dict":=(vX pins s σ H (.ref d) (.ref d) I rfl ⟨d,xs,rfl,n⟩).1;have b:=CS l j;refine ì PySem.F.slot_dict_get M PySem.F.entry_dict_get ?_ (PySem.F.args_dict_get_3 _ _ _);show wpAny _ _ (dictGet d (.ref a) >>= _) _ _ s;refine wB (YI (knd:=zU X.prog X.w) (show X.A.units+1+4<cLine by omega) ⟨vU I j r rfl,e⟩ u ?_)
 cases m:atKey xs O with
 |some p=>
  rw[m]at b;obtain⟨G,c⟩:=ï.mp (show(look kvs k).isSome=true from b.symm);obtain⟨S,T,o,q,g2,C⟩:=KQ l j c;rw[m]at q;cases q;exact wP ⟨_,rfl,o,H,I.kept (t':=_) (λ_ _ z=>z),C,L G o c g2⟩
 |none=>
  rw[m]at b
  have i:look kvs k=none:=by
   cases z:look kvs k with
   |none=>rfl
   |some _=>rw[z]at b;cases b
  show wpAny _ _ (Builtin.Dict.missed d (.ref a) >>= _) _ _ _;exact wB (wpAny_missed_other hs (wP ⟨P,rfl,y,H,I.kept (t':=_) (λ_ _ z=>z),K,E i⟩))
def uE(p:Er)(rs:List Er)(S:Sto):R Er:=match rs with
 |[.val k,r]=>match bL S p with
  |some (_,kvs)=>if keyOk k=true then(match look kvs k with
   |some d=>.ok (.val d) S
   |none=>.ok r S)else .no
  |none=>.no
 |_=>.no
def Yz:NG X W (rGD X) uE:=by
 intro p rs x vs α S H0 H Q w b h i j a;unfold uE at a;split at a
 .rename_i k r
  cases j with
  |cons dk n1 l1=>
   cases l1 with
   |cons dy n2 l2=>
    cases l2;split at a
    .rename_i l kvs m;split at a
     .rename_i u;obtain⟨v,h1,q,s⟩:=tZ u;obtain⟨c,xs,rfl,B,z,e,n⟩:=sO b m i;obtain⟨o,rfl⟩:=CT (X:=X) (α:=α) (H:=H) s dk.1;refine⟨α,kvs,xs,o,c,k,v,_,rfl,rfl,e,n,h1,q,dk.1,λy A d g2=>?_,λd=>?_⟩
      .rw[d]at a;exact(Post.shift h a).val b g2
      .rw[d]at a;exact a _ α H h b dy
     .exact a.elim
    .exact a.elim
 .exact a.elim
def Zb(D:X.A.units+64<cLine)(ho:zN X W o f)(b:CN X W (e::es) af)
  (hbase:attributeBase o "get" X.env (eval o X.env)=eval o X.env:=by rfl)
  (hfew:((backTo pos (starEach (e::es) X.env)).all (λx=>!x.1)&&(backToKw pos (keywordEach [] X.env)).all (λx=>x.1.isSome)
   &&decide ((e::es).length+([]:List Keyword).length+(if([]:List Keyword).isEmpty then 0 else 1)<30))=true:=by rfl)
  (hline:(apos.endLine==pos.line)=true:=by rfl) (hs:q9 X e es:=by rfl) (hplain:Q0 X pos es:=by rfl):
  zN X W (.Call (.Attribute o "get" apos) (e::es) [] pos) (λρ S=>(f ρ S).bind λp S1=>if qB p S1=true then(af ρ S1).bind λrs S2=>uE p rs S2 else .no):=by
 obtain⟨to,ho,B⟩:=ho;obtain⟨t,b,k⟩:=b;refine⟨_,KP vX PySem.F.plainAttrs_dict PySem.F.slot_dict_get PySem.F.type_dict_get (Yy D) ho b hbase hfew hline hs hplain,λα ρ S σ H Q z sl q=>B α ρ S σ H _ z sl (q.bind λu p S1 a H1 G r j m h=>?_)⟩;split at h
 .rename_i i;obtain⟨⟨l,kvs⟩,i⟩:=ï.mp i;obtain⟨c,xs,rfl,_,_,s,_⟩:=sO j i m.1;exact⟨⟨c,xs,rfl,s⟩,k a ρ S1 σ H1 _ j (sl.ext r) ((h.shift r).bind λvs rs S2 d v E n C w y=>Yz p rs _ vs d S2 H1 v Q a C n (m.1.ext n) w y)⟩
 .exact h.elim
end
section
variable{P:Ō}{w:World}{A:ŋ}{E:VP}{s:ŉ}{R:Result->ŉ->Prop}
def AA{h h':Heap}{k:NK}{a:Addr}(x:(zU P w).is h k a)(m: ∀b o,h.get? b=some o->h'.get? b=some o):(zU P w).is h' k a:=⟨DT (λb o _ _ e _=>m b o e) x.1,x.2⟩
def Cg(P:Ō)(w:World)(h:Heap)(x:NK×Addr×Ŋ)(v:Ŋ):Prop:= ∃t,v=.ref t/\IsTup h t #[.ref x.2.1,x.2.2]/\(zU P w).is h x.1 x.2.1
def rP(xs:List (NK×Addr×Ŋ)):List (NK×Addr×Ŋ):=xs.foldl (λa x=>storedH a x.1 x.2.1 x.2.2) []
def IE(xs:List (NK×Addr×Ŋ)):(rP xs).length<=xs.length:=by
 have: ∀(xs b:List (NK×Addr×Ŋ)),(xs.foldl (λb x=>storedH b x.1 x.2.1 x.2.2) b).length<=b.length+xs.length:=by
  intro xs
  induction xs with
  |nil=>intro b;exact à _
  |cons x xs ih=>
   intro b;rw[ě,lC];have:=ih (storedH b x.1 x.2.1 x.2.2);have:=sP (xs:=b) (k:=x.1) (a:=x.2.1) (u:=x.2.2);omega
 have:=this xs [];rw[ú,Ă]at this;exact this
theorem RW(xs:List (NK×Addr×Ŋ))(i:Nat)(x:NK×Addr×Ŋ)(h:xs[i]? =some x):rP (xs.take (i+1))=storedH (rP (xs.take i)) x.1 x.2.1 x.2.2:=by unfold rP;rw[List.take_add_one,h,List.foldl_append];rfl
def YJ{p:NK->Addr->Prop}{k:NK}{a:Addr}{u:Ŋ}(h: ∀x∈xs,p x.1 x.2.1)(d:p k a): ∀x∈storedH xs k a u,p x.1 x.2.1:=by
 intro x b
 cases z:atKey xs k with
 |none=>
  rw[storedH_new z]at b;rcases é.mp b with b|b
  .exact h x b
  .rw[mS.mp b];exact d
 |some q=>
  rw[storedH_old z]at b;obtain⟨y,c,rfl⟩:=mM.mp b;unfold putAt;split
  .exact h y c
  .exact h y c
def OM{p:NK->Addr->Prop}(h: ∀x∈xs,p x.1 x.2.1): ∀x∈rP xs,p x.1 x.2.1:=by
 have: ∀(xs a:List (NK×Addr×Ŋ)),(∀x∈xs,p x.1 x.2.1)->(∀x∈a,p x.1 x.2.1)-> ∀x∈xs.foldl (λa x=>storedH a x.1 x.2.1 x.2.2) a,p x.1 x.2.1:=by
  intro xs
  induction xs with
  |nil=>intro a _ c;exact c
  |cons y ys ih=>
   intro a b c;rw[ě];exact ih _ (λx d=>b x (mO _ d)) (YJ c (b y mF0))
 exact this xs [] h λx b=>by simp at b
def IF{h h':Heap}{D:Addr}(j:h.DictOfH (zU P w) D xs)(k: ∀o,h.get? D=some o->h'.get? D=some o)(a: ∀x∈xs,(zU P w).is h' x.1 x.2.1):h'.DictOfH (zU P w) D xs:=
 let ⟨o,es,ep,i,c,d,b,_,e⟩:=j;⟨o,es,ep,k o i,c,d,b,a,e⟩
def RX{I D:Addr}{fp:B6}{n:Nat}{Pv:Nat->Ŋ->Prop}{St:Nat->Heap->Prop}(W:Walks P w A.in1 I fp [I] n Pv St)(B:D∉fp)(kvs:List (NK×Addr×Ŋ))(hn:kvs.length=n)(hz:n<=sizeLine)(u:(zU P w).room A.in1){h₀:Heap}
  (hP: ∀i v,Pv i v-> ∃r,kvs[i]? =some r/\Cg P w h₀ r v) (hK: ∀x∈kvs,(zU P w).is h₀ x.1 x.2.1) (hI:h₀.get? I=none) (hD:h₀.get? D=none):
  ∀(k i:Nat)(j:Int)(s:ŉ),n - i=k->i<=n->St i s.heap->s.heap.DictOfH (zU P w) D (rP (kvs.take i))->(∀b o,h₀.get? b=some o->s.heap.get? b=some o)->
   (∀h' z,(∀b o,h₀.get? b=some o->h'.get? b=some o)->h'.DictOfH (zU P w) D (rP kvs)->R (.ok (.ret .none)) {s with heap:=h',toks:=z})->
   codeAny (model P w) A (.builtin "dict.update.loop" ⟨[.ref D,.ref I,rawInt j,.none],[]⟩) R s:=by
 have C:D≠I:=λe=>B (e▸W.sub _ (mS.mpr rfl));intro k
 induction k with
 |zero=>
  intro i j s hk hi y M d Z;have O:i=n:=by omega
  subst O;refine Ņ F.entry_dict_update_loop ?_;rw[Ħ F.plain_dict_update_loop _];show wpAny _ A.in1 (pyNext (.ref I) >>= _) _ _ s;refine wB (W.done s _ _ y λh' z p=>?_);show wpAny _ A.in1 (Builtin.Dict.addKeywords D [] >>= λ_=>ret Value.none) _ _ _;refine wB (wP ?_);rw[<-hn,take_length]at M;refine wP (Z h' z (λb o e=>?_) ?_)
  .exact p b o (λh=>by rw[mS.mp h,hI]at e;cases e) (d b o e)
  .exact IF M (λo e=>p D o (λh=>C (mS.mp h)) e) λx K=>AA (OM hK x K) λb o e=>p b o (λh=>by rw[mS.mp h,hI]at e;cases e) (d b o e)
 |succ k ih=>
  intro i j s hk hi y M d Z;have L:i<n:=by omega
  refine Ņ F.entry_dict_update_loop ?_;rw[Ħ F.plain_dict_update_loop _];show wpAny _ A.in1 (pyNext (.ref I) >>= _) _ _ s;refine wB (W.item i s _ _ L y λv h' z S J p=>?_);obtain⟨r,N,a,rfl,hT,H⟩:=hP i v S;have c: ∀b o,h₀.get? b=some o->h'.get? b=some o:=λb o e=>p b o (λh=>by rw[mS.mp h,hI]at e;cases e) (d b o e);have U: ∀(m:Nat), ∀x∈kvs.take m,(zU P w).is h₀ x.1 x.2.1:=λm x K=>hK x (mem_of_mem_take K);have T:h'.DictOfH (zU P w) D (rP (kvs.take i)):=IF M (λo e=>p D o (λh=>C (mS.mp h)) e) λx K=>AA (OM (U i) x K) c;obtain⟨o,ho,hc,nn,E⟩:=hT.keeps c;have Y:Shared.TypeIs {s with heap:=h',toks:=z} (.ref a) "tuple":=⟨o,ho,hc⟩
  refine wB (ù ?_);refine wB (wpAny_tryCatch ?_);unfold Builtin.Dict.pairItems;refine wB (ĝ Y ?_);rw[iP (by decide)];refine wB ?_;show wpAny _ _ (do match (<-load a).data with |.seq xs _=>pure (some xs)|_=>pure none) _ _ _;refine wB (wpAny_load ho ?_);rw[E];refine wP (wP ?_);show wpAny _ _ (holding [.ref r.2.1,r.2.2] (dictSet D (.ref r.2.1) r.2.2)) _ _ _;refine ù ?_;have aa:=IE (kvs.take i);have ab:(kvs.take i).length<=n:=by rw[<-hn];exact List.length_take_le' i kvs
  refine wpAny_dictSet_heap (knd:=zU P w) (s:={s with heap:=h',toks:=z}) (hsz:=by omega) u (AA H c) T λh2 X G=>?_;have q: ∀b o,h₀.get? b=some o->h2.get? b=some o:=λb o e=>by rw[G.2 b (λh=>by rw[h,hD]at e;cases e)];exact c b o e
  refine wP ⟨plainId_quiet F.plain_dict_update_loop _,ih (i+1) (j+1) _ (by omega) L (W.frame _ _ _ J λb hb o e=>?_) ?_ q λh3 Q k3 d3=>Z h3 Q k3 d3⟩
  .rw[G.2 b (λh=>B (h▸hb))];exact e
  .rw[RW _ _ _ N];exact X
def AB{l:Addr}{its:B0}{o:Obj}{c:Nat}{kvs:List (NK×Addr×Ŋ)}{Q:VP}(U:A.units+64<cLine)(z:A.handled=none)(ho:s.heap.get? l=some o)(y:o.cls=.type "list")(hd:o.dict=none)(d:o.data=.seq its c)(u:its.size=kvs.length)(hz:its.size<=sizeLine)
  (hP: ∀(i:Nat) v,its[i]? =some v-> ∃H,kvs[i]? =some H/\Cg P w s.heap H v) (hK: ∀x∈kvs,(zU P w).is s.heap x.1 x.2.1)
  (h: ∀h' B,(∀b o,s.heap.get? b=some o->h'.get? b=some o)->h'.DictOfH (zU P w) ↑0 (rP kvs)->Q (.ref ↑0) {s with heap:=h',toks:=B}):
  wpAny (model P w) A (call (.type "dict") [.ref l]) Q E s:=by
 refine callType_codes (Q₁:=λp j=>p=.ref ↑0/\j={s with heap:=s.heap.push {cls:=.type "dict",data:=.dict #[]}}) F.kt_called_dict (F.kt_typeCall_dict_1 _) F.entry_dict_init (kt_code_dict_new _ ⟨rfl,rfl⟩) ?_;rintro p j ⟨rfl,rfl⟩;have a:(s.heap.push {cls:=.type "dict",data:=.dict #[]}).DictOfH (zU P w) ↑0 []:=Heap.DictOfH.new s.heap;have m:(s.heap.push {cls:=.type "dict",data:=.dict #[]}).get? l=some o:=hP0 _ ho;have G:=â ho;refine⟨a.typeIs,F.args_dict_init_2 _ _,?_⟩;unfold Builtin.«dict.__init__»;refine wB ?_;unfold Builtin.Dict.selfAndRest;refine wB (Ġ a.typeIs ?_);show wpAny _ _ (pure (↑0,[Value.ref l])) _ _ _;refine wP ?_;show wpAny _ _ (Builtin.Dict.updateFrom "dict.__init__" ↑0 (.ref l) [] .none) _ _ _;unfold Builtin.Dict.updateFrom;refine wB (ĝ (T:="list") ⟨o,m,y⟩ ?_);rw[iP (by decide)];refine wB (getAttr?_miss_list m y d hd KU (by decide+kernel) z (λh1 K k1=>?_) (by decide+kernel));rw[iP (show(none:Option Ŋ).isNone=true from rfl)];refine wB (ĕ ?_);have n:=k1 l o m;refine wB (wpAny_pyIter_list (items:=its) ⟨o,n,y,c,d⟩ ?_);have I:l≠h1.objs.size:=ë (â n);have q:↑0<h1.objs.size:=by obtain⟨r,_,_,k,_⟩:=a;exact â (k1 _ _ k)
 refine wP ⟨plainId_quiet F.plain_dict_update_loop _,RX (P:=P) (w:=w) (h₀:=s.heap) (D:=↑0) (Walks.list (by first |exact z|exact(show A.in1.in1.handled=none from z)) h1.objs.size l I its) ?_ kvs u.symm hz (by show _+4<cLine;first |(show A.units+1+1+4<cLine;omega)|(show A.units+1+4<cLine;omega)|(show A.units+4<cLine;omega)) hP hK ?_ ?_ _ 0 0 _ rfl (zero_le _) ⟨⟨_,ã _ rfl,rfl,rfl⟩,⟨o,hP0 _ n,y,c,d⟩⟩ ?_ ?_ λh' B N C=>?_⟩
 .rw[mC,mS];rintro(e|e)
  .exact ë q e
  .exact ë G e.symm
 .cases k:s.heap.get? h1.objs.size with
  |none=>rfl
  |some r=>exact absurd (â k) (Nat.lt_asymm q)
 .cases k:s.heap.get? ↑0 with
  |none=>rfl
  |some r=>exact absurd (â k) (ı _)
 .obtain⟨r,es,ep,k,J,M,L,_,O⟩:=a;exact⟨r,es,ep,hP0 _ (k1 _ _ k),J,M,L,λx S=>(by cases S),O⟩
 .intro b r e;exact hP0 _ (k1 _ _ (hP0 _ e))
 .exact⟨rfl,h h' B N C⟩
end
section
variable{X:Cx}{W:XW}{α:B6}{H:Hp}{pins:C0}{σ:St}{s:ŉ}
noncomputable def eH:List MV->Option (List (MV×MV))
 |[]=>some []
 |.tup [k,v]::r=>if keyOk k=true then(eH r).map ((k,v)::·)else none
 |_::_=>none
def ON(ps:E3):List (MV×MV):=ps.foldl (λa p=>putK a p.1 p.2) []
theorem IG(I:↑1): ∀{ds:C8}{kvs:E3}{vs:List V}{us:A0},eH ds=some kvs->DenL X.K α H ds vs->Vals vs us->
  ∃xs,DenN X.K α H kvs xs/\xs.length=us.length/\ ∀(i:Nat) v,us[i]? =some v-> ∃x,xs[i]? =some x/\Cg X.prog X.w s.heap x v
 |[],kvs,vs,us,e,l,r=>by cases e;have:=l.isnil;subst this;cases r;exact⟨[],.nil,rfl,λi v h=>by simp at h⟩
 |d::ds,kvs,vs,us,e,l,r=>by
  obtain⟨v,T,rfl,o,G⟩:=l.uncons;unfold eH at e;split at e
  .cases (by assumption:d::ds=[])
  .rename_i k y M hd;obtain⟨rfl,rfl⟩:=List.cons.inj hd;split at e
   .rename_i E
    cases z:eH ds with
    |none=>rw[z]at e;cases e
    |some ms=>
     rw[z]at e;cases e
     cases r with
     |@cons _ u _ us ru rt=>
      obtain⟨xs,h1,B,F⟩:=IG I z G rt;obtain⟨t,ws,rfl,hs,j⟩:=yO o;obtain⟨O,N,rfl,b,l1⟩:=j.uncons;obtain⟨U,P,rfl,m,l2⟩:=l1.uncons;have C:=l2.isnil;subst C;cases ru;obtain⟨J,c,g2,n⟩:=tZ E;obtain⟨a,rfl⟩:=CT (X:=X) n b;obtain⟨its,p,A,Q⟩:=I.tuple hs;obtain⟨S,L,rfl,D,q⟩:=vals2 p;cases D;refine⟨(J,a,L)::xs,.cons c g2 b m q h1,by rw[lC,lC,B],λi w hw=>?_⟩
      cases i with
      |zero=>
       cases hw;exact⟨_,rfl,t,rfl,A,vU I c b rfl,g2⟩
      |succ i=>exact F i w hw
   .cases e
  .cases e
theorem IH: ∀{kvs:E3}{xs:List (NK×Addr×Ŋ)},DenN X.K α H kvs xs-> ∀{as:E3}{bs:List (NK×Addr×Ŋ)},DenN X.K α H as bs->DenN X.K α H (kvs.foldl (λa p=>putK a p.1 p.2) as) (xs.foldl (λa x=>storedH a x.1 x.2.1 x.2.2) bs)
 |_,_,.nil,as,bs,h=>h
 |_,_,.cons hk e ha hd r l,as,bs,h=>by rw[ě,ě];exact IH l (KD h hk e ha hd r)
def YK(Y:X.A.units+64<cLine):CallR X (.type "dict") (λxs H Q=> ∃α l vs ds kvs,xs=[.ref l]/\SqL X.K H l vs/\DenL X.K α H ds vs/\eH ds=some kvs/\X.calm=true/\ ∀p ys,H p=none->DenN X.K α H (ON kvs) ys->Q (.ref p) (xR H p (DN X.prog X.w p ys))):=by intro pins s σ H xs us Q I r h;obtain⟨α,l,vs,ds,kvs,rfl,G,J,W,L,q⟩:=h;obtain⟨u,rfl,U⟩:=vals1 r;cases U;obtain⟨its,B,⟨o,n,F,j,hd,a⟩,hz⟩:=I.list G;obtain⟨xs,h1,C,N⟩:=IG I W J B;have hl:=B.length;refine AB (P:=X.prog) (w:=X.w) (kvs:=xs) Y (I.ok.hd L) F j hd a (by rw[sA0,C]) (by rw[sA0];omega) (λi v e=>N i v (by simpa using e)) (KB I h1) λh' E O y=>?_;have hm:=IE xs;obtain⟨z,es,ep,b,Z,c,S,_,T⟩:=y;refine⟨.ref ↑0,_,I.laid (t':=E) (o:=DN X.prog X.w ↑0 (rP xs)) O (à _) ?_,rfl,q _ _ (I.hok.fresh (à _)) (IH h1 .nil)⟩;refine⟨⟨by omega,ŀ.mpr (Ne.symm (ë (KE I))),z,es,ep,b,Z,c,S,T⟩,⟨z,b⟩,?_⟩;rintro h1 C ⟨z1,M,o',d,k,m,r⟩ D;exact⟨z1,M,o',d,k,D o' m,r⟩
noncomputable def II:List Er->Sto->R Er
 |[r],S=>match (jD S r).bind eH with |some kvs=>.ok (.val (.loc S.length)) (S++[.dic (ON kvs)])|none=>.no
 |_,_=>.no
def Kl(i:X.calm=true):pU X W (λxs H Q=> ∃α l vs ds kvs,xs=[.ref l]/\SqL X.K H l vs/\DenL X.K α H ds vs/\eH ds=some kvs/\X.calm=true/\ ∀p ys,H p=none->DenN X.K α H (ON kvs) ys->Q (.ref p) (xR H p (DN X.prog X.w p ys))) II:=by
 intro rs vs α S H Q b d a;unfold II at a;split at a
 .split at a
  .rename_i kvs e;obtain⟨v,rfl,j⟩:=lR d
   cases z:jD S _ with
   |none=>rw[z]at e;cases e
   |some ds=>
    rw[z]at e;obtain⟨k,us,rfl,n,l⟩:=tN rfl b z j;refine⟨α,k,us,ds,kvs,rfl,n,l,e,i,λp ys h dn=>?_⟩;have c:=b.newx (o:=DN X.prog X.w p ys) h;obtain⟨x,q⟩:=b.put (ho:=DN X.prog X.w p ys) (m:=.dic (ON kvs)) h (.inr ⟨_,zS,dn.ex0 ⟨⟨[p],rfl⟩,c.tup,c.frz⟩⟩);exact a (.ref p) (α++[p]) _ x q (DenE.val (mP (by rw[<-b.len,æ (à _),sub_self];rfl)))
  .exact a.elim
 .exact a.elim
end
theorem DenF.len{K:C6}{α:B6}{H:Hp}: ∀{fs gs},DenF K α H fs gs->gs.length=fs.length
 |_,_,.nil=>rfl
 |_,_,.cons b l=>by rw[lC,lC,DenF.len l]
section
variable{X:Cx}{W:XW}{a b:Expr}{f g:AX}{pos:Pos}
def Zc(X:Cx):R2:=λx y H Q=> ∃(ks:List (Key×V))(d:Addr)(k:Key)(v:V),x=.ref d/\y=kV k/\DK X H d ks/\cU ks k=some v/\Q v H
def Ci:IxR X (Zc X):=by intro c a pins s σ H x y u v Q I o r h b;obtain⟨z,d,k,e,rfl,rfl,j,w,q⟩:=h;cases o;obtain⟨_,hs,ws,m,i⟩:=nF I j;obtain⟨A,n,p⟩:=(CY m k).1 e w;exact subscriptTail_builtinR i.typeIs slot_dict_getitem.lookup (wpAny_getItem_of (OI r) i.mapOf n ⟨rfl,e,H,I.tok _,p,q⟩) b
def OO(p q:Er)(S:Sto):R Er:=match uD S p,q with
 |some (_,kvs),.val k=>if sT k=true then(match look kvs k with |some d=>.ok (.val d) S|none=>.no)else .no
 |_,_=>.no
def Km:QX X W (Zc X) OO:=by
 intro p q x y α S H Q i m o a;unfold OO at a;split at a
 .rename_i l kvs k s;obtain⟨c,j,rfl,C,B,e,u,_⟩:=Fj i s m;split at a
  .rename_i h;obtain⟨w,b⟩:=ï.mp h;have A:=YD b o;subst A;split at a
   .rename_i d n;obtain⟨r,z,v⟩:=(qT u (YC b)).1 d n;exact⟨j,c,w,r,rfl,rfl,e,z,Post.val a i v⟩
   .exact a.elim
  .exact a.elim
 .exact a.elim
def Ud(d:zN X W a f)(c:zN X W b g)(hs:CL b:=by exact λ_ _=>rfl):zN X W (.Subscript a b pos) (λρ S=>(f ρ S).bind λp S1=>(g ρ S1).bind λq S2=>OO p q S2):=Mv Ci Km d c hs
end
section
variable{P:Ō}{w:World}{A:ŋ}{E:VP}{s:ŉ}{d v it:Addr}{ep i:Nat}{od:Obj}{es:Array DictEntry}{ok ov:Ŋ}
def Cj{Q:VP}(h:s.heap.IsItemsView v d)(ho:s.heap.get? d=some od)(a:od.data=.dict es ep)
  (hQ:Q (.ref ↑0) {s with heap:=s.heap.push {cls:=.type "dict_itemiterator",data:=.fields #[.none,.bool false,.ref d,.int 0 0,.int es.size 0,.int ep 0,.none,.none]}}):wpAny (model P w) A (pyIter (.ref v)) Q E s:=by
 obtain⟨ov,c,i,e⟩:=id h;refine wpAny_pyIter_slot h.typeIs PySem.F.slot_dict_items_iter (ì PySem.F.slot_dict_items_iter h.typeIs PySem.F.entry_dict_items_iter ?_ (PySem.F.args_dict_items_iter_1 _));unfold Builtin.«dict_items.__iter__»;refine wB (wP (wB ?_));unfold Builtin.Dict_items.dictOf;refine wB (ñ c e (x:=.ref d) rfl (wP (wB ?_)));unfold Builtin.Dict_items.newIterator;refine wB (ę ho a (wB (ņ ho a ?_)));have b:Builtin.Dict_items.ownsTuple "dict_itemiterator"=true:=by decide
 simp only[b,if_true]
 refine ć (wP ⟨_,rfl,"dict_itemiterator",_,⟨_,ã _ rfl,rfl⟩,PySem.F.slot_dict_itemiterator_next.lookup,?_⟩)
  (by simp only[sizeOk,Builtin.Dict_items.ownedTupleFields,sA0,lA,lC,ú,Ĕ];omega)
 simpa [rawInt,Builtin.Dict_items.ownedTupleFields]using hQ
def Kn{Q:Option Ŋ->ŉ->Prop}(K:IsItemIter s.heap it d i es.size ep ok ov)(aa:s.heap.get? d=some od)(Y:od.data=.dict es ep)(X:i<es.size)
  (hQ: ∀h',IsItemIterOut h' it d (i+1) es.size ep es[i].key es[i].val ↑0->
   h'.get? ↑0=some {cls:=.type "tuple",data:=.seq #[es[i].key,es[i].val]}->h'.objs.size=↑0+1->
   (∀b o,b≠it->s.heap.get? b=some o->h'.get? b=some o)->Q (some (.ref ↑0)) {s with heap:=h'}):
  wpAny (model P w) A (pyNext (.ref it)) Q E s:=by
 obtain⟨H,g,U,W,T⟩:=s;have S:Shared.TypeIs ⟨H,g,U,W,T⟩ (.ref it) "dict_itemiterator":=⟨_,K,rfl⟩
 unfold pyNext
 refine wB (Ĉ (î (name:=Str.ofString "__next__") S PySem.F.slot_dict_itemiterator_next
  (ì PySem.F.slot_dict_itemiterator_next S PySem.F.entry_dict_itemiterator_next ?_ (PySem.F.args_dict_itemiterator_next_1 _))))
 refine wB (wP ?_);refine wB ?_;refine wB ?_
 first |refine wB (ħ S (wP ?_))|refine wB (ļ S (wP ?_))
 refine wB (wpAny_fieldsOf K rfl ?_);have Z:Builtin.Dict_items.ownsTuple "dict_itemiterator"=true:=by decide
 simp only[Z,if_true];show wpAny _ _ (if(Value.ref d==Value.none)=true then _ else _) _ _ _;rw[iN (show¬((Value.ref d==Value.none)=true)from xF0)];refine wB (wP ?_);refine wB (ę aa Y ?_);rw[iN (by simp)];refine wB (wP ?_);refine wB (ņ aa Y ?_);rw[iN (by simp)];refine wP ?_;simp only[show¬((i:Int)<0)from by omega,iF,Ď,Đ X];refine wB ?_
 first |refine wB (ħ S (wP ?_))|refine wB (ļ S (wP ?_))
 refine wB (wpAny_isOneOf_itemiter S ?_);show wpAny _ _ (setField (.ref it) 3 (rawInt ((i:Int)+1)) >>= _) _ _ ⟨H,g,U,W,T⟩;refine wB (ô K (by simp) λa c m=>?_)
 replace m:Heap.SameBut it H a:=m
 replace c:IsItemIter a it d (i+1) es.size ep ok ov:=by
  have e:((i+1:Nat):Int)=(i:Int)+1:=by omega
  unfold IsItemIter;rw[e];simpa [rawInt]using c
 have v:Shared.TypeIs ⟨a,g,U,W,T⟩ (.ref it) "dict_itemiterator":=⟨_,c,rfl⟩
 refine wB (ù ?_);refine wB (wpAny_isOneOf_itemiter v ?_);refine wB (wpAny_isOneOf_itemiter v ?_);show wpAny _ _ (Builtin.Dict_items.pairFromOwner (.ref it) 6 es[i].key es[i].val) _ _ ⟨a,g,U,W,T⟩;unfold Builtin.Dict_items.pairFromOwner;refine wB (wpAny_newTuple ?_);have j:IsItemIter (a.push {cls:=.type "tuple",data:=.seq #[es[i].key,es[i].val]}) it d (i+1) es.size ep ok ov:=hP0 _ c;generalize r:a.push {cls:=.type "tuple",data:=.seq #[es[i].key,es[i].val]}=h₂ at j;have q:a.objs.size=H.objs.size:=m.1;have J:it<H.objs.size:=â K;have N:h₂.get? H.objs.size=some {cls:=.type "tuple",data:=.seq #[es[i].key,es[i].val]}:=by rw[<-r, <-q];exact ã _ rfl
 have M:h₂.objs.size=H.objs.size+1:=by rw[<-r,į,q]
 have L: ∀b o,b≠it->H.get? b=some o->h₂.get? b=some o:=λb o O e=>by rw[<-r];exact hP0 _ (m.extBut b o O e)
 show wpAny _ _ (Builtin.Dict_items.ownedTupleIsFree (.ref it) >>= _) _ _ ⟨h₂,g,U,W,T⟩;rw[q];clear r c m v q a;refine wB ?_;unfold Builtin.Dict_items.ownedTupleIsFree;refine wB (ñ j rfl (x:=.none) rfl (wP ?_));simp only[if_true];refine wB (ñ j rfl (x:=ok) rfl ?_);refine wB (ñ j rfl (x:=ov) rfl ?_);refine wB (ô j (by simp) λD z n=>?_)
 replace n:Heap.SameBut it h₂ D:=n
 replace z:IsItemIter D it d (i+1) es.size ep es[i].key ov:=z
 refine wB (ô z (by simp) λI y k=>?_)
 replace k:Heap.SameBut it D I:=k
 replace y:IsItemIter I it d (i+1) es.size ep es[i].key es[i].val:=y
 refine wB (ô y (by simp) λG u h=>?_)
 replace h:Heap.SameBut it I G:=h
 replace u:IsItemIterOut G it d (i+1) es.size ep es[i].key es[i].val H.objs.size:=u
 refine wB (ô u (by simp) λC B p=>?_)
 replace p:Heap.SameBut it G C:=p
 replace B:IsItemIterOut C it d (i+1) es.size ep es[i].key es[i].val H.objs.size:=B
 refine wB (wpAny_letGo (wP (wP ⟨_,rfl,wP (hQ C B ?_ ?_ ?_)⟩)))
 .exact p.extBut _ _ (ø J) (h.extBut _ _ (ø J) (k.extBut _ _ (ø J) (n.extBut _ _ (ø J) N)))
 .show C.objs.size=H.objs.size+1;rw[p.1,h.1,k.1,n.1,M]
 .exact λb o O e=>p.extBut b o O (h.extBut b o O (k.extBut b o O (n.extBut b o O (L b o O e))))
def Ko{Q:Option Ŋ->ŉ->Prop}(o:A.handled=none)(c:IsItemIter s.heap it d i es.size ep ok ov)(j:s.heap.get? d=some od)(k:od.data=.dict es ep)(n:es.size<=i)
  (hQ: ∀h',Heap.ExtBut it s.heap h'->Q none {s with heap:=h'}):wpAny (model P w) A (pyNext (.ref it)) Q E s:=by
 have e:s.TypeIs (.ref it) "dict_itemiterator":=⟨_,c,rfl⟩
 unfold pyNext
 refine wB (Ĉ (î (name:=Str.ofString "__next__") e PySem.F.slot_dict_itemiterator_next
  (ì PySem.F.slot_dict_itemiterator_next e PySem.F.entry_dict_itemiterator_next ?_ (PySem.F.args_dict_itemiterator_next_1 _))))
 refine wB (wP ?_);refine wB ?_;refine wB ?_
 first |refine wB (ħ e (wP ?_))|refine wB (ļ e (wP ?_))
 refine wB (wpAny_fieldsOf c rfl ?_);have h:Builtin.Dict_items.ownsTuple "dict_itemiterator"=true:=by decide
 simp only[h,if_true];show wpAny _ _ (if(Value.ref d==Value.none)=true then _ else _) _ _ s;rw[iN (show¬((Value.ref d==Value.none)=true)from xF0)];refine wB (wP ?_);refine wB (ę j k ?_);rw[iN (by simp)];refine wB (wP ?_);refine wB (ņ j k ?_);rw[iN (by simp)];refine wP ?_;simp only[show¬((i:Int)<0)from by omega,iF,Ď,Array.getElem?_eq_none n];refine wB ?_
 first |refine wB (ħ e (wP ?_))|refine wB (ļ e (wP ?_))
 show wpAny _ _ (setField (.ref it) 2 .none >>= _) _ _ s;refine wB (wpAny_setField c rfl (by simp) ?_);show wpAny _ _ (newExc (.type "StopIteration") [] >>= _) _ _ _;refine wB ?_;simp only[newExc,newTuple];refine wB (ć ?_ (by size_fits));refine wB (m:=firstArgMember _ _) (wpAny_of_eq (a:=Value.none) (by first |rfl|(simp only[firstArgMember];rfl)) ?_);refine ć ?_ (by size_fits);simp only[raiseNew];refine wB (wpAny_handled ?_);rw[show A.in1.handled=none from o];refine wB (wP (wpAny_throw ?_));refine wB (Ğ (T:="StopIteration") (b:=true) ⟨_,ã _ rfl,rfl⟩ isSubtype_stop ?_);exact wP (hQ _ (((ď ..).extBut.push _).push _))
end
section
variable{P:Ō}{w:World}{A:ŋ}{E:VP}{s:ŉ}
def OP:entryFor table "dict_itemiterator.__iter__"=some Builtin.«dict_keyiterator.__iter__»:=
 entryFor_alias (id':="dict_keyiterator.__iter__") (by kernel_rfl) rfl (by decide+kernel) (by kernel_rfl)
def GN{it:Addr}{Q:VP}(a:s.TypeIs (.ref it) "dict_itemiterator")(h:Q (.ref it) s):wpAny (model P w) A (pyIter (.ref it)) Q E s:=by refine wpAny_pyIter_slot a PySem.F.slot_dict_itemiterator_iter (ì PySem.F.slot_dict_itemiterator_iter a OP ?_ (PySem.F.args_dict_itemiterator_iter_1 _));show wpAny _ _ (ret (.ref it)) _ _ s;exact wP ⟨_,rfl,"dict_itemiterator",_,a,PySem.F.slot_dict_itemiterator_next.lookup,h⟩
end
noncomputable def Iti(P:Ō)(w:World)(d:Addr)(o:Obj)(xs:List (NK×Addr×Ŋ))(vs:List V):It:=
 ⟨λi H=>H d=some (.frz o (DN P w d xs))/\i<xs.length,
   λi H v H'=> ∃p x y,H p=none/\v=.ref p/\xs[i]? =some x/\vs[i]? =some y/\H'=xR H p (.tup [.ref x.2.1,y]),
   λi H=>H d=some (.frz o (DN P w d xs))/\xs.length<=i⟩
def RY{P:Ō}{w:World}{K:C6}{elts:C5}{kt:Nat}{pt:Pos}{d it:Addr}{o:Obj}{es:Array DictEntry}{ep:Nat}{vs:List V}(hdat:o.data=.dict es ep)(hes:es.toList=xs.map (entryOfKey (zU P w)))(hvs:Vals vs (xs.map (·.2.2))):
  Turn P w K (.Tuple elts kt pt) (Iti P w d o xs vs) [it] it (λi h=> ∃ok ov,IsItemIter h it d i es.size ep ok ov) where
 mem:=by simp
 obj:=λi h ⟨ok,ov,st⟩ b hb=>by cases mS.mp hb;exact⟨_,st,λv q=>by cases q⟩
 keep:=λi h h' ⟨ok,ov,st⟩ k=>⟨ok,ov,k it (by simp) _ st⟩
 item:=by
  intro X hP hw hK hc i pins s σ H E I hf st hg;subst hP hw hK;obtain⟨hd,hi⟩:=hg;obtain⟨ok,ov,hit⟩:=st;obtain⟨hod,_⟩:=(show ObjOk X.prog X.w H s.heap d (.frz o (DN X.prog X.w d xs))from I.hok d _ hd)
  have hsz:es.size=xs.length:=by rw[<-í,hes,lM]
  have hlt:i<es.size:=by omega
  obtain⟨x,hx⟩: ∃x,xs[i]? =some x:=⟨_,gE hi⟩
  have he:es[i]=entryOfKey (zU X.prog X.w) x:=by have:=congrArg (·[i]?) hes;simp only[ò,ö,hx,Đ hlt,Option.map_some]at this;exact ä this
  have hl:=hvs.length;rw[lM]at hl;obtain⟨y,hy⟩: ∃y,vs[i]? =some y:=⟨_,gE (by omega)⟩
  obtain⟨u,hu,ru⟩:=hvs.get hy;rw[ö,hx]at hu;cases hu;refine Kn hit hod hdat hlt λh' a1 a2 a3 a4=>⟨_,rfl,?_⟩
  refine wpAny_letOwnedTupleGo_items a1 λh2 z2 sb2=>?_
  replace a2:h'.get? ↑0=some {cls:=.type "tuple",data:=.seq #[.ref x.2.1,x.2.2]}:=by rw[a2,he];rfl
  have hpn:H ↑0=none:=I.hok.fresh (à _)
  have I0:Inv X pins σ (xR H ↑0 (.tup [.ref x.2.1,y])) {s with heap:=s.heap.push {cls:=.type "tuple",data:=.seq #[.ref x.2.1,x.2.2]}}:=
   I.laid (t':=s.toks) (o:=.tup [.ref x.2.1,y]) (λb o e=>hP0 _ e) (à _) ⟨by show 2<=sizeLine;decide,[.ref x.2.1,x.2.2],.cons rfl (.cons ru .nil),⟨_,ã _ rfl,rfl,_,rfl⟩⟩
  have lt:it<s.heap.objs.size:=â hit;have fr: ∀b∈[it],xR H ↑0 (.tup [.ref x.2.1,y]) b=none:=λb hb=>by cases mS.mp hb;rw[zG (ë lt)];exact(hf it hb).1
  have mv: ∀b o,b∉[it]->(s.heap.push {cls:=.type "tuple",data:=.seq #[.ref x.2.1,x.2.2]}).get? b=some o->h2.get? b=some o:=λb o hb e=>by
   rw[mS]at hb;refine sb2.extBut _ _ hb ?_;by_cases hbs:b=↑0
   .subst hbs;rw[ã _ rfl]at e;cases e;exact a2
   .rw[Heap.get?_push_ne _ _ _ hbs]at e;exact a4 b o hb e
  have I2:=I0.turnedL (h':=h2) (t':=s.toks) mv λb hb=>let ⟨_,c2,c3,c4,c5,c6⟩:=hf b hb;⟨fr b hb,c2,c3,c4,c5,c6⟩;exact⟨.ref ↑0,_,I2,rfl,⟨↑0,x,y,hpn,rfl,hx,hy,rfl⟩,⟨_,_,z2⟩,fr⟩
 done:=by
  intro X hP hw hK hc i pins s σ H E I hf st hg;subst hP hw hK;obtain⟨hd,hi⟩:=hg;obtain⟨ok,ov,hit⟩:=st;obtain⟨hod,_⟩:=(show ObjOk X.prog X.w H s.heap d (.frz o (DN X.prog X.w d xs))from I.hok d _ hd)
  have hsz:es.size=xs.length:=by rw[<-í,hes,lM]
  refine Ko (I.ok.hd hc) hit hod hdat (by omega) λh' he=>⟨rfl,?_⟩
  exact I.turnedL (h':=h') (t':=s.toks) (λb o hb e=>he b o (λz=>hb (by rw[z];simp)) e) hf
 self:=λ_ _ _ _ _ ⟨_,_,st⟩ h=>GN ⟨_,st,rfl⟩ h
section
variable{X:Cx}{W:XW}{pins:C0}{σ:St}{H:Hp}{s:ŉ}{α:B6}{o:Expr}{f:AX}{apos pos pt:Pos}{to:TE}{elts:C5}{kt:Nat}
def _root_.L2.Inv.freezeD{d:Addr}{ob:Obj}{kvs:E3}(I:↑1)(i:DD X H d xs)(dn:DenN X.K α H kvs xs)(ho:s.heap.get? d=some ob):Inv X pins σ (xR H d (.frz ob (DN X.prog X.w d xs))) s:=by
 obtain⟨⟨o',es,ep,m,E,hd,J,P,G⟩,L,hs⟩:=qS I i dn;have a: ∀j,H d≠some (.tup j):=λj e=>by rcases i with h|⟨_,h⟩<;>(rw[h]at e;cases e)
 have q: ∀b,H d≠some (.own b):=λb e=>by rcases i with h|⟨_,h⟩<;>(rw[h]at e;cases e)
 have k: ∀b,H d≠some (.tbl b):=λb e=>by rcases i with h|⟨_,h⟩<;>(rw[h]at e;cases e)
 have p:H d≠none:=λe=>by rcases i with h|⟨_,h⟩<;>(rw[h]at e;cases e)
 have ne: ∀{b:Addr}{v:HO},H b=some v->H d≠some v->b≠d:=λe n z=>n (z▸e);refine I.step (ch:=[]) (λ_ z=>nomatch z) (λb o _ _ _ e _=>e) (λb o _ _ _ e _=>⟨_,e⟩) (λb o _ e n=>?_) (λb o _ e=>⟨o,e⟩) (λb j e=>?_) (λb o u e=>?_) (λb ps e=>?_) (λ_ z=>z) (λb u e=>?_) I.bare
 .rw[zG (λz=>p (by rw[<-z];exact n))];exact n
 .rw[zG (ne e (a j))];exact e
 .rw[zG (ne e (i.nf o u))];exact e
 .exact⟨#[],by rw[zG (ne e (k ps)),e];simp⟩
 .by_cases B:b=d
  .subst B;rw[zS]at e;cases e;refine⟨ho,⟨L,hs,o',es,ep,m,E,hd,J,G⟩,⟨_,m⟩,?_⟩;rintro h1 O ⟨N,F,D,A,y,M,r⟩ C;exact⟨N,F,D,A,y,C _ M,r⟩
  .rw[zG B]at e;exact(I.hok b u e).stay (λ_ _ _ r=>r) (λc r=>by rw[zG (ne r (q b))];exact r) λc j r=>by rw[zG (ne r (a j))];exact r
noncomputable def BG(l d:Addr):HO:=.ext λh=>h.IsItemsView l d
def Ck:Gk X "dict.items" (λx vs H Q=> ∃d xs,x=.ref d/\vs=[]/\DD X H d xs/\ ∀l,H l=none->Q (.ref l) (xR H l (BG l d))):=by
 intro pins s σ H x vs v us Q I k j h;obtain⟨d,xs,rfl,rfl,a,q⟩:=h;cases k;have:=j.zero;subst this;have c:s.TypeIs (.ref d) "dict":=(vX pins s σ H (.ref d) (.ref d) I rfl ⟨d,xs,rfl,a⟩).1
 have hs:(d==sysModules)=false:=by
  rcases a with h|⟨rfl,h⟩
  .obtain⟨⟨p,hs,_⟩,_⟩:=(show ObjOk X.prog X.w H s.heap d (DN X.prog X.w d xs)from I.hok d _ h)
   exact hs
  .obtain⟨_,hs,_⟩:=(show ObjOk X.prog X.w H s.heap d (.dK [])from I.hok d _ h)
   exact hs
 refine ì PySem.F.slot_dict_items c PySem.F.entry_dict_items ?_ (PySem.F.args_dict_items_1 _);refine wB ?_;unfold Builtin.Dict.noArgs;refine wB (Ġ c ?_);show wpAny _ _ (pure d) _ _ s;refine wP ?_;show wpAny _ _ (Builtin.Dict.showsAll d >>= _) _ _ s;unfold Builtin.Dict.showsAll;rw[iN (by rw[hs];exact xF0)];refine wB (wP ?_);refine wB (ć (wP ⟨_,rfl,.ref ↑0,_,I.laid (o:=BG ↑0 d) (t':=s.toks) (λb o e=>hP0 _ e) (à _) ⟨⟨_,ã _ rfl,rfl,rfl⟩,⟨_,ã _ rfl⟩,?_⟩,rfl,q _ (I.hok.fresh (à _))⟩));rintro h1 n ⟨o,m,r⟩ i;exact⟨o,i o m,r⟩
def qIts(X:Cx)(R:It->Hp->Prop)(x:V)(H:Hp):Prop:= ∃l d xs vs α kvs,x=.ref l/\H l=some (BG l d)/\DD X H d xs/\DenN X.K α H kvs xs/\Vals vs (xs.map (·.2.2))/\ ∀o,R (Iti X.prog X.w d o xs vs) (xR H d (.frz o (DN X.prog X.w d xs)))
def iIts(X:Cx)(to:TE):TI:=λσ H R=>to σ H λx H1=>TyD X x H1/\ ∃d xs,x=.ref d/\([]:List V)=[]/\DD X H1 d xs/\ ∀l,H1 l=none->qIts X R (.ref l) (xR H1 l (BG l d))
def Cm(ho:PE X o to)(c:attributeBase o "items" X.env (eval o X.env)=eval o X.env:=by rfl)(j:(apos.endLine==pos.line)=true:=by rfl):
  PI X (.Tuple elts kt pt) (.Call (.Attribute o "items" apos) [] [] pos) (iIts X to):=by
 intro pins s σ H R I h;refine jB (Kc vX PySem.F.plainAttrs_dict PySem.F.slot_dict_items PySem.F.type_dict_items Ck ho c j pins s σ H _ I h) λv a ⟨x,H1,I1,A,E⟩=>?_;obtain⟨l,d,xs,vs,α,kvs,rfl,u,m,dn,K,q⟩:=E;cases A;obtain⟨i,_⟩:=(show ObjOk X.prog X.w H1 a.heap l (BG l d)from I1.hok l _ u)
 obtain⟨⟨od,es,ep,k,L,hd,J,M,N⟩,O,hs⟩:=qS I1 m dn;refine Cj i k hd ?_;have n: ∀b o,a.heap.get? b=some o->(a.heap.push {cls:=.type "dict_itemiterator",data:=.fields #[.none,.bool false,.ref d,.int 0 0,.int es.size 0,.int ep 0,.none,.none]}).get? b=some o:=λb o e=>hP0 _ e;have G:=(I1.kept (t':=a.toks) n).freezeD m dn (n d od k);refine⟨a.heap.objs.size,[a.heap.objs.size],_,_,_,rfl,G,RY hd J K,⟨_,_,ã _ rfl⟩,λb D=>?_,q od⟩;cases mS.mp D;have y:a.heap.objs.size≠d:=ø (â k);obtain⟨_,C,B,p,r,z⟩:=I1.fpOk (à _) (I1.hok.fresh (à a.heap.objs.size));exact⟨by rw[zG y];exact I1.hok.fresh (à _),C,B,p,r,z⟩
def YL(p:Er)(S:Sto):R Wk:=match bL S p with
 |some (l,kvs)=>.ok ⟨kvs.map λa=>.tup [a.1,a.2],[]⟩ (S.set l (.fdc kvs))
 |none=>.no
theorem DenN.at'{α:B6}{H:Hp}{K:C6}: ∀{kvs:E3}{xs:List (NK×Addr×Ŋ)}{i:Nat}{b:MV×MV},DenN K α H kvs xs->kvs[i]? =some b-> ∃x,xs[i]? =some x/\Den K α H b.1 (.ref x.2.1)
 |_,_,0,_,.cons hk e a d r l,h=>by cases h;exact⟨_,rfl,a⟩
 |_,_,i+1,_,.cons hk e a d r l,h=>DenN.at' (i:=i) l h
def Co(ho:zN X W o f)(b:attributeBase o "items" X.env (eval o X.env)=eval o X.env:=by rfl)(j:(apos.endLine==pos.line)=true:=by rfl):
  HL X W (.Tuple elts kt pt) (.Call (.Attribute o "items" apos) [] [] pos) (λρ S=>(f ρ S).bind YL):=by
 obtain⟨t,ho,k⟩:=ho;refine⟨_,Cm ho b j,λα ρ S σ H Rc wd sl q=>k α ρ S σ H _ wd sl (q.bind λu p S1 s H1 e1 x1 L d1 m=>?_)⟩
 replace m:=m.shift x1
 unfold YL at m;split at m
 .rename_i l kvs ed;obtain⟨c,xs,rfl,E,hS,J,N⟩:=sO L ed d1.1;obtain⟨vs,P,M⟩:=UO N;refine⟨⟨c,xs,rfl,J⟩,c,xs,rfl,rfl,J,λv G=>?_⟩;have I:=L.newx (o:=BG v c) G;have T:=L.new (o:=BG v c) G
  have d:DD X (xR H1 v (BG v c)) c xs:=by
   rcases J with h|⟨e,h⟩
   .exact .inl (by rw[zG (zO h G)];exact h)
   .exact .inr ⟨e,by rw[zG (zO h G)];exact h⟩
  refine⟨v,c,xs,vs,s,kvs,rfl,zS,d,N.ex0 I.toEx0,M,λob=>?_⟩;have O:=T.writex E d.nf (o:=.frz ob (DN X.prog X.w c xs));have C:=(N.ex0 I.toEx0).ex0 O.toEx0;have wf:=T.write E d.nf (o:=.frz ob (DN X.prog X.w c xs)) (ob:=.fdc kvs) ⟨ob,xs,zS,C⟩;refine((m.shift I).shift O).here (u:=Iti X.prog X.w c ob xs vs) wf ⟨λ(α:B6) (S:Sto) (H:Hp)=>H c=some (.frz ob (DN X.prog X.w c xs))/\DenN X.K α H kvs xs/\DenL X.K α H (kvs.map Prod.snd) vs,?_,⟨zS,C,(P.ext I).ext O⟩,λs S1 H1 Q S2 H2 ⟨z,r,F⟩ x w _=>⟨x.frz _ _ _ z,r.ex0 x.toEx0,DenL.ext x F⟩,gH⟩;intro i Q S2 H2 ⟨z,r,F⟩ U;have Y:=r.length;refine⟨λhi=>?_,λhi=>⟨z,by rw[lM]at hi;omega⟩⟩;rw[lM]at hi;refine⟨⟨z,by omega⟩,?_⟩;rintro _ _ ⟨p,x,y,Z,rfl,hx,hy,rfl⟩;obtain⟨A,a⟩: ∃A,kvs[i]? =some A:=⟨_,gE hi⟩
  obtain⟨x',D,dk⟩:=r.at' a;rw[hx]at D;cases D;obtain⟨y',B,dy⟩:=F.at (show(kvs.map Prod.snd)[i]? =some A.2 by rw[ö,a];rfl);rw[hy]at B;cases B;have n:=U.newx (o:=.tup [.ref x.2.1,y]) Z;refine⟨n,U.new Z,⟨n.frz _ _ _ z,r.ex0 n.toEx0,F.ext n⟩,.tup [A.1,A.2],by rw[ö,a];rfl,?_⟩;exact nB (.of zS) (zQ (dk.ext n) (zQ (dy.ext n) zW))
 .exact m.elim
end
end M
end L2
namespace PySem
def OQ:typeLookup (.type "zip") "keys"=pure none:=am_miss_of_fast (by decide+kernel)
theorem rG:typeLookup (.type "zip") "__getattr__"=pure none:=by rw[typeLookup_type,builtinLookup_eq_fast];kernel_rfl
def fU:entryFor table "zip.__getattribute__"=some Builtin.«object.__getattribute__»:=
 entryFor_alias (id':="object.__getattribute__") (by kernel_rfl) (by decide+kernel) (by decide+kernel) (by kernel_rfl)
def nG(a:Addr)(xs:B0)(sl:Array (Option Ŋ))(name:Str)(u:Tok)(c:typeLookup (.type "zip") name=pure none)(b:(["__module__","__name__","__qualname__","__doc__","__annotations__"]:B7).contains name=false)(hsz:name.length+100<=sizeLine:=by size_fits):
  Meets (Builtin.«object.__getattribute__» ⟨[.ref a,.str name u],[]⟩) (λA R s=>s.heap.get? a=some {cls:=.type "zip",dict:=none,data:=.fields xs,slots:=sl}/\raisesAttr (.ref a) name A R s):=
 Meets.of_wp λprog w A R s hs=>by
  obtain⟨i,g,d,h,e⟩:=s;obtain⟨j,hs⟩:=hs;have k:(⟨i,g,d,h,e⟩:ŉ).TypeIs (.ref a) "zip":=⟨_,j,rfl⟩
  unfold Builtin.«object.__getattribute__»
  repeat (any_goals (first |assumption|wp_step))
  simp only[b,fT,iF]
  repeat (any_goals (first |assumption|wp_step))
  exact wpAny_raiseAttrError hs.1 hs.2 (attrMsg_fits (by decide+kernel) hsz)
def getAttr?_miss_zip{prog:Ō}{w:World}{A:ŋ}{E:VP}{s:ŉ}{a:Addr}{xs:B0}{sl:Array (Option Ŋ)}{name:Str}{Q:Option Ŋ->ŉ->Prop}
  (hx:s.heap.get? a=some {cls:=.type "zip",dict:=none,data:=.fields xs,slots:=sl}) (hmiss:typeLookup (.type "zip") name=pure none) (hname:(["__module__","__name__","__qualname__","__doc__","__annotations__"]:B7).contains name=false) (hA:A.handled=none)
  (h: ∀h' k,(∀b o,s.heap.get? b=some o->h'.get? b=some o)->Q none {s with heap:=h',toks:=k}) (hsz:name.length+100<=sizeLine:=by size_fits):
  wpAny (model prog w) A (getAttr? (.ref a) name) Q E s:=by
 obtain⟨n,g,d,k,m⟩:=s;have j: ∀i,(⟨n,g,d,i,m⟩:ŉ).TypeIs (.ref a) "zip":=λ_=>⟨_,hx,rfl⟩
 have v:=sub_AttributeError;have p:=F.slot_zip_getattribute.lookup;have r:=F.slot_zip_getattribute.bind (.ref a);have q:=rG;unfold getAttr? getAttrBy? getAttrBy
 repeat (any_goals (first |assumption|exact j _|((with_reducible show wpAny _ _ (call (Value.builtin "zip.__getattribute__") _ _) _ _ _);refine Ĺ F.slot_zip_getattribute (j _) fU (F.args_zip_getattribute_2 _ _) (nG a xs sl name _ hmiss hname hsz) ⟨hx,hA,λh' i e c=>?_⟩)|wp_step))
 obtain⟨t',y,u⟩:=c.there;show wpAny _ _ (getattributeRaised _ _ _ _ _ _ _) _ _ _;unfold getattributeRaised
 repeat (any_goals (first |assumption|wp_step))
 exact h _ _ c.keeps
def OR{M:Model}{A:ŋ}{E:VP}{s:ŉ}{a:Addr}{Q:Option Obj->ŉ->Prop}(h:Q (s.heap.get? a) s):wpAny M A (loadIfAlive a) Q E s:=λ_ _ _=>h
end PySem
namespace L2
namespace M
open PySem PySem.Spec PyProof.Rows
variable{kds:C8}{Q:Option Ŋ->ŉ->Prop}{ps:B7}
noncomputable def Kp(b a:Ŋ)(TI TO:Addr):Obj:={cls:=.type "zip",dict:=none,data:=.fields #[b,a,.bool false,.ref TI,.ref TO],slots:=#[]}
structure ZipSt2(k1 k2:Bool)(z TI TO i1 i2 l1 l2:Addr)(i:Nat)(h:Heap):Prop where
 z: ∃T b,h.get? z=some (Kp (rawInt (T:Nat)) (.bool b) TI TO)/\T≠z/\T≠i1/\T≠i2/\ ∃o,h.get? T=some o
 ti:IsPair h TI (.ref i1) (.ref i2)
 s1:IsSub k1 h i1 l1 i
 s2:IsSub k2 h i2 l2 i
section
variable{prog:Ō}{w:World}{A:ŋ}{E:VP}{s:ŉ}{k1 k2:Bool}{z TI TO i1 i2 l1 l2:Addr}{i:Nat}{xs ys:B0}
def OS{T:Addr}{b:Bool}{Q:Bool->ŉ->Prop}(hz:s.heap.get? z=some (Kp (rawInt (T:Nat)) (.bool b) TI TO)){o:Obj}(d:s.heap.get? T=some o)
  (hQ: ∀h',h'.get? z=some (Kp (rawInt (T:Nat)) (.bool true) TI TO)->Heap.SameBut z s.heap h'->Q false {s with heap:=h'}):
  wpAny (model prog w) A (Builtin.SmallTypes.ownedTupleIsFree (.ref z)) Q E s:=by
 unfold Builtin.SmallTypes.ownedTupleIsFree;refine wB (ñ hz rfl (x:=rawInt (T:Nat)) rfl ?_);show wpAny _ _ (loadIfAlive T >>= _) _ _ _;refine wB (OR ?_);rw[d];show wpAny _ _ (field (.ref z) 1 >>= _) _ _ _;refine wB (ñ hz rfl (x:=.bool b) rfl ?_)
 cases b with
 |true=>
  refine wP (hQ s.heap hz ?_);exact⟨rfl,λ_ _=>rfl⟩
 |false=>
  show wpAny _ _ (setField (.ref z) 1 (.bool true) >>= _) _ _ _;exact wB (ô hz (by simp) λh' c a=>wP (hQ h' c a))
theorem YM{x y:Ŋ}{Q:VP}(D:Apart5 z TI TO i1 i2)(Y:Off l1 z TO i1 i2)(J:Off l2 z TO i1 i2)(st:ZipSt2 k1 k2 z TI TO i1 i2 l1 l2 i s.heap)(I:IsSeq k1 s.heap l1 xs)(q:IsSeq k2 s.heap l2 ys)(hx:xs[i]? =some x)(S:ys[i]? =some y)
  (hQ: ∀h',ZipSt2 k1 k2 z TI TO i1 i2 l1 l2 (i+1) h'->IsPair h' ↑0 x y->
   (∀c o,c≠z->c≠i1->c≠i2->s.heap.get? c=some o->h'.get? c=some o)->Q (.ref ↑0) {s with heap:=h'}):
  wpAny (model prog w) A (Builtin.«zip.__next__» ⟨[.ref z],[]⟩) (λfin s'=> ∃v,fin=.done (.ret v)/\Q v s') E s:=by
 obtain⟨⟨T,b,G,L,K,N,O,M⟩,k,h1,h2⟩:=st;show wpAny _ _ (field (.ref z) 2 >>= _) _ _ _;refine wB (ñ G rfl (x:=.bool false) rfl ?_);show wpAny _ _ (field (.ref z) 3 >>= _) _ _ _;refine wB (ñ G rfl (x:=.ref TI) rfl (wB (č k rfl ?_)));show wpAny _ _ (Builtin.SmallTypes.ownedTupleIsFree (.ref z) >>= _) _ _ _;refine wB (OS G M λha r a=>?_);rw[iN xF0];simp only[forIn_toArray,forIn_cons,forIn_nil];refine wB (wB (wB (ù ?_)));show wpAny _ _ (Builtin.SmallTypes.nextOf (.ref i1) >>= _) _ _ _;refine wB (aX (h1.move λo e=>a.extBut _ _ D.i1z e) (I.move λo e=>a.extBut _ _ Y.1 e) hx λZ B h=>wP ?_);refine wP ?_;refine wB (wB (ù ?_));show wpAny _ _ (Builtin.SmallTypes.nextOf (.ref i2) >>= _) _ _ _;have m: ∀c o,c≠z->c≠i1->s.heap.get? c=some o->Z.get? c=some o:=λc o F C e=>h.extBut _ _ C (a.extBut _ _ F e);refine wB (aX (h2.move λo e=>m _ o D.i2z D.i12.symm e) (q.move λo e=>m _ o J.1 J.2.2.1 e) S λhd u d=>wP ?_);refine wP (wP ?_);have j: ∀c o,c≠z->c≠i1->c≠i2->s.heap.get? c=some o->hd.get? c=some o:=λc o F C U e=>d.extBut _ _ U (m c o F C e);have hsz:hd.objs.size=s.heap.objs.size:=by rw[d.1,h.1,a.1]
 refine wB (wpAny_newTuple (hsz:=by show 2<=sizeLine;decide) ?_);refine wP ⟨_,rfl,?_⟩;show Q (.ref hd.objs.size) _;have H:hd.get? z=some (Kp (rawInt (T:Nat)) (.bool true) TI TO):=d.extBut _ _ D.i2z.symm (h.extBut _ _ D.i1z.symm r)
 have p: ∀{n:Nat},n=↑0->hd.objs.size=n->Q (.ref n) {s with heap:=hd.push {cls:=.type "tuple",data:=.seq #[x,y]}}:=λ{n} e1 e2=>by
  subst e1;refine hQ _ ⟨⟨T,true,hP0 _ H,L,K,N,O,hP0 _ (j T O L K N M)⟩,hP0 _ (j TI _ D.TIz D.TIi1 D.TIi2 k),?_,?_⟩ ?_ λc o W X P e=>hP0 _ (j c o W X P e)
  .exact B.move λo e=>hP0 _ (d.extBut _ _ D.i12 e)
  .exact u.move λo e=>hP0 _ e
  .rw[<-e2];exact ã _ rfl
 exact p hsz rfl
def Cp{Q:Fin->ŉ->Prop}(I:A.handled=none)(D:Apart5 z TI TO i1 i2)(H:Off l1 z TO i1 i2)(G:Off l2 z TO i1 i2)(st:ZipSt2 k1 k2 z TI TO i1 i2 l1 l2 i s.heap)(k:IsSeq k1 s.heap l1 xs)(n:IsSeq k2 s.heap l2 ys)(j:xs[i]? =none\/ys[i]? =none)
  (hE: ∀h' e,(∀c o,c≠z->c≠i1->c≠i2->s.heap.get? c=some o->h'.get? c=some o)->(∃o,h'.get? e=some o/\o.cls=.type "StopIteration")->E (.ref e) {s with heap:=h'}):
  wpAny (model prog w) A (Builtin.«zip.__next__» ⟨[.ref z],[]⟩) Q E s:=by
 obtain⟨⟨T,b,B,X,W,Y,Z,S⟩,C,h1,M⟩:=st;show wpAny _ _ (field (.ref z) 2 >>= _) _ _ _;refine wB (ñ B rfl (x:=.bool false) rfl ?_);show wpAny _ _ (field (.ref z) 3 >>= _) _ _ _;refine wB (ñ B rfl (x:=.ref TI) rfl (wB (č C rfl ?_)));show wpAny _ _ (Builtin.SmallTypes.ownedTupleIsFree (.ref z) >>= _) _ _ _;refine wB (OS B S λU L a=>?_);rw[iN xF0];simp only[forIn_toArray,forIn_cons,forIn_nil];refine wB (wB (wB (ù ?_)));show wpAny _ _ (Builtin.SmallTypes.nextOf (.ref i1) >>= _) _ _ _
 cases F:xs[i]? with
 |none=>
  exact wB (tU I (h1.move λo e=>a.extBut _ _ D.i1z e) (k.move λo e=>a.extBut _ _ H.1 e) F λv e d y=>hE v e (λc o r u _ q=>d _ _ u (a.extBut _ _ r q)) y)
 |some x=>
  have K:ys[i]? =none:=by rcases j with h|h;(rw[F]at h;cases h);exact h
  refine wB (aX (h1.move λo e=>a.extBut _ _ D.i1z e) (k.move λo e=>a.extBut _ _ H.1 e) F λv N d=>wP ?_);refine wP ?_;refine wB (wB (ù ?_));show wpAny _ _ (Builtin.SmallTypes.nextOf (.ref i2) >>= _) _ _ _;have m: ∀c o,c≠z->c≠i1->s.heap.get? c=some o->v.get? c=some o:=λc o P O e=>d.extBut _ _ O (a.extBut _ _ P e);exact wB (tU I (M.move λo e=>m _ o D.i2z D.i12.symm e) (n.move λo e=>m _ o G.1 G.2.2.1 e) K λhd e p y=>hE hd e (λc o r u J q=>p _ _ J (m c o r u q)) y)
end
def ZSt(k1 k2:Bool)(z TI TO i1 i2 l1 l2:Addr)(i:Nat)(h:Heap):Prop:=ZipSt k1 k2 z TI TO i1 i2 l1 l2 i h\/ZipSt2 k1 k2 z TI TO i1 i2 l1 l2 i h
section
variable{prog:Ō}{w:World}{A:ŋ}{E:VP}{s:ŉ}{k1 k2:Bool}{z TI TO i1 i2 l1 l2:Addr}{i:Nat}{xs ys:B0}
def Kq{x y:Ŋ}(D:Apart5 z TI TO i1 i2)(B:Off l1 z TO i1 i2)(q:Off l2 z TO i1 i2)(st:ZSt k1 k2 z TI TO i1 i2 l1 l2 i s.heap)(h:IsSeq k1 s.heap l1 xs)(a:IsSeq k2 s.heap l2 ys)(v:xs[i]? =some x)(r:ys[i]? =some y)
  (hQ: ∀h',ZSt k1 k2 z TI TO i1 i2 l1 l2 (i+1) h'->IsPair h' ↑0 x y->(∀c o,c≠z->c≠TO->c≠i1->c≠i2->s.heap.get? c=some o->h'.get? c=some o)->Q (some (.ref ↑0)) {s with heap:=h'}):
  wpAny (model prog w) A (pyNext (.ref z)) Q E s:=by
 rcases st with st|st
 .have d:s.TypeIs (.ref z) "zip":=⟨_,st.z,rfl⟩
  have m:z<s.heap.objs.size:=â st.z;obtain⟨p1,G,_⟩:=st.s1.there;obtain⟨p2,g2,_⟩:=st.s2.there;unfold pyNext
  refine wB (Ĉ (î (name:=Str.ofString "__next__") d ĉ (ì ĉ d ľ
   (NT D B q st h a v r λh' k n j F p u=>wP (hQ h' (.inr ⟨⟨↑0,false,k,ø m,ø (â G),ø (â g2),_,p⟩,u TI _ D.TIz D.TITO D.TIi1 D.TIi2 st.ti,j,F⟩) p u)) (ķ _))))
 .obtain⟨T,b,m,_⟩:=st.z;have d:s.TypeIs (.ref z) "zip":=⟨_,m,rfl⟩
  unfold pyNext
  refine wB (Ĉ (î (name:=Str.ofString "__next__") d ĉ (ì ĉ d ľ
   (YM D B q st h a v r λh' k n j=>wP (hQ h' (.inr k) n λc o H _ I C e=>j c o H I C e)) (ķ _))))
def Ue(q:A.handled=none)(D:Apart5 z TI TO i1 i2)(u:Off l1 z TO i1 i2)(r:Off l2 z TO i1 i2)(st:ZSt k1 k2 z TI TO i1 i2 l1 l2 i s.heap)(k:IsSeq k1 s.heap l1 xs)(h:IsSeq k2 s.heap l2 ys)(a:xs[i]? =none\/ys[i]? =none)
  (hQ: ∀h',(∀c o,c≠z->c≠TO->c≠i1->c≠i2->s.heap.get? c=some o->h'.get? c=some o)->Q none {s with heap:=h'}):
  wpAny (model prog w) A (pyNext (.ref z)) Q E s:=by
 rcases st with st|st
 .have j:s.TypeIs (.ref z) "zip":=⟨_,st.z,rfl⟩
  unfold pyNext
  refine wB (Ĉ (î (name:=Str.ofString "__next__") j ĉ (ì ĉ j ľ
   (TR q D u r st k h a λh' e m n=>?_) (ķ _))))
  obtain⟨o,p,d⟩:=n;exact wB (Ğ (T:="StopIteration") (b:=true) ⟨o,p,d⟩ isSubtype_stop (wP (hQ h' m)))
 .obtain⟨T,b,y,_⟩:=st.z;have j:s.TypeIs (.ref z) "zip":=⟨_,y,rfl⟩
  unfold pyNext
  refine wB (Ĉ (î (name:=Str.ofString "__next__") j ĉ (ì ĉ j ľ
   (Cp q D u r st k h a λh' e m n=>?_) (ķ _))))
  obtain⟨o,p,d⟩:=n;exact wB (Ğ (T:="StopIteration") (b:=true) ⟨o,p,d⟩ isSubtype_stop (wP (hQ h' λc o B _ C v e=>m c o B C v e)))
def ZSt.frame{h h':Heap}{d:Addr}(st:ZSt k1 k2 z TI TO i1 i2 l1 l2 i h)(hd:d≠z/\d≠TI/\d≠TO/\d≠i1/\d≠i2)(k: ∀b o,b≠d->h.get? b=some o->h'.get? b=some o)(q: ∃o,h'.get? d=some o):ZSt k1 k2 z TI TO i1 i2 l1 l2 i h':=by
 obtain⟨n,j,p,m,c⟩:=hd;rcases st with⟨hz,hTI,⟨a,b,hTO⟩,h1,h2⟩|⟨⟨T,b,hz,Tz,T1,T2,oT,hT⟩,hTI,h1,h2⟩
 .exact .inl ⟨k _ _ n.symm hz,k _ _ j.symm hTI,⟨a,b,k _ _ p.symm hTO⟩,h1.move λo e=>k _ o m.symm e,h2.move λo e=>k _ o c.symm e⟩
 .refine .inr ⟨⟨T,b,k _ _ n.symm hz,Tz,T1,T2,?_⟩,k _ _ j.symm hTI,h1.move λo e=>k _ o m.symm e,h2.move λo e=>k _ o c.symm e⟩;by_cases e:T=d
  .rw[e];exact q
  .exact⟨oT,k _ _ e hT⟩
end
section
variable{prog:Ō}{w:World}{K:Type}[DecidableEq K]{knd:KeyKind prog w K}{A:ŋ}{E:VP}{s:ŉ}{R:Result->ŉ->Prop}{k1 k2:Bool}{z TI TO i1 i2 l1 l2 D:Addr}{xs ys:B0}
def Kr(hh:A.in1.handled=none)(P:Apart5 z TI TO i1 i2)(o1:Off l1 z TO i1 i2)(o2:Off l2 z TO i1 i2)(hd:D≠z/\D≠TI/\D≠TO/\D≠i1/\D≠i2){h₀:Heap}(O:IsSeq k1 h₀ l1 xs)(E:IsSeq k2 h₀ l2 ys)(kvs:List (K×Ŋ))(hz:kvs.length<=sizeLine)
  (hkv: ∀(i:Nat)(y:K×Ŋ),kvs[i]? =some y-> ∃x,xs[i]? =some x/\ys[i]? =some y.2/\knd.is y.1 x=true) (hend:xs[kvs.length]? =none\/ys[kvs.length]? =none)
  (fz:h₀.get? z=none) (fTO:h₀.get? TO=none) (f1:h₀.get? i1=none) (f2:h₀.get? i2=none) (fD:h₀.get? D=none):
  ∀(k i:Nat)(j:Int)(s:ŉ),kvs.length - i=k->i<=kvs.length->ZSt k1 k2 z TI TO i1 i2 l1 l2 i s.heap->s.heap.DictOf knd D (merged [] (kvs.take i))->(∀b o,h₀.get? b=some o->s.heap.get? b=some o)->
   (∀h' tk,(∀b o,h₀.get? b=some o->h'.get? b=some o)->h'.DictOf knd D (merged [] kvs)->R (.ok (.ret .none)) {s with heap:=h',toks:=tk})->
   codeAny (model prog w) A (.builtin "dict.update.loop" ⟨[.ref D,.ref z,rawInt j,.none],[]⟩) R s:=by
 have G: ∀{b c:Addr}{o:Obj},h₀.get? b=some o->h₀.get? c=none->b≠c:=λe n q=>by rw[q,n]at e;cases e
 have old: ∀{h h':Heap},(∀b o,h₀.get? b=some o->h.get? b=some o)->(∀c o,c≠z->c≠TO->c≠i1->c≠i2->h.get? c=some o->h'.get? c=some o)-> ∀b o,h₀.get? b=some o->h'.get? b=some o:=λa c b o e=>c b o (G e fz) (G e fTO) (G e f1) (G e f2) (a b o e);obtain⟨d1,d2,S,d4,d5⟩:=hd;have dk: ∀{h h':Heap}{m:List (K×Ŋ)},h.DictOf knd D m->(∀c o,c≠z->c≠TO->c≠i1->c≠i2->h.get? c=some o->h'.get? c=some o)->h'.DictOf knd D m:=λ⟨o,es,ep,Y,r⟩ c=>⟨o,es,ep,c D o d1 S d4 d5 Y,r⟩
 intro k
 induction k with
 |zero=>
  intro i j s hk hi C T d hR;have U:i=kvs.length:=by omega
  subst U;refine Ņ PySem.F.entry_dict_update_loop ?_;rw[Ħ PySem.F.plain_dict_update_loop _];show wpAny _ A.in1 (pyNext (.ref z) >>= _) _ _ s;refine wB (Ue hh P o1 o2 C (O.move λo e=>d _ o e) (E.move λo e=>d _ o e) hend λh' p=>?_);show wpAny _ A.in1 (Builtin.Dict.addKeywords D [] >>= λ_=>ret Value.none) _ _ _;refine wB (wP ?_);rw[take_length]at T;exact wP (hR h' s.toks (old d p) (dk T p))
 |succ k ih=>
  intro i j s hk hi C T d hR;have Q:i<kvs.length:=by omega
  obtain⟨y,B⟩: ∃y,kvs[i]? =some y:=⟨_,gE Q⟩
  obtain⟨x,hx,hy,I⟩:=hkv i y B;refine Ņ PySem.F.entry_dict_update_loop ?_;rw[Ħ PySem.F.plain_dict_update_loop _];show wpAny _ A.in1 (pyNext (.ref z) >>= _) _ _ s;refine wB (Kq P o1 o2 C (O.move λo e=>d _ o e) (E.move λo e=>d _ o e) hx hy λh' M L p=>?_);have v:=old d p;have X:=dk T p;have Z:Shared.TypeIs {s with heap:=h'} (.ref ↑0) "tuple":=⟨_,L,rfl⟩
  refine wB (ù ?_);refine wB (wpAny_tryCatch ?_);unfold Builtin.Dict.pairItems;refine wB (ĝ Z ?_);rw[iP (by decide)];refine wB ?_;show wpAny _ _ (do match (<-load s.heap.objs.size).data with |.seq xs _=>pure (some xs)|_=>pure none) _ _ _;refine wB (wpAny_load L ?_);refine wP (wP ?_);show wpAny _ _ (holding [x,y.2] (dictSet D x y.2)) _ _ _;refine ù ?_;have N:=merged_length_le [] (kvs.take i);have aa:(kvs.take i).length<=kvs.length:=List.length_take_le' i kvs;refine wpAny_dictSet_pairs (s:={s with heap:=h'}) (hsz:=by rw[ú]at N;omega) I X λh2 J H=>?_;have u: ∀b o,h₀.get? b=some o->h2.get? b=some o:=λb o e=>by rw[H.2 b (G e fD)];exact v b o e
  refine wP ⟨plainId_quiet PySem.F.plain_dict_update_loop _,ih (i+1) (j+1) _ (by omega) Q (M.frame ⟨d1,d2,S,d4,d5⟩ (λb o hb e=>by rw[H.2 b hb];exact e) ?_) ?_ u λh3 W k3 S=>hR h3 W k3 S⟩
  .obtain⟨o,_,_,Y,_⟩:=id J;exact⟨o,Y⟩
  .rw[merged_take_succ _ _ _ _ B];exact J
def GO{kvs:List (K×Ŋ)}{Q:VP}(u:A.handled=none)(P:Apart5 z TI TO i1 i2)(M:Off l1 z TO i1 i2)(J:Off l2 z TO i1 i2)(st:ZipSt k1 k2 z TI TO i1 i2 l1 l2 0 s.heap){h₀:Heap}(j: ∀b o,h₀.get? b=some o->s.heap.get? b=some o)
  (hl1:IsSeq k1 h₀ l1 xs) (hl2:IsSeq k2 h₀ l2 ys) (hz:kvs.length<=sizeLine) (hkv: ∀(i:Nat)(y:K×Ŋ),kvs[i]? =some y-> ∃x,xs[i]? =some x/\ys[i]? =some y.2/\knd.is y.1 x=true) (hend:xs[kvs.length]? =none\/ys[kvs.length]? =none)
  (fz:h₀.get? z=none) (fTO:h₀.get? TO=none) (f1:h₀.get? i1=none) (f2:h₀.get? i2=none)
  (h: ∀h' v,(∀b o,h₀.get? b=some o->h'.get? b=some o)->h'.DictOf knd ↑0 (merged [] kvs)->Q (.ref ↑0) {s with heap:=h',toks:=v}):
  wpAny (model prog w) A (call (.type "dict") [.ref z]) Q E s:=by
 refine callType_codes (Q₁:=λn d=>n=.ref ↑0/\d={s with heap:=s.heap.push {cls:=.type "dict",data:=.dict #[]}}) PySem.F.kt_called_dict (PySem.F.kt_typeCall_dict_1 _) PySem.F.entry_dict_init (kt_code_dict_new _ ⟨rfl,rfl⟩) ?_;rintro n d ⟨rfl,rfl⟩;have c:(s.heap.push {cls:=.type "dict",data:=.dict #[]}).DictOf knd ↑0 []:=Heap.DictOf.new s.heap;have B: ∀b o,s.heap.get? b=some o->(s.heap.push {cls:=.type "dict",data:=.dict #[]}).get? b=some o:=λb o e=>hP0 _ e;refine⟨c.typeIs,PySem.F.args_dict_init_2 _ _,?_⟩;unfold Builtin.«dict.__init__»;refine wB ?_;unfold Builtin.Dict.selfAndRest;refine wB (Ġ c.typeIs ?_);show wpAny _ _ (pure (↑0,[Value.ref z])) _ _ _;refine wP ?_;show wpAny _ _ (Builtin.Dict.updateFrom "dict.__init__" ↑0 (.ref z) [] .none) _ _ _;unfold Builtin.Dict.updateFrom;refine wB (ĝ (T:="zip") ⟨_,B _ _ st.z,rfl⟩ ?_);rw[iP (by decide)];refine wB (getAttr?_miss_zip (B _ _ st.z) OQ (by decide+kernel) u (λh1 L k1=>?_) (by decide+kernel));rw[iP (show(none:Option Ŋ).isNone=true from rfl)];refine wB (ĕ ?_);obtain⟨m,q,⟨a,b,p⟩,G,I⟩:=st;have k: ∀b o,s.heap.get? b=some o->h1.get? b=some o:=λb o e=>k1 b o (B b o e);refine wB (wpAny_pyIter_zip (k _ _ m) ?_);have ne: ∀{b:Addr}{o:Obj},s.heap.get? b=some o->↑0≠b:=λe=>ø (â e);obtain⟨p1,O,_⟩:=G.there;obtain⟨p2,g2,_⟩:=I.there;refine wP ⟨plainId_quiet PySem.F.plain_dict_update_loop _,Kr (knd:=knd) (h₀:=h₀) (D:=↑0) (by first |exact u|exact(show A.in1.in1.handled=none from u)) P M J ⟨ne m,ne q,ne p,ne O,ne g2⟩ hl1 hl2 kvs hz hkv hend fz fTO f1 f2 ?_ _ 0 0 _ rfl (zero_le _) (.inl ⟨k _ _ m,k _ _ q,⟨a,b,k _ _ p⟩,G.move λo e=>k _ o e,I.move λo e=>k _ o e⟩) ?_ (λb o e=>k b o (j b o e)) λh' v N C=>⟨rfl,h h' v N C⟩⟩
 .cases r:h₀.get? ↑0 with
  |none=>rfl
  |some H=>exact absurd (â (j _ _ r)) (ı _)
 .obtain⟨H,es,ep,r,rest⟩:=c;exact⟨H,es,ep,k1 _ _ r,rest⟩
end
section
variable{X:Cx}{W:XW}{α:B6}{H:Hp}{a b:Expr}{p1 p2 pos pos2:Pos}{ta:TA}{af:Rho->Sto->R (List Er)}
def tDZ(X:Cx)(ta:TA):TE:=λσ H Q=>ta σ H λvs H1=> ∃(k1 k2:Bool)(l1 l2:Addr)(us ws:List V)(ks:List Key),vs=[.ref l1,.ref l2]/\FY k1 X.K H1 l1 us/\FY k2 X.K H1 l2 ws/\us=ks.map kV/\X.calm=true/\ ∀d,H1 d=none->Q (.ref d) (xR H1 d (.dK (OJ (ks.zip ws))))
theorem Cq(X:Cx): ∀{ks:List Key}{is b:A0}{ws:List V},Vals (ks.map kV) is->Vals ws b->KV (ks.zip ws) (ks.zip b)/\ ∀(i:Nat)(a:Key×Ŋ),(ks.zip b)[i]? =some a-> ∃x,is[i]? =some x/\b[i]? =some a.2/\(xE X.prog X.w).is a.1 x=true
 |[],_,_,_,_,_=>⟨.nil,λi a h=>by simp at h⟩
 |k::ks,_,_,_,.cons r t,.nil=>⟨.nil,λi a h=>by simp at h⟩
 |k::ks,_,_,_,.cons r t,.cons r' t'=>by
  obtain⟨h1,c⟩:=Cq X (ks:=ks) t t';refine⟨.cons ⟨rfl,r'⟩ h1,λi a h=>?_⟩
  cases i with
  |zero=>cases h;exact⟨_,rfl,rfl,OI r⟩
  |succ i=>exact c i a h
def Kt(E:Gl X "dict")(hm:X.mg "dict"=none)(F:Gl X "zip")(J:X.mg "zip"=none)(Z:PA X [a,b] ta)(hs:starEach [a,b] X.env=[(false,eval a X.env),(false,eval b X.env)]:=by rfl)(v:starEach [b] X.env=[(false,eval b X.env)]:=by rfl)
  (hz:starEach [.Call (.Name "zip" p2) [a,b] [] pos2] X.env=[(false,eval (.Call (.Name "zip" p2) [a,b] [] pos2) X.env)]:=by rfl):
  PE X (.Call (.Name "dict" p1) [.Call (.Name "zip" p2) [a,b] [] pos2] [] pos) (tDZ X ta):=by
 intro pins s σ H Q I h;refine Call_ (mI I E hm KW (Č ?_ (by rw[hz];rfl) (by rfl)));rw[hz];show wpAny _ _ (spliced ((false,eval (.Call (.Name "zip" p2) [a,b] [] pos2) X.env)::[])) _ _ s;refine Calls.spliced_cons ?_;refine Call_ (mI I F J Bk (Č (jB (Z pos2 pins s σ H _ I h) λus c ⟨vs,H1,I1,P,W⟩=>?_) (by rw[hs,v]) (by rw[v];rfl)));obtain⟨k1,k2,l1,l2,aa,ws,y,rfl,S,T,rfl,hc,q⟩:=W
 cases P with
 |cons r rr=>
  cases rr with
  |cons r' rr=>
   cases rr;cases r;cases r';obtain⟨its,K,p1,z1⟩:=I1.seqK S;obtain⟨j,M,p2,z2⟩:=I1.seqK T;refine NU p1 p2 λh' st u=>Calls.spliced_nil ?_;obtain⟨Y,e2⟩:=Cq X K M;have L:=K.length;have n2:=M.length;rw[lM]at L
   have lt: ∀{k:Bool}{l:Addr}{B:B0},IsSeq k c.heap l B->l<c.heap.objs.size:=λ{k} {l} {B} p=>by
    cases k with
    |true=>obtain⟨o,e,_⟩:=(p:c.heap.IsList l B);exact â e
    |false=>obtain⟨o,e,_⟩:=(p:c.heap.IsTuple l B);exact â e
   have m: ∀{l:Addr},l<c.heap.objs.size->Off l (c.heap.objs.size+4) (c.heap.objs.size+3) c.heap.objs.size (c.heap.objs.size+1):=λ{l} h=>by exact⟨ë (ç h (đ _ _)),ë (ç h (đ _ _)),ë h,ë (ç h (đ _ _))⟩
   have A: ∀n,c.heap.objs.size<=n->c.heap.get? n=none:=λn hn=>by
    cases E:c.heap.get? n with
    |none=>rfl
    |some oo=>exact absurd (â E) (Nat.not_lt.mpr hn)
   have d:c.heap.objs.size<=h'.objs.size:=by have:=â st.z;have h4:c.heap.objs.size+4<h'.objs.size:=this;omega
   refine GO (knd:=xE X.prog X.w) (kvs:=y.zip j) (s:={c with heap:=h'}) (I1.ok.hd hc) (apart_new _) (m (lt p1)) (m (lt p2)) st u p1 p2 (by rw[Ļ];omega) (λi U hi=>?_) ?_ (A _ (đ _ _)) (A _ (đ _ _)) (A _ (à _)) (A _ (đ _ _)) λh2 N C G=>?_
   .obtain⟨x,g1,g2,O⟩:=e2 i U hi;exact⟨x,by simpa using g1,by simpa using g2,O⟩
   .rw[Ļ];by_cases D:y.length<=j.length
    .left;rw[min_eq_left D,L];simp
    .right;rw[min_eq_right (by omega)];simp
   .have hf:=YH (y.zip ws);rw[Ļ]at hf;refine⟨.ref h'.objs.size,_,I1.laid (t':=N) C d (show ObjOk X.prog X.w _ h2 _ (.dK (OJ (y.zip ws)))from⟨by omega,ŀ.mpr (Ne.symm (ë (ç (KE I1) d))),_,UP Y .nil,G⟩),rfl,q _ (I1.hok.fresh d)⟩
def Ug:List Er->Sto->R Er
 |[p,q],S=>match srcOf S p with
  |some a=>match srcOf S q with
   |some b=>if a.ds.all sT=true then .ok (.val (.loc S.length)) (S++[.dic (Cd (a.ds.zip b.ds))])else .no
   |none=>.no
  |none=>.no
 |_,_=>.no
theorem OT: ∀{ds:C8}{us:List V},ds.all sT=true->DenL X.K α H ds us-> ∃b:List Key,us=b.map kV/\ ∀{es:C8}{ws:List V},DenL X.K α H es ws->DenK X.K α H (ds.zip es) (b.zip ws)
 |[],us,_,l=>⟨[],by rw[l.isnil];rfl,λ_=>.nil⟩
 |d::ds,us,h,l=>by
  obtain⟨v,r,rfl,j,k⟩:=l.uncons;rw[List.all_cons,aE]at h;obtain⟨c,a⟩:=ï.mp h.1;obtain⟨b,rfl,f⟩:=OT h.2 k;refine⟨c::b,by rw[YD (X:=X) a j];rfl,λ{es} {ws} le=>?_⟩
  cases es with
  |nil=>rw[le.isnil];exact .nil
  |cons e es=>
   obtain⟨n,m,rfl,i,l2⟩:=le.uncons;exact .cons (YC a) i (f l2)
def Ku(N:X.calm=true)(B:Gl X "dict")(D:X.mg "dict"=none)(j:Gl X "zip")(s:X.mg "zip"=none)(i:CN X W [a,b] af)(hs:starEach [a,b] X.env=[(false,eval a X.env),(false,eval b X.env)]:=by rfl)(r:starEach [b] X.env=[(false,eval b X.env)]:=by rfl)
  (hz:starEach [.Call (.Name "zip" p2) [a,b] [] pos2] X.env=[(false,eval (.Call (.Name "zip" p2) [a,b] [] pos2) X.env)]:=by rfl):
  zN X W (.Call (.Name "dict" p1) [.Call (.Name "zip" p2) [a,b] [] pos2] [] pos) (λρ S=>(af ρ S).bind Ug):=by
 obtain⟨t,i,k⟩:=i;refine⟨_,Kt B D j s i hs r hz,λα ρ S σ H Q L sl q=>k α ρ S σ H _ L sl (q.bind λvs rs S1 n H1 e Y d J c=>?_)⟩
 replace c:=c.shift Y
 unfold Ug at c;split at c
 .rename_i r1 r2;split at c
  .rename_i y T;split at c
   .rename_i A O;split at c
    .rename_i P;obtain⟨u,v,rfl,Z,I⟩:=Mw J;obtain⟨l1,P1,rfl,p1,M⟩:=vS d T Z;obtain⟨l2,P2,rfl,p2,C⟩:=vS d O I;obtain⟨us,U,g2⟩:=M.get _ _ _ p1;obtain⟨ws,F,E⟩:=C.get _ _ _ p2;obtain⟨h,rfl,f⟩:=OT P g2;have G:=f E;refine⟨y.k,A.k,l1,l2,_,ws,h,rfl,U,F,rfl,N,λp z=>?_⟩;have w:=d.newx (o:=.dK (OJ (h.zip ws))) z;obtain⟨x,K⟩:=d.put (ho:=.dK (OJ (h.zip ws))) (m:=.dic (Cd (y.ds.zip A.ds))) z (.inl ⟨_,zS,(vZ G .nil).ex0 ⟨⟨[p],rfl⟩,w.tup,w.frz⟩⟩);exact c (.ref p) (n++[p]) _ x K (DenE.val (mP (by rw[<-d.len,æ (à _),sub_self];rfl)))
    .exact c.elim
   .exact c.elim
  .exact c.elim
 .exact c.elim
end
section
open PySem.SeqAt
open PySem.AutoSeq1 (wpAny_loadPart')
open PySem.MeetsSeq PySem.MeetsSeq2 PySem.MeetsSeq3
def YN(l b:Addr)(items a:B0)(n M:Nat)(E B:Option Addr)(sl v:Array (Option Ŋ))(C:Bool)(k:Nat):
  ∀i:Nat,items.size - i=k->i<=items.size->i<=a.size->Meets (Builtin.«list.__eq__.loop» ⟨[.ref l,.ref b,rawInt i,rawInt 0],[]⟩)
   (λA R s=>s.heap.get? l=some {cls:=.type "list",dict:=E,data:=.seq items n,slots:=sl}/\s.heap.get? b=some {cls:=.type "list",dict:=B,data:=.seq a M,slots:=v}/\
    LexR A.in1 s (items.toList.drop i) (a.toList.drop i) C/\R (.ok (.ret (.bool C))) s):=by
 induction k with
 |zero=>
  intro i K h1 I prog w A R s h;obtain⟨L,g,d,G,F⟩:=s;obtain⟨p,q,m,h⟩:=h
  wp_walk using ÿ p,ÿ q
  have e:items[((i:Nat):Int).toNat]? =none:=by simp;omega
  have hd:items.toList.drop i=[]:=by simp;omega
  rw[hd]at m
  have D:C=decide (items.size<a.size):=by
   generalize J:a.toList.drop i=zs at m;have j:=congrArg List.length J;rw[þ,í]at j
   cases m with
   |nn=>simp only[ú]at j;exact(dF0 (by omega)).symm
   |nc x xs=>simp only[lC]at j;exact(dT0 (by omega)).symm
  rw[D]at h;rw[e]
  cases c:a[((i:Nat):Int).toNat]? with
  |none=>
   wp_walk using ÿ p,ÿ q
   exact h
  |some y=>
   wp_walk using ÿ p,ÿ q
   exact h
 |succ k ih=>
  intro i K h1 I prog w A R s h;obtain⟨L,g,d,G,F⟩:=s;obtain⟨p,q,m,h⟩:=h
  wp_walk using ÿ p,ÿ q
  have u:i<items.size:=by omega
  have e:items[((i:Nat):Int).toNat]? =some items[i]:=by simp[u]
  have hd:items.toList.drop i=items[i]::items.toList.drop (i+1):=by rw[ĥ (by simpa using u)];simp
  have H:((i:Int)+1)=((i+1:Nat):Int):=by push_cast;rfl
  rw[hd]at m;by_cases o:i<a.size
  .have c:a[((i:Nat):Int).toNat]? =some a[i]:=by simp[o]
   have r:a.toList.drop i=a[i]::a.toList.drop (i+1):=by rw[ĥ (by simpa using o)];simp
   rw[r]at m;rw[e,c]
   cases m with
   |eq he hr=>
    refine wB (he prog w _ _ ?_)
    wp_walk
    rw[H];exact⟨plainId_quiet plain_eq_loop _,Ņ entry_eq_loop (by rw[Ħ plain_eq_loop _];exact ih (i+1) (by omega) (by omega) (by omega) prog w A R _ ⟨p,q,hr,h⟩)⟩
   |ne he hr=>
    refine wB (he prog w _ _ ?_);have z:=hr prog w
    wp_walk using ÿ p,ÿ q
    rw[e,c]
    wp_walk using z
    exact h
  .have c:a[((i:Nat):Int).toNat]? =none:=by simp;omega
   have r:a.toList.drop i=[]:=by simp;omega
   rw[r]at m;cases m;have D:decide (items.size<a.size)=false:=dF0 (by omega);rw[<-D]at h;rw[e,c]
   wp_walk using ÿ p,ÿ q
   exact h
def YO(l b:Addr)(items a:B0)(n o:Nat)(j e:Option Addr)(sl c:Array (Option Ŋ))(i:Bool):
  Meets (Builtin.«list.__lt__» ⟨[.ref l,.ref b],[]⟩)
   (λA R s=>s.heap.get? l=some {cls:=.type "list",dict:=j,data:=.seq items n,slots:=sl}/\s.heap.get? b=some {cls:=.type "list",dict:=e,data:=.seq a o,slots:=c}/\
    LexR A.in1 s items.toList a.toList i/\R (.ok (.ret (.bool i))) s):=by
 intro prog w A R s h;obtain⟨v,g,d,u,r⟩:=s;obtain⟨m,k,p,h⟩:=h;have q:=AutoSeq1.sub_list_list
 wp_walk using ÿ m,ÿ k
 exact⟨plainId_quiet plain_eq_loop _,Ņ entry_eq_loop (by rw[Ħ plain_eq_loop _];exact YN l b items a n o j e sl c i _ 0 rfl (zero_le _) (zero_le _) prog w A R _ ⟨m,k,by simpa using p,h⟩)⟩
end
def LstAt(h:Heap)(a:Addr)(its:A0):Prop:= ∃o n,h.get? a=some o/\o.cls=.type "list"/\o.data=.seq its.toArray n
section
variable{A:ŋ}{E:VP}{s:ŉ}
def Cr{M:Model}{b:A0}(m:b≠[])(h: ∀x,x∈b-> ∃a its,x=.ref a/\LstAt s.heap a its):
  wpAny M A (keyKind' b.toArray) (λk s'=>s'=s/\k=oneType') E s:=by
 rw[keyKind'_eq];refine wB (û (Srt.wp_mapMA (g:=λ_=>(none:Option Ŋ)) λx j=>?_) (λr s' i=>?_) λ_ _ e=>e)
 .obtain⟨a,its,rfl,o,n,h1,d,p⟩:=h x j;rw[Srt.firstOfTuple'_eq];refine wB (ĝ (T:="list") ⟨o,h1,d⟩ ?_);rw[iP (by decide)];exact wP ⟨rfl,rfl⟩
 .obtain⟨rfl,rfl⟩:=i
  match b,m,h with
  |x::l,m,h=>
   rw[iN (by simp),iN (by simp)];rw[oneTypeOnly'_eq];refine wB (wB (û (Srt.wp_mapMA (g:=λ_=>Value.type "list") λx j=>?_) (λr s' i=>?_) λ_ _ e=>e))
   .obtain⟨a,its,rfl,o,n,h1,d,p⟩:=h x j;exact ĝ (T:="list") ⟨o,h1,d⟩ ⟨rfl,rfl⟩
   .obtain⟨rfl,rfl⟩:=i;have q:(List.map (λ_=>Value.type "list") (x::l)).toArray[0]? =some (Value.type "list"):=by simp
    have c:((List.map (λ_=>Value.type "list") (x::l)).toArray.all λx=>x==Value.type "list")=true:=by simp only[all_toArray,all_map,ą];intro _ _;rfl
    rw[q];dsimp only;rw[c];exact wP (wP ⟨rfl,rfl⟩)
def YQ{prog:Ō}{w:World}{l b:Addr}{its a:A0}{k:Bool}{Q:Bool->ŉ->Prop}(D:A.units+2<cLine)(v:LstAt s.heap l its)(u:LstAt s.heap b a)(C:LexR A.in1 s its a k)(B:Q k s):
  wpAny (model prog w) A (keyLt' oneType' (.ref l) (.ref b)) Q E s:=by
 obtain⟨⟨y,r,q,sl⟩,n,j,o,hd⟩:=v;obtain⟨⟨p,h,m,e⟩,z,i,d,c⟩:=u;simp only at o hd d c;subst o hd d c;rw[keyLt'_oneType,oneLt'_eq];simp only[if_true];refine wB (wpAny_cRoomFor (by omega) ?_);refine wB (wpAny_callSpecialIfBound?_slot ⟨_,j,rfl⟩ PySem.F.slot_list_lt (Ĺ PySem.F.slot_list_lt ⟨_,j,rfl⟩ PySem.F.entry_list_lt (PySem.F.args_list_lt_2 _ _) (YO l b _ _ n z r h sl e k) ⟨j,i,C,?_⟩));exact Ķ B
end
def KX(l:Bool)(K:C6)(α:B6)(H:Hp)(d:MV)(v:V):Prop:=if l=true then∃es a vs,d=.tup es/\v=.ref a/\H a=some (.lst vs)/\a∉α/\DenL K α H es vs else Den K α H d v
inductive KXL(l:Bool)(K:C6)(α:B6)(H:Hp):List MV->List V->Prop
 |nil:KXL l K α H [] []
 |cons {d v ds vs}:KX l K α H d v->KXL l K α H ds vs->KXL l K α H (d::ds) (v::vs)
noncomputable def YR(l:Bool)(d:MV):Er:=if l=true then(match d with |.tup es=>.new es|d=>.val d)else .val d
def Fk(l b:Bool)(d:MV):Prop:=if l=true then∃es,d=.tup es else KindD b d
abbrev UQ(l b:Bool):SortKind:=if l=true then oneType' else Bz b
section
variable{l:Bool}{K:C6}{α:B6}{H H':Hp}
def KX.ext(x:Ext α H α H'){d:MV}{v:V}(h:KX l K α H d v):KX l K α H' d v:=by
 cases l with
 |true=>obtain⟨es,a,vs,b,c,h,n,l⟩:=h;exact⟨es,a,vs,b,c,x.keep a _ h n,n,DenL.ext x l⟩
 |false=>exact Den.ext x h
theorem KXL.ext(x:Ext α H α H'): ∀{ds:C8}{vs:List V},KXL l K α H ds vs->KXL l K α H' ds vs
 |_,_,.nil=>.nil
 |_,_,.cons h t=>.cons (h.ext x) (KXL.ext x t)
theorem KXL.length: ∀{ds:C8}{vs:List V},KXL l K α H ds vs->vs.length=ds.length
 |_,_,.nil=>rfl
 |_,_,.cons h t=>by rw[lC,lC,KXL.length t]
theorem KXL.append: ∀{ds es:C8}{vs us:List V},KXL l K α H ds vs->KXL l K α H es us->KXL l K α H (ds++es) (vs++us)
 |_,_,_,_,.nil,h=>h
 |_,_,_,_,.cons a t,h=>.cons a (KXL.append t h)
theorem KXL.at: ∀{ds:C8}{vs:List V}{i:Nat}{d:MV},KXL l K α H ds vs->ds[i]? =some d-> ∃v,vs[i]? =some v/\KX l K α H d v
 |_,_,0,_,.cons h t,e=>by cases e;exact⟨_,rfl,h⟩
 |_,_,i+1,_,.cons h t,e=>KXL.at (i:=i) t e
theorem KXL.get: ∀{ds:C8}{vs:List V}{i:Nat}{v:V},KXL l K α H ds vs->vs[i]? =some v-> ∃d,ds[i]? =some d/\KX l K α H d v
 |_,_,0,_,.cons h t,e=>by cases e;exact⟨_,rfl,h⟩
 |_,_,i+1,_,.cons h t,e=>KXL.get (i:=i) t e
def KXL.den: ∀{ds:C8}{vs:List V},KXL false K α H ds vs->DenL K α H ds vs
 |_,_,.nil=>zW
 |_,_,.cons h t=>zQ h t.den
def Uh{b:Bool}{d:MV}{u:V}(k:Fk l b d)(h:DenX K α H (YR l d) u):KX l K α H d u:=by
 cases l with
 |true=>obtain⟨es,rfl⟩:=k;obtain⟨b,vs,e,h,n,l⟩:=h;exact⟨es,b,vs,rfl,e,h,n,l⟩
 |false=>exact h
end
section
variable{X:Cx}{l b:Bool}{α:B6}{S:Sto}{H:Hp}{pins:C0}{σ:St}{s:ŉ}{k:Nat}{fa:Addr}{fd:FuncData}{ps:B7}{Fd:List MV->Sto->R Er}
structure LpX(l:Bool)(X:Cx)(pins:C0)(σ:St)(α:B6)(S:Sto)(H:Hp)(L KS:Addr)(e1:Nat)(kds:C8)(m:Nat)(s':ŉ):Prop where
 go: ∃(H':Hp)(ks:A0)(n:Nat)(kvs:List V),Inv X pins σ H' s'/\Ext α H α H'/\Wd X.g α S H'/\s'.heap.get? L=some (seqObj "list" #[] e1)/\s'.heap.get? KS=some (seqObj "list" ks.toArray n)/\H' L=none/\H' KS=none/\
  Vals kvs ks/\KXL l X.K α H' (kds.take m) kvs
def Cs(F:FnOk X.prog X.w X.K X.mg X.base DP k fa fd ps (QZ X.g 1 Fd))(hr:Room (k+2) X.A)(i:Binds X.K fd ps []){L c:Addr}{E:Nat}{ds:C8}{xs:List V}{its:A0}(M:L≠c)
  (fL: ∀H',H' L=none->pH X pins H' L) (fK: ∀H',H' c=none->pH X pins H' c) (dl:DenL X.K α H ds xs) (rv:Vals xs its) (hlen:ds.length<128) (hkl:kds.length=ds.length)
  (hk: ∀(m:Nat) d kd,ds[m]? =some d->kds[m]? =some kd->zK 1 Fd [.val d] S=.ok (YR l kd) S) (hkind: ∀d,d∈kds->Fk l b d) {m:Nat} {x:Ŋ} (hx:its[m]? =some x) {A':B0} {E':VP} {P:ForInStep PUnit->ŉ->Prop}
  (h:LpX l X pins σ α S H L c E kds m s) (hp: ∀s',LpX l X pins σ α S H L c E kds (m+1) s'->P (.yield ⟨⟩) s'):wpAny (model X.prog X.w) X.A.in1.in1 (Srt.kStep L fa A' (.ref c) x) P E' s:=by
 obtain⟨H',q,n,kvs,I,Z,wd,gL,gK,nL,nK,vk,dk⟩:=h.go;have hm:m<xs.length:=by rw[rv.length];exact(gS.mp hx).1
 obtain⟨O,r⟩: ∃O,xs[m]? =some O:=⟨xs[m],gE hm⟩
 obtain⟨x',B,rx⟩:=rv.get r;rw[hx]at B;cases B;obtain⟨d,hd,dd⟩:=dl.get r;obtain⟨kd,p⟩: ∃kd,kds[m]? =some kd:=⟨kds[m]'(by rw[hkl, <-dl.length];exact hm),gE _⟩
 have hc:=hk m d kd hd p
 have I2:=I.pinned (fp:=[L,c]) (λb i=>by
  rcases mC.mp i with rfl|i
  .exact fL _ nL
  .rw[mS.mp i];exact fK _ nK) (λb i=>by
  rcases mC.mp i with rfl|i
  .exact⟨_,gL,λv z=>by cases z⟩
  .rw[mS.mp i];exact⟨_,gK,λv z=>by cases z⟩)
 have pl:rZ [L,c] s.heap=[(L,seqObj "list" #[] E),(c,seqObj "list" q.toArray n)]:=by unfold rZ;simp[gL,gK]
 rw[pl]at I2;unfold Srt.kStep;refine wB (Ĉ (û (Jz (Q:=λu j=> ∃a,Ext α H' a j/\Wd X.g a S j/\KX l X.K a j kd u) F hr i I2 (us:=[x]) (vs:=[O]) (.cons rx .nil) ?_) (λu s2 h2=>?_) λ_ _ e=>e))
 .refine HN (W:=W0) (Ext.refl α H') wd (rs:=[.val d]) (.cons (DenE.val (dd.ext Z)) (λds b e=>by cases e) .nil) ?_;rw[hc];exact λu a j y D G=>⟨a,y,D,Uh (hkind kd (è p)) G.1⟩
 .obtain⟨v,j,T,J,a,y,D,G⟩:=h2;have U:=Th wd y D;subst U;have pL:=T.pin (L,seqObj "list" #[] E) (by simp);have C:=T.pin (c,seqObj "list" q.toArray n) (by simp);have I4:=T.unpinned;dsimp only;have kl:q.length<128:=by rw[<-vk.length,dk.length,lT];omega
  refine wB (listUpdate_at C.1 rfl ?_ (by rw[sA0];have:=Ĕ;omega) (by rw[Ĝ,sA0];have:=Ĕ;omega));obtain⟨Y,N⟩: ∃Y,(s2.heap.update c (Obj.mapSeq λv=>v.push u)).get? c=some (seqObj "list" (q++[u]).toArray Y):=⟨_,by have:=get?_update_seq C.1 (λv=>v.push u);rw[List.push_toArray]at this;exact this⟩
  refine wP (hp _ ⟨j,q++[u],Y,kvs++[v],?_,Z.trans y,D,?_,N,pL.2.1,C.2.1,vk.append (.cons J .nil),?_⟩)
  .obtain⟨f0,f1,f2,f3,f4,f5⟩:=fK j C.2.1;exact I4.turned (t':=s2.toks) (λb o i e=>(ý _ _ (Ne.symm i)).trans e) f0 f1 f3 f4 f5
  .exact(ý _ _ (Ne.symm M)).trans pL.1
  .rw[List.take_succ,p];exact(KXL.ext y dk).append (.cons G .nil)
def Ct{es:C8}(h:gM (.tup es)=true):uB es=true:=by unfold gM at h;exact h
def Ui(I:↑1){d b:MV}{v:V}(p:gM d=true)(i:gM b=true)(h:KX l X.K α H d v)(h':KX l X.K α H b v):d=b:=by
 cases l with
 |true=>
  obtain⟨es,a,vs,rfl,rfl,h1,_,l1⟩:=h;obtain⟨j,m,k,rfl,e,c,_,l2⟩:=h';cases e;rw[h1]at c;cases c;rw[EO I (Ct p) (Ct i) l1 l2]
 |false=>exact UM I p i h h'
def RZ(I:↑1){a:Addr}{vs:List V}(h:H a=some (.lst vs)): ∃its,Vals vs its/\LstAt s.heap a its:=by obtain⟨its,r,⟨o,n,d,c,hd,b⟩,z⟩:=I.list (.of h:SqL X.K H a vs);exact⟨its,r,o,n,d,c,b⟩
def Kv(I:↑1)(n:Wd X.g α S H){A:ŋ}(G:A.units+64<cLine){d f:MV}{x y:V}{u v:Ŋ}{k:Bool}(kd:Fk l b d)(C:Fk l b f)(h1:KX l X.K α H d x)(q:KX l X.K α H f y)(r:RelV x u)(o:RelV y v)
  (h:BD S zH d f=some k) (prog:Ō) (w:World) (E:VP) (Q:Bool->ŉ->Prop) (hq:Q k s):wpAny (model prog w) A (keyLt' (UQ l b) u v) Q E s:=by
 cases l with
 |false=>exact Jy I n G kd C h1 q r o h prog w E Q hq
 |true=>
  obtain⟨es,a,vs,rfl,rfl,F,_,l1⟩:=h1;obtain⟨j,M,B,rfl,rfl,g2,_,l2⟩:=q;cases r;cases o;obtain⟨its,D,J⟩:=RZ I F;obtain⟨p,L,z⟩:=RZ I g2;have h':vO (eqv S 39) (BD S 39) es j=some k:=h;have i:A.in1.units+39<cLine:=by show A.units+1+39<cLine;omega
  exact YQ (by omega) J z (TJ (λd f x y u v k a b c m e=>vN I n 39 A.in1 d f x y u v k i a b c m e) (λd f x y u v k a b c m e=>JS I n 39 A.in1 d f x y u v k i a b c m e) l1 l2 D L h') hq
def KY(l:Bool)(K:C6)(α:B6)(H:Hp)(kds:C8)(u:Ŋ):MV:=
 open Classical in if h: ∃d v,d∈kds/\KX l K α H d v/\RelV v u then Classical.choose h else kds.headD .non
def Vx(l:Bool)(K:C6)(α:B6)(H:Hp)(S:Sto)(kds:C8)(p q:Keyed):Bool:=(BD S zH (KY l K α H kds p.1) (KY l K α H kds q.1)).getD false
def jE{K:C6}(a:kds≠[])(u:Ŋ):KY l K α H kds u∈kds:=by
 unfold KY;split
 .rename_i h;obtain⟨v,h1,_⟩:=ā h;exact h1
 .match kds,a with
  |x::l,_=>exact mF0
def AC{K:C6}{u:Ŋ}(h: ∃d v,d∈kds/\KX l K α H d v/\RelV v u): ∃v,KX l K α H (KY l K α H kds u) v/\RelV v u:=by unfold KY;rw[dif_pos h];obtain⟨v,_,b,a⟩:=ā h;exact⟨v,b,a⟩
def UR(I:↑1){kvs:List V}{ks:A0}(c: ∀d,d∈kds->gM d=true)(n:KXL l X.K α H kds kvs)(m:Vals kvs ks){i:Nat}{u:Ŋ}{a:MV}(q:ks[i]? =some u)(h:kds[i]? =some a):
  KY l X.K α H kds u=a:=by
 obtain⟨v,p,j⟩:=n.at h;obtain⟨y,b,r⟩:=m.get p;rw[q]at b;cases b;have e:a∈kds:=è h;have ne:kds≠[]:=λz=>by rw[z]at e;cases e
 obtain⟨w,k,o⟩:=AC (K:=X.K) (α:=α) (H:=H) ⟨a,v,e,j,r⟩;rw[o.inj r]at k;exact Ui I (c _ (jE ne u)) (c a e) k j
theorem Zd(I:↑1)(wd:Wd X.g α S H){A:ŋ}(hu:A.units+64<cLine)(hne:kds≠[])(hkind: ∀d,d∈kds->Fk l b d)(ho:OrdD S kds){E':VP}:
  Srt.Cmp (model X.prog X.w) A E' s (UQ l b) (λp=> ∃d v,d∈kds/\KX l X.K α H d v/\RelV v p.1) (Vx l X.K α H S kds) where
 go x y hx hy st hk Q hq:=by
  obtain⟨v1,d1,r1⟩:=AC hx;obtain⟨v2,d2,r2⟩:=AC hy;obtain⟨t,ht⟩:=ho.any _ (jE (l:=l) (K:=X.K) (α:=α) (H:=H) hne x.1) _ (jE (l:=l) (K:=X.K) (α:=α) (H:=H) hne y.1);have e:Vx l X.K α H S kds x y=t:=by unfold Vx;rw[ht];rfl
  rw[e]at hq;exact Srt.wp_lt hk (λE Q hq=>Kv I wd hu (hkind _ (jE hne x.1)) (hkind _ (jE hne y.1)) d1 d2 r1 r2 ht X.prog X.w E Q hq) hq
 tr x y z h1 h2:=by unfold Vx at h1 h2 ⊢;have mx:=jE (l:=l) (K:=X.K) (α:=α) (H:=H) hne x.1;have my:=jE (l:=l) (K:=X.K) (α:=α) (H:=H) hne y.1;have mz:=jE (l:=l) (K:=X.K) (α:=α) (H:=H) hne z.1;obtain⟨t1,e1⟩:=ho.any _ my _ mx;obtain⟨t2,e2⟩:=ho.any _ mz _ my;rw[e1]at h1;rw[e2]at h2;have h1:t1=false:=h1;have h2:t2=false:=h2;subst h1 h2;rw[ho.tr _ mx _ my _ mz e1 e2];rfl
 as x y h:=by unfold Vx at h ⊢;have mx:=jE (l:=l) (K:=X.K) (α:=α) (H:=H) hne x.1;have my:=jE (l:=l) (K:=X.K) (α:=α) (H:=H) hne y.1;obtain⟨t1,e1⟩:=ho.any _ mx _ my;rw[e1]at h;have h:t1=true:=h;subst h;rw[ho.as _ mx _ my e1];rfl
def Uj(I:↑1){A:ŋ}{kvs:List V}{ks:A0}(h:kds≠[])(c: ∀d,d∈kds->Fk l b d)(k:KXL l X.K α H kds kvs)(j:Vals kvs ks){p:VP}:
  wpAny (model X.prog X.w) A (keyKind' ks.toArray) (λq s'=>s'=s/\q=UQ l b) p s:=by
 cases l with
 |false=>exact Ti I h c k.den j
 |true=>
  have ne:ks≠[]:=λz=>by have h1:=j.length;have m:=k.length;rw[z]at h1;exact h (Ń.mp (by rw[<-m,h1];rfl))
  refine Cr ne λu v=>?_;obtain⟨i,hi⟩:=getElem?_of_mem v;have n:i<kvs.length:=by rw[j.length];exact(gS.mp hi).1
  obtain⟨y,h1,r⟩:=j.get (gE n);rw[hi]at h1;cases h1;obtain⟨d,m,es,a,vs,rfl,e,o,_,_⟩:=k.get (gE n);rw[e]at r;cases r;obtain⟨its,_,t⟩:=RZ I o;exact⟨a,its,rfl,t⟩
def Cu(F:FnOk X.prog X.w X.K X.mg X.base DP k fa fd ps (QZ X.g 1 Fd))(hr:Room (k+2) X.A)(W:Binds X.K fd ps [])(I:↑1)(wd:Wd X.g α S H){la:Addr}{xs:List V}{ds:C8}(hl:SqL X.K H la xs)(dl:DenL X.K α H ds xs)
  (hlen:ds.length<128) (hkl:kds.length=ds.length) (hk: ∀(m:Nat) d kd,ds[m]? =some d->kds[m]? =some kd->zK 1 Fd [.val d] S=.ok (YR l kd) S) (hpu: ∀d,d∈kds->gM d=true) (hkind: ∀d,d∈kds->Fk l b d) (hord:OrdD S kds) {Q:VK}
  (hQ: ∀(idx:Db)(H':Hp)(p:Addr)(ys:List V),idx.Perm (List.range ds.length)->idx.Pairwise (λi j=> ∀a c,kds[i]? =some a->kds[j]? =some c->BD S zH c a=some false)->Ext α H α H'->Wd X.g α S H'->H' p=none->H p=none->
   DenL X.K α H' (idx.filterMap (ds[·]?)) ys->Q (.ref p) (xR H' p (.lst ys))):wpAny (model X.prog X.w) X.A (call (.builtin "sorted") [.ref la] [("key",.ref fa)]) (EP X pins σ Q) X.xe s:=by
 obtain⟨its,rv,⟨o,n0,e0,ao,_,aj⟩,_⟩:=I.list hl;have ae:s.heap.IsList la its.toArray:=⟨o,e0,ao,n0,aj⟩
 have O:its.length=ds.length:=by rw[<-rv.length,dl.length]
 have av:=Ĕ;refine call_function_entry_kw kind_sorted plain_sorted entry_sorted (KN _ _) ?_;unfold Builtin.«sorted»;refine wB (m:=checkCount "sorted" 1 1 _) (wP ?_);refine wB (collect_list ae ?_ (by omega));refine wB (wpAny_newList ?_);generalize U:(s.heap.push (seqObj "list" #[] 0)).update s.heap.objs.size (Obj.mapSeq (· ++its.toArray))=h1;have ay:h1.objs.size=↑0+1:=by rw[<-U,Heap.size_update,size_push']
 have k1: ∀b u,s.heap.get? b=some u->h1.get? b=some u:=λb u e=>by rw[<-U,ý _ _ (ø (â e))];exact hP0 _ e
 have aa:(h1.push (seqObj "list" its.toArray 0)).get? h1.objs.size=some (seqObj "list" its.toArray 0):=ã _ rfl;show wpAny _ _ _ _ _ {s with heap:=h1.push (seqObj "list" its.toArray 0)};dsimp only;generalize hL:h1.objs.size=L at *;have N:↑0<=L:=by omega
 refine wB (ù (wpAny_call_entry_kw slot_list_sort ⟨_,aa,rfl⟩ entry_list_sort (Srt.sort_keyed aa (by omega) λe1 M=>?_) (RQ _ _)));dsimp only at M ⊢;generalize J:h1.push (seqObj "list" its.toArray 0)=h2 at *;have au:h2.objs.size=L+1:=by rw[<-J,size_push',hL]
 generalize ah:h2.objs.size+1=KS;have sK:↑0<=KS:=by omega
 have P:L≠KS:=by omega
 have fL: ∀H',H' L=none->pH X pins H' L:=λH' hn=>I.fpOk N hn;have fK: ∀H',H' KS=none->pH X pins H' KS:=λH' hn=>I.fpOk sK hn;have k3: ∀b u,s.heap.get? b=some u->(((h2.update L (Obj.mapSeq λ_=>#[])).push (seqObj "tuple" its.toArray 0)).push (seqObj "list" #[] 0)).get? b=some u:=λb u e=>by refine hP0 _ (hP0 _ ?_);rw[ý _ _ (ø (ç (â e) N)), <-J];exact hP0 _ (k1 b u e)
 have I3:Inv X pins σ H {s with heap:=((h2.update L (Obj.mapSeq λ_=>#[])).push (seqObj "tuple" its.toArray 0)).push (seqObj "list" #[] 0)}:=I.kept (t':=s.toks) k3
 have base:LpX l X pins σ α S H L KS e1 kds 0 {s with heap:=((h2.update L (Obj.mapSeq λ_=>#[])).push (seqObj "tuple" its.toArray 0)).push (seqObj "list" #[] 0)}:=by
  refine⟨H,[],0,[],I3,Ext.refl α H,wd,hP0 _ (hP0 _ M),?_,I.hok.fresh N,I.hok.fresh sK,.nil,by rw[List.take_zero];exact .nil⟩;rw[<-ah];have e:h2.objs.size+1=((h2.update L (Obj.mapSeq λ_=>#[])).push (seqObj "tuple" its.toArray 0)).objs.size:=by rw[size_push',Heap.size_update]
  rw[e];exact ã _ rfl
 refine û (wpAny_forIn_list (α:=Ŋ) (β:=PUnit) _ (λrest _ s'=> ∃m,rest=its.drop m/\LpX l X pins σ α S H L KS e1 kds m s') (λ_ s'=>LpX l X pins σ α S H L KS e1 kds its.length s') ?_ ?_ its PUnit.unit ⟨0,rfl,base⟩) (λ_ C q ar=>?_) λ_ _ e=>e
 .rintro x rest _ s' ⟨m,e,q⟩;have hx:its[m]? =some x:=by have:=congrArg (·[0]?) e;simp only[List.getElem?_cons_zero,getElem?_drop,Nat.add_zero]at this;exact this.symm
  refine Cs F hr W P fL fK dl rv hlen hkl hk hkind hx q λax ag=>⟨m+1,?_,ag⟩
  have:=congrArg List.tail e;rw[List.tail_cons,List.tail_drop]at this;exact this
 .rintro _ s' ⟨m,e,q⟩;have hm:its.length<=m:=List.drop_eq_nil_iff.mp e.symm;obtain⟨H',y,n,kvs,a1,a2,a3,a4,a5,a6,a7,a8,a9⟩:=q.go;exact⟨H',y,n,kvs,a1,a2,a3,a4,a5,a6,a7,a8,by rw[Ā (by omega)]at a9 ⊢; exact a9⟩
 .obtain⟨H',y,n,kvs,Z,xt,Y,gL,gK,nL,nK,D,E⟩:=q.go;rw[Ā (by omega)]at E;have B:y.length=ds.length:=by rw[<-D.length,E.length,hkl]
  have hu:X.A.in1.in1.units+64<cLine:=by have:=hr.un;show X.A.units+1+1+64<cLine;omega
  refine⟨y,n,UQ l b,(λp=> ∃d v,d∈kds/\KX l X.K α H' d v/\RelV v p.1),Vx l X.K α H' S kds,gL,gK,by omega,λaw=>?_,λout op os=>?_⟩
  .have ne:kds≠[]:=λz=>by rw[z]at hkl;simp at hkl;omega
   refine⟨Uj Z ne hkind E D,Zd Z Y hu ne hkind hord,λp hp=>?_⟩;have ai:p.1∈y:=(of_mem_zip hp).1;obtain⟨i,hi⟩:=getElem?_of_mem ai;have G:i<kvs.length:=by rw[D.length];exact(gS.mp hi).1
   obtain⟨u',T,r⟩:=D.get (gE G);rw[hi]at T;cases T;obtain⟨d,af,ak⟩:=E.get (gE G);exact⟨d,_,è af,ak,r⟩
  .obtain⟨idx,ip,ie⟩:=HZ op.symm (List.range ds.length) (XT B O);have ib: ∀i,i∈idx->i<ds.length:=λi hi=>mem_range.mp (ip.mem_iff.mp hi);have eo:out.map (·.2)=idx.filterMap (its[·]?):=by rw[<-ie,Ĳ];exact EQ λi hi=>by rw[O];exact ib i hi
   have po:idx.Pairwise (λi j=> ∀a c,kds[i]? =some a->kds[j]? =some c->BD S zH c a=some false):=by rw[<-ie,pairwise_map]at os;refine List.Pairwise.imp_of_mem (λ{i j} hi hj h a c ha hc=>?_) os;have ui:y[i]? =some (y[i]'(by rw[B];exact ib i hi)):=gE _;have uj:y[j]? =some (y[j]'(by rw[B];exact ib j hj)):=gE _;have h':(BD S zH (KY l X.K α H' kds ((y[j]?).getD .none)) (KY l X.K α H' kds ((y[i]?).getD .none))).getD false=false:=h;rw[ui,uj]at h';simp only[Option.getD_some]at h';rw[UR Z hpu E D ui ha,UR Z hpu E D uj hc]at h';obtain⟨t,ht⟩:=hord.any c (è hc) a (è ha);rw[ht]at h';have h':t=false:=h';rw[ht,h']
   have vy:=Vals.pick rv idx;refine⟨_,rfl,wP ⟨_,rfl,.ref L,xR H' L (.lst (idx.filterMap (xs[·]?))),?_,rfl,hQ idx H' L _ ip po xt Y nL (I.hok.fresh N) ((dl.ext xt).pick idx)⟩⟩;have I5:Inv X pins σ H' {C with heap:=C.heap.update KS (Obj.mapSeq λ_=>#[])}:=by obtain⟨f0,f1,f2,f3,f4,f5⟩:=fK H' nK;exact Z.turned (t':=C.toks) (λb o W e=>(ý _ _ (Ne.symm W)).trans e) f0 f1 f3 f4 f5
   have aq:(C.heap.update KS (Obj.mapSeq λ_=>#[])).get? L=some (seqObj "list" #[] e1):=(ý _ _ (Ne.symm P)).trans gL;obtain⟨f0,f1,f2,f3,f4,f5⟩:=fL H' nL
   have I6:Inv X pins σ H' {C with heap:=(C.heap.update KS (Obj.mapSeq λ_=>#[])).update L (Obj.mapSeq λ_=>(out.map (·.2)).toArray)}:=
    I5.turned (t':=C.toks) (λb o W e=>(ý _ _ (Ne.symm W)).trans e) f0 f1 f3 f4 f5
   obtain⟨n',ab⟩: ∃n',((C.heap.update KS (Obj.mapSeq λ_=>#[])).update L (Obj.mapSeq λ_=>(out.map (·.2)).toArray)).get? L=some (seqObj "list" (idx.filterMap (its[·]?)).toArray n'):=⟨_,by have:=get?_update_seq aq (λ_=>(out.map (·.2)).toArray);rw[eo]at this ⊢;exact this⟩
   refine XS (its:=idx.filterMap (its[·]?)) I6 (fL H' nL) (õ I.sz N) ab vy ?_
   .have:=ī (xs[·]?) idx;have h3:=ip.length_eq;rw[Ē]at h3;omega
end
structure SrtOkX(l:Bool)(Fd:List MV->Sto->R Er)(S:Sto)(ds kds:C8)(b:Bool):Prop where
 len:ds.length<128
 kl:kds.length=ds.length
 call: ∀(m:Nat) d kd,ds[m]? =some d->kds[m]? =some kd->zK 1 Fd [.val d] S=.ok (YR l kd) S
 pu: ∀d,d∈kds->gM d=true
 kind: ∀d,d∈kds->Fk l b d
 ord:OrdD S kds
open Classical in
def BH(l:Bool)(Fd:List MV->Sto->R Er)(rs:List Er)(S:Sto):R Er:=match rs with
 |[p]=>match jD S p with
  |some ds=>if h: ∃r, ∃kds b,SrtOkX l Fd S ds kds b/\ ∀a,UN S ds kds a->a=r then .ok (.new (Classical.choose h)) S else .no
  |none=>.no
 |_=>.no
def Kw{l:Bool}{Fd:List MV->Sto->R Er}{p:Er}{S:Sto}{ds r:C8}{b:Bool}(e:jD S p=some ds)(ok:SrtOkX l Fd S ds kds b)(u: ∀c,UN S ds kds c->c=r)(ex:UN S ds kds r)(k: ∀a d,SrtOkX l Fd S ds a d->a=kds):
  BH l Fd [p] S=.ok (.new r) S:=by
 unfold BH;dsimp only;rw[e];dsimp only;have h: ∃r, ∃kds b,SrtOkX l Fd S ds kds b/\ ∀c,UN S ds kds c->c=r:=⟨r,kds,b,ok,u⟩
 rw[dif_pos h];obtain⟨a,d,i,j⟩:=ā h;rw[k a d i]at j;rw[<-j r ex]
section
variable{X:Cx}{W:XW}{a:Expr}{af:Rho->Sto->R (List Er)}{pos:Pos}
def SC(l:Bool){k:Nat}{fa:Addr}{fd:FuncData}{Fd:List MV->Sto->R Er}{x:Str}{p N T:Pos}(F:FnOk X.prog X.w X.K X.mg X.base DP k fa fd ps (QZ X.g 1 Fd))(U:Room (k+2) X.A)(z:Gl X "sorted")(B:X.mg "sorted"=none)
  (hgk:Gl X x) (hmk:X.mg x=some (.ref fa)) (hb:Binds X.K fd ps []) (e:CN X W [a] af) (hd:(x==("__debug__":Str))=false:=by decide)
  (he:backTo pos (starEach [a] X.env)=(false,eval a X.env)::backTo pos (starEach [] X.env):=by rfl) (hpl:(backTo pos (starEach [a] X.env)).any (·.1)=false:=by rfl):
  zN X W (.Call (.Name "sorted" p) [a] [⟨some "key",.Name x N,T⟩] pos) (λρ S=>(af ρ S).bind λrs S1=>BH l Fd rs S1):=by
 obtain⟨t,e,Z⟩:=e
 refine⟨λσ H Q=>t σ H λvs H1=> ∃α S la xs ds kds b,vs=[.ref la]/\Wd X.g α S H1/\SqL X.K H1 la xs/\DenL X.K α H1 ds xs/\SrtOkX l Fd S ds kds b/\
   ∀(idx:Db)(H':Hp)(p:Addr)(ys:List V),idx.Perm (List.range ds.length)->idx.Pairwise (λi j=> ∀a c,kds[i]? =some a->kds[j]? =some c->BD S zH c a=some false)->Ext α H1 α H'->Wd X.g α S H'->H' p=none->H1 p=none->
   DenL X.K α H' (idx.filterMap (ds[·]?)) ys->Q (.ref p) (xR H' p (.lst ys)),?_,λα ρ S σ H Q n sl q=>Z α ρ S σ H _ n sl (q.bind λvs rs S1 m H1 e1 x1 y G d=>?_)⟩
 .intro pins s σ H Q I h;refine wpAny_Call_Name_kw (mI I z B XU ?_);refine callWith_kw (jB (e pos pins s σ H _ I h) λus s1 ⟨vs,H1,I1,J,d⟩=>?_) he hpl;obtain⟨α,S,la,xs,ds,kds,b,rfl,n,C,o,ok,P⟩:=d;obtain⟨u,rfl,L⟩:=J.one;cases L;refine kws_cons (JA I1 hgk hmk (kws_nil ?_) hd);exact Cu F U hb I1 n C o ok.len ok.kl ok.call ok.pu ok.kind ok.ord P
 .replace d:=d.shift x1
  unfold BH at d;split at d
  .rename_i p0;split at d
   .rename_i ds el;split at d
    .rename_i h;obtain⟨v,rfl,E⟩:=HM G;obtain⟨la,xs,rfl,M,o⟩:=tN rfl y el E;obtain⟨kds,b,ok,u⟩:=ā h;refine⟨m,S1,la,xs,ds,kds,b,rfl,y,M,o,ok,λidx H' pp ys i1 i2 O Y D i6 r=>?_⟩;have er:=u _ ⟨idx,i1,i2,rfl⟩;rw[er]at r;exact(d.shift O).newl Y D r
    .exact d.elim
   .exact d.elim
  .exact d.elim
def BI(l:Bool){k:Nat}{Fd:List MV->Sto->R Er}{x:Str}{p e h:Pos}(G:XZ X.prog X.w X.K X.mg X.base x k 1 ps Fd)(i:Room (k+2) X.A)(c:Gl X "sorted")(d:X.mg "sorted"=none)
  (hgk:Gl X x) (ha:CN X W [a] af) (hd:(x==("__debug__":Str))=false:=by decide)
  (he:backTo pos (starEach [a] X.env)=(false,eval a X.env)::backTo pos (starEach [] X.env):=by rfl) (hpl:(backTo pos (starEach [a] X.env)).any (·.1)=false:=by rfl):
  zN X W (.Call (.Name "sorted" p) [a] [⟨some "key",.Name x e,h⟩] pos) (λρ S=>(af ρ S).bind λrs S1=>BH l Fd rs S1):=
 let ⟨_,_,F,m,_,b⟩:=G.ex;SC l F i c d hgk m b ha hd he hpl
end
def KAt(d:Addr)(us:A0)(ep:Nat)(h:Heap):Prop:= ∃o es,h.get? d=some o/\o.ExactDict/\o.data=.dict es ep/\es.toList.map (·.key)=us
def KAt.at{d:Addr}{us:A0}{ep:Nat}{h h':Heap}(x:KAt d us ep h)(m: ∀o,h.get? d=some o->h'.get? d=some o):KAt d us ep h':=let ⟨o,es,a,r⟩:=x;⟨o,es,m o a,r⟩
theorem KAt.size{d:Addr}{us:A0}{ep:Nat}{h:Heap}(x:KAt d us ep h): ∃o es,h.get? d=some o/\o.ExactDict/\o.data=.dict es ep/\es.size=us.length/\ ∀i (hi:i<es.size),us[i]? =some es[i].key:=by obtain⟨o,es,b,a,hd,e⟩:=x;refine⟨o,es,b,a,hd,by rw[<-e,lM,í],λi hi=>?_⟩;rw[<-e,ö,ò,Đ hi];rfl
section
variable{P:Ō}{w:World}{A:ŋ}{E:VP}{s:ŉ}{d it:Addr}{us:A0}{ep i:Nat}
def YS{Q:VP}(hs:(d==sysModules)=false)(i:KAt d us ep s.heap)
  (hQ:Q (.ref ↑0) {s with heap:=s.heap.push {cls:=.type "dict_keyiterator",data:=.fields #[.ref d,.int 0 0,.int us.length 0,.int ep 0]}}):wpAny (model P w) A (pyIter (.ref d)) Q E s:=by
 obtain⟨o,es,c,h,a,b,_⟩:=i.size;have e:s.TypeIs (.ref d) "dict":=⟨o,c,h.1⟩
 refine wpAny_pyIter_slot e PySem.F.slot_dict_iter (ì PySem.F.slot_dict_iter e PySem.F.entry_dict_iter ?_ (PySem.F.args_dict_iter_1 _));refine wB ?_;refine wB (Ġ e ?_);show wpAny _ _ _ _ _ s;refine wP ?_;show wpAny _ _ (Builtin.Dict.showsAll d >>= _) _ _ s;unfold Builtin.Dict.showsAll;rw[iN (by rw[hs];exact xF0)];refine wB (wP ?_);refine wB (ę c a ?_);refine wB (ņ c a ?_);refine wB (ć (wP ⟨_,rfl,_,_,⟨_,ã _ rfl,rfl⟩,PySem.F.slot_dict_keyiterator_next.lookup,?_⟩));simpa [rawInt,b]using hQ
theorem Cv{x:Ŋ}(a:s.heap.IsKeyIter it d i us.length ep)(u:KAt d us ep s.heap)(q:us[i]? =some x)
  (hQ: ∀h',h'.IsKeyIter it d (i+1) us.length ep->Heap.SameBut it s.heap h'->Q (some x) {s with heap:=h'}):wpAny (model P w) A (pyNext (.ref it)) Q E s:=by
 obtain⟨o,n,r,hd⟩:=id a;obtain⟨od,es,k,v,e,h,m⟩:=u.size;have p:i<us.length:=(gS.mp q).1;have b:i<es.size:=by rw[h];exact p
 have y:es[i].key=x:=by have:=m i b;rw[q]at this;exact(ä this).symm
 unfold pyNext;refine wB (Ĉ (î a.typeIs PySem.F.slot_dict_keyiterator_next (ì PySem.F.slot_dict_keyiterator_next a.typeIs PySem.F.entry_dict_keyiterator_next ?_ (PySem.F.args_dict_keyiterator_next_1 _))));refine wB (wP (wB (wB ?_)))
 first |refine wB (ĩ a.typeIs (wP ?_))|refine wB _
 refine wB (wpAny_fieldsOf n hd ?_);have j:Builtin.Dict_items.ownsTuple "dict_keyiterator"=false:=by decide
 simp only[j,fT,iF];show wpAny _ _ (if _=true then _ else _) _ _ s;rw[iN (show¬((Value.ref d==Value.none)=true)from xF0)];refine wB (wP (wB (ę k e ?_)));rw[iN (by rw[h];simp)];refine wB (wP (wB (ņ k e ?_)));rw[iN (by simp)];refine wP ?_;simp only[show¬((i:Int)<0)from by lia,iF,Ď,Đ b];refine wB ?_
 first |refine wB (ĩ a.typeIs (wP ?_))|refine wB _
 refine wB (wpAny_isOneOf_keyiter a.typeIs ?_);show wpAny _ _ (setField (.ref it) 1 (rawInt ((i:Int)+1)) >>= _) _ _ s;refine wB (wpAny_setField n hd (by simp) ?_)
 have c:(s.heap.update it (Obj.mapFields (·.setIfInBounds 1 (rawInt ((i:Int)+1))))).IsKeyIter it d (i+1) us.length ep:=
  ⟨_,Heap.get?_update_self _ n (Obj.isFreed_of_fields (Obj.data_mapFields hd _)),(Obj.cls_mapFields ..).trans r,by rw[Obj.data_mapFields hd];simp[rawInt]⟩
 refine wB (ù ?_);refine wB (wpAny_isOneOf_keyiter c.typeIs ?_);show wpAny _ _ (pure es[i].key) _ _ _;exact wP (wP ⟨_,rfl,wP (y▸hQ _ c (ď ..))⟩)
theorem Cw(n:A.handled=none)(a:s.heap.IsKeyIter it d i us.length ep)(q:KAt d us ep s.heap)(r:us.length<=i)
  (hQ: ∀h',Heap.ExtBut it s.heap h'->Q none {s with heap:=h'}):wpAny (model P w) A (pyNext (.ref it)) Q E s:=by
 obtain⟨o,k,u,hd⟩:=id a;obtain⟨od,es,h,p,c,b,m⟩:=q.size;have j:es.size<=i:=by rw[b];exact r
 unfold pyNext;refine wB (Ĉ (î a.typeIs PySem.F.slot_dict_keyiterator_next (ì PySem.F.slot_dict_keyiterator_next a.typeIs PySem.F.entry_dict_keyiterator_next ?_ (PySem.F.args_dict_keyiterator_next_1 _))));refine wB (wP (wB (wB ?_)))
 first |refine wB (ĩ a.typeIs (wP ?_))|refine wB _
 refine wB (wpAny_fieldsOf k hd ?_);have e:Builtin.Dict_items.ownsTuple "dict_keyiterator"=false:=by decide
 simp only[e,fT,iF];show wpAny _ _ (if _=true then _ else _) _ _ s;rw[iN (show¬((Value.ref d==Value.none)=true)from xF0)];refine wB (wP (wB (ę h c ?_)));rw[iN (by rw[b];simp)];refine wB (wP (wB (ņ h c ?_)));rw[iN (by simp)];refine wP ?_;simp only[show¬((i:Int)<0)from by lia,iF,Ď,Array.getElem?_eq_none j];refine wB ?_
 first |refine wB (ĩ a.typeIs (wP ?_))|refine wB _
 show wpAny _ _ (setField (.ref it) 0 .none >>= _) _ _ s;refine wB (wpAny_setField k hd (by simp) ?_);show wpAny _ _ _ _ _ _;refine wB ?_;simp only[newExc,newTuple];refine wB (ć ?_ (by size_fits));refine wB (wpAny_of_eq (by first |rfl|(simp only[firstArgMember];rfl)) ?_);refine ć ?_ (by size_fits);simp only[raiseNew];refine wB (wpAny_handled ?_);rw[show A.in1.handled=none from n];refine wB (wP (wpAny_throw ?_));refine wB (Ğ ⟨_,ã _ rfl,rfl⟩ isSubtype_stop ?_);exact wP (hQ _ (((ď ..).extBut.push _).push _))
def YT(hh:A.handled=none)(I:Addr)(hne:d≠I)(us:A0)(ep:Nat):Walks P w A I [I,d] [I] us.length (λi x=>us[i]? =some x) (λi h=>h.IsKeyIter I d i us.length ep/\KAt d us ep h) where
 sub:=λb hb=>by simp at hb;simp[hb]
 frame:=λ_ _ _ st hk=>⟨st.1.at λo e=>hk I (by simp) o e,st.2.at λo e=>hk d (by simp) o e⟩
 item:=λi s Q E hi st hQ=>by have hx:=gE hi;refine Cv st.1 st.2 hx λh' hit' hs'=>?_;exact hQ _ h' s.toks hx ⟨hit',st.2.at λo e=>hs'.extBut d o hne e⟩ λb o hb e=>hs'.extBut b o (λh=>hb (by simp[h])) e
 done:=λs Q E st hQ=>Cw hh st.1 st.2 (à _) λh' he'=>hQ h' s.toks λb o hb e=>he' b o (λh=>hb (by simp[h])) e
 self:=λ_ _ _ _ st hQ=>wpAny_pyIter_keyiter st.1 hQ
def Cy(us:A0)(ep:Nat):PySem.W.KdlSrc P w "dict" d d us.length (λi x=>us[i]? =some x) (λh=>(d==sysModules)=false/\KAt d us ep h) where
 type:=λ_ hm=>let ⟨o,_,ho,hc,_⟩:=hm.2;⟨o,ho,hc.1⟩
 there:=λ_ hm=>⟨let ⟨_,_,ho,_⟩:=hm.2;â ho,let ⟨_,_,ho,_⟩:=hm.2;â ho⟩
 keep:=λ_ _ hm hk=>⟨hm.1,hm.2.at λo e=>hk d (.inl rfl) o e⟩
 notList:=by decide
 notTuple:=by decide
 hint:=λ_ _ _ _ hm hq=>PySem.W.kdl_hint_dict (let ⟨o,_,ho,hc,_⟩:=hm.2;⟨o,ho,hc.1⟩) hq
 iter:=λ_ _ hh hm=>⟨_,_,(λ_ _ hq=>YS hm.1 hm.2 hq),YT hh _ (ë (let ⟨_,_,ho,_⟩:=hm.2;â ho)) us ep,⟨⟨_,ã _ rfl,rfl,rfl⟩,hm.2.at λo e=>hP0 _ e⟩⟩
end
section
variable{X:Cx}{W:XW}
theorem OU{K:C6}{α:B6}{H:Hp}: ∀{kvs:E3}{xs:List (NK×Addr×Ŋ)},DenN K α H kvs xs->DenL K α H (kvs.map (·.1)) (xs.map λx=>V.ref x.2.1)
 |_,_,.nil=>zW
 |_,_,.cons hk e a d r l=>zQ a (OU l)
theorem OV: ∀(xs:List (NK×Addr×Ŋ)),Vals (xs.map λx=>V.ref x.2.1) (xs.map λx=>Value.ref x.2.1)
 |[]=>.nil
 |x::xs=>.cons rfl (OV xs)
theorem SD:CallR X (.type "list") (λxs H Q=> ∃d a α kvs,xs=[.ref d]/\DD X H d a/\DenN X.K α H kvs a/\X.calm=true/\ ∀p,H p=none->Q (.ref p) (xR H p (.lst (a.map λx=>V.ref x.2.1)))):=by
 intro pins s σ H xs us Q I r h;obtain⟨d,a,α,kvs,rfl,m,dn,A,q⟩:=h;obtain⟨u,rfl,D⟩:=vals1 r;cases D;obtain⟨⟨o,es,ep,y,i,hd,C,_,_⟩,k,hs⟩:=qS I m dn;have n:KAt d (a.map λx=>Value.ref x.2.1) ep s.heap:=⟨o,es,y,i,hd,by rw[C,Ĳ];rfl⟩
 refine PySem.W.kdl_call (Cy _ ep) (I.ok.hd A) ⟨hs,n⟩ (by rw[lM];exact k) λh' G c F B v b=>?_
 have E:c.toList=a.map λx=>Value.ref x.2.1:=by
  refine ext_getElem? λj=>?_;by_cases z:j<c.size
  .have e:=Đ z;rw[ò,e];exact(b.2 j _ e).symm
  .have e:(a.map λx=>Value.ref x.2.1).length<=j:=by have:=b.1;lia
   rw[ò,Array.getElem?_eq_none #[0],getElem?_eq_none e]
 refine⟨.ref ↑0,_,I.laid B (à _) (show ObjOk X.prog X.w _ h' _ (.lst _)from⟨by rw[lM];exact k,c.toList,F,by rw[E];exact OV a,?_⟩),rfl,q _ (I.hok.fresh (à _))⟩;exact v
def AD:List Er->Sto->R Er
 |[r],S=>match bL S r with |some (_,kvs)=>.ok (.new (kvs.map (·.1))) S|none=>.no
 |_,_=>.no
def Cz(k:X.calm=true):pU X W (λxs H Q=> ∃d b α kvs,xs=[.ref d]/\DD X H d b/\DenN X.K α H kvs b/\X.calm=true/\ ∀p,H p=none->Q (.ref p) (xR H p (.lst (b.map λx=>V.ref x.2.1)))) AD:=by
 intro rs vs α S H Q i d a;unfold AD at a;split at a
 .split at a
  .rename_i n kvs e;obtain⟨v,rfl,m⟩:=lR d;obtain⟨c,xs,rfl,q,r,j,h⟩:=sO i e m;exact⟨c,xs,α,kvs,rfl,j,h,k,λp o=>a.newl i o (OU h)⟩
  .exact a.elim
 .exact a.elim
end
mutual
def SE:Expr->List Str
 |.Name x _=>[x]
 |.Tuple es _ _=>Ze es
 |_=>[]
def Ze:List Expr->List Str
 |[]=>[]
 |e::es=>SE e++Ze es
end
section
variable{X:Cx}{W:XW}{iter:Expr}{pos:Pos}
noncomputable abbrev gnN(T:B7)(N:B7)(idx:Db):List Str:=[]++T++idx.map λi=>(N[i]?).getD Str.empty
def Da{elt tg:Expr}{ifs:C5}{sc a:Scope}{N:B7}{idx:Db}{b:Rho->Sto->R Wk}{cf:AZ}{ef:AX}{gf:MV->Rho->Sto->R Rho}(c:FnScope N ps a)
  (hi:HL X W tg iter b) (hg: ∀C s₂ H1 fp,(gnN (SE tg) N idx).Nodup->Ff (SE tg).length (zM X sc (SE tg) idx C s₂ H1 fp) W0 tg gf)
  (hc: ∀C s₂ H1 fp,NI (zM X sc (SE tg) idx C s₂ H1 fp) W0 ifs cf) (he: ∀C s₂ H1 fp,zN (zM X sc (SE tg) idx C s₂ H1 fp) W0 elt ef)
  (hcalm:X.calm=true:=by rfl) (e1:X.env.scope=a:=by rfl) (e2:X.N=N:=by rfl) (hB:rL a N sc idx=true:=by decide+kernel) (hN:(gnN (SE tg) N idx).Nodup:=by decide+kernel)
  (hs: ∀y,foldedSetIterable iter X.env y=pure y:=by intro _;rfl):
  zN X W (.ListComp elt [⟨tg,iter,ifs,0⟩] sc pos) (λρ S=>(b ρ S).bind λk S1=>if k.ds.length<1000000 then(yD gf cf ef (vE (SE tg).length idx ρ) k.gs k.ds S1).bind λout S2=>.ok (.new out) S2 else .no):=Hv a N _ idx hi hcalm hg hc he e1 e2 hB hN hs
def Dc{x:Str}{c b:Pos}{i:Nat}{elt tg:Expr}{ifs:C5}{sc a:Scope}{N:B7}{idx:Db}{d:Rho->Sto->R Wk}{cf:AZ}{ef:AX}{gf:MV->Rho->Sto->R Rho}(e:FnScope N ps a)
  (hi:HL X W tg iter d) (hg: ∀C s₂ H1 fp,(gnN (SE tg) N idx).Nodup->Ff (SE tg).length (zM X sc (SE tg) idx C s₂ H1 fp) W0 tg gf)
  (hc: ∀C s₂ H1 fp,NI (zM X sc (SE tg) idx C s₂ H1 fp) W0 ifs cf) (he: ∀C s₂ H1 fp,zN (zM X sc (SE tg) idx C s₂ H1 fp) W0 elt ef)
  (hcalm:X.calm=true:=by rfl) (e1:X.env.scope=a:=by rfl) (e2:X.N=N:=by rfl) (hB:rL a N sc idx=true:=by decide+kernel) (hN:(gnN (SE tg) N idx).Nodup:=by decide+kernel)
  (hs: ∀y,foldedSetIterable iter X.env y=pure y:=by intro _;rfl)
  (hi2:X.N[i]? =some x:=by rfl) (hx:Loc X.env.scope x:=by first |exact Or.inl rfl|exact Or.inr rfl)
  (hsw:swapsWith (.ListComp elt [⟨tg,iter,ifs,0⟩] sc pos) (some (.Name x c)) b.line X.env=pure true:=by with_unfolding_all rfl) (hf:Q1 X x:=by first |exact .inl rfl|exact .inr rfl|assumption):
  NH X W (.Assign [.Name x c] (.ListComp elt [⟨tg,iter,ifs,0⟩] sc pos) b) (λρ S=>((d ρ S).bind λk S1=>if k.ds.length<1000000 then(yD gf cf ef (vE (SE tg).length idx ρ) k.gs k.ds S1).bind λout S2=>.ok (.new out) S2 else .no).bind (DZ ρ i)):=Hw i (by rw[e2];exact e.nd) a N _ idx hi hcalm hg hc he e1 e2 hB hN hs hi2 hx hsw hf
end
section
variable{P:Ō}{w:World}{K:C6}{mg:B8}{base:Heap}{x qual:Str}{st:Stmt}{ps N:B7}{k:Nat}
abbrev ScK(N ps:B7)(sc:Scope):Prop:=N.Nodup/\N.take ps.length=ps/\(∀x∈ps,sc.names.lookup x=some .local\/sc.names.lookup x=some .cell)/\ ∀y∈sc.names,y.2≠.free
def okL{f:Addr}{fd:FuncData}(j:AY)(F:Fun K x qual st f fd)
  (h: ∀(e:Ŋ)(A:ŋ)(d:List Env)(s:ŉ)(H:Hp)(E:XK),N.Nodup->FnScope N ps (zP st)->Room k (A.deeper (envOfC qual (zP st) ↑0 f e))->vL (JC DP P w K mg base N qual (zP st) f e A d s H E).nox W0 (gC st) j)
  (h4:ScK N ps (zP st):=by decide+kernel) (a:(zP st).kind=.function:=by rfl) (b:(zP st).isCoroutine=false:=by rfl) (c:(zP st).isGenerator=false:=by rfl):
  FnOk P w K mg base DP (k+1) f fd ps (QZ ⟨K,mg,P,w⟩ ps.length λds S=>yC (j (zT N ds) S)):=
 have i:FnScope N ps _:=⟨a,b,c,h4.1,h4.2.1,h4.2.2.1,h4.2.2.2⟩
 okM j F i λe A d s H E m=>h e A d s H E i.nd i m
def Uk:Nat->(List Ŋ->Prop)->Prop
 |0,p=>p []
 |n+1,p=> ∀a,Uk n λl=>p (a::l)
theorem Zf: ∀(us:A0){p:List Ŋ->Prop},Uk us.length p->p us
 |[],_,h=>h
 |a::l,_,h=>Zf l (h a)
def forN{n:Nat}{p:List Ŋ->Prop}(h:Uk n p)(us:A0)(e:us.length=n):p us:=Zf us (e▸h)
def okA(i:AY)(D:DefM K mg x st)
  (h: ∀(f:Addr)(e:Ŋ)(A:ŋ)(d:List Env)(s:ŉ)(H:Hp)(E:XK),N.Nodup->FnScope N ps (zP st)->Room k (A.deeper (envOfC x (zP st) ↑0 f e))->vL (JC DP P w K mg base N x (zP st) f e A d s H E).nox W0 (gC st) i)
  (hb:Ca x st ps:=by exact λ_ _ _ _ _ _=>forN (by(repeat intro _);rfl))
  (h4:ScK N ps (zP st):=by decide+kernel) (a:(zP st).kind=.function:=by rfl) (b:(zP st).isCoroutine=false:=by rfl) (c:(zP st).isGenerator=false:=by rfl):
  XZ P w K mg base x (k+1) ps.length ps λds S=>yC (i (zT N ds) S):=
 okC D hb λf _ F=>okL i F (h f) h4 a b c
end
end M
end L2
namespace L2
namespace M
namespace My
open PySem PySem.Spec PyProof.Rows
variable{S Z T B:Sto}{xs ys:Ch}{m:MV}{rs:List Er}{α:Type}{ts:Tk}{lr j:Nat}{σ:List Nat->MV}{o:MO}
set_option bootstrap.genMatcherCode true in
local macro_rules
 | `(tactic|simp? [$xs,*] $[$l:location]?)=>`(tactic|simp only[List.getElem?_cons_zero,getElem?_cons_succ,Ip,bK,as_int,Yb,Rv,add_int,sub_int,eq_int,Rx,XM,lst1,Yc,Yd,lst6,tup2,Ye,Sa,Sb,Sd,Se,Sf,Sh,Iw,Iy,List.set_cons_zero,set_cons_succ,if_true,Ja,Iz,vJ,kJ,bJ,dJ,iJ,mJ,tJ,zJ,fJ,eJ,uJ,pJ,qJ,rJ,sJ,wJ,yJ,AJ,BJ,CJ,DJ,EJ,FJ,JJ,$xs,*] $[$l:location]?)
set_option bootstrap.genMatcherCode true in
local macro_rules
 |`(#[$x])=>`(some (.loc $x))
 |`(#[$x,0])=>`(some (.int $x))
 |`(#[$x,1])=>`(.val (.loc $x))
 |`(#[$x,2])=>`(some (.lst $x))
 |`(#[$x,3])=>`(some (.tup $x))
 |`(#[$x,4])=>`(some (.str $x))
 |`(#[$x,5])=>`(.val (.int $x))
 |`(#[$x,6])=>`(.val (.tup $x))
 |`(#[$x,7])=>`(some (.dic $x))
 |`(#[$x,8])=>`(($x).map MV.str)
 |`(#[])=>`(by lia)
 |`(#[$x,$s,0])=>`(.ok (.next $x) $s)
 |`(#[$x,$s,1])=>`(.ok (.val $x) $s)
 |`(#[$x,$s,2])=>`(.ok (.new $x) $s)
noncomputable abbrev BK:List Str:=["_law_well","_law_many","_law_digit"]
noncomputable abbrev qC:List Str:=["_law_well","_law_names_here","_law_pool_here"]
abbrev AF:=AY
abbrev AE:=AX
def gN:AF:=(iJ (bJ (bJ (yJ (vJ 0) (yJ (kJ (.typ "str")) wJ)) vR) DY) ((AJ (bJ (yJ (kJ (.int 1)) (yJ (kJ (.int 0)) (yJ (vJ 0) wJ))) xO))) (JJ))
def eI:AF:=(AJ (bJ (yJ (kJ (.int 0)) (yJ (vJ 0) (yJ (kJ (.str [])) wJ))) xO))
def nH:AF:=zI (gN) ((eI))
def nI(ds:C8)(S:Sto):R Er:=yC (nH (zT ["value"] ds) S)
def bT:AZ:=uJ
def kR:AE:=(fJ 1 nI (yJ (vJ 0) wJ))
def eK:AF:=(AJ (bJ (yJ (pJ (bJ (vJ 0) Hq) (yA 0) (bT) (kR) 1 []) wJ) bS))
def nN:AF:=(eK)
def nO(ds:C8)(S:Sto):R Er:=yC (nN (zT ["values"] ds) S)
def eM:AY:=(iJ (sJ (qJ (bJ (vJ 1) DY)) (bJ (dJ RE (dJ fW (vJ 1) (kJ (.int (-1)))) (vJ 2)) aV)) ((BJ (eJ xZ aW (vJ 1) (yJ (vJ 2) wJ)))) (JJ))
def nP:AY:=(eM)
def nQ:AF:=(CJ (bJ wJ xT) 1)
def nR:AF:=(FJ (bJ (bJ (yJ (vJ 0) wJ) (BH false nO)) vM) (yA 2) (nP))
def mU:AF:=(AJ (vJ 1))
def mV:AF:=zI (nQ) (zI (nR) ((mU)))
def mW(ds:C8)(S:Sto):R Er:=yC (mV (zT ["some","ordered","values"] ds) S)
def gO:AY:=(iJ (bJ (dJ vP (dJ fW (vJ 3) (kJ (.int 0))) (kJ (.str [118,97,114]))) aV) ((EJ (kJ (.bl true)) (DJ IB (vJ 1) (dJ fW (vJ 3) (kJ (.int 1)))))) (JJ))
def gP:AY:=(gO)
def eO:AY:=(FJ (bJ (dJ fW (vJ 2) (kJ (.int 1))) Hq) (yA 3) (gP))
def gQ:AY:=(eO)
def nS:AF:=(CJ zJ 1)
def nT:AF:=(FJ (bJ (vJ 0) itQ) (yA 2) (gQ))
def nU:AF:=(AJ (bJ (yJ (vJ 1) wJ) vY))
def mX:AF:=zI (nS) (zI (nT) ((nU)))
def xU(ds:C8)(S:Sto):R Er:=yC (mX (zT ["atoms","names","atom","term"] ds) S)
def yQ:AY:=(CJ (iJ (bJ (dJ vP (dJ fW (vJ 3) (kJ (.int 0))) (kJ (.str [118,97,114]))) aV) (eJ RU Cf (vJ 2) (yJ (dJ fW (vJ 3) (kJ (.int 1))) (yJ (vJ 4) wJ))) (dJ fW (vJ 3) (kJ (.int 1)))) 5)
def cG:AY:=(iJ (bJ (dJ RE (vJ 5) (vJ 4)) aV) ((AJ (kJ .non))) (JJ))
def xQ:AY:=zI (yQ) ((cG))
def fZ:AF:=(CJ zJ 2)
def iA:AF:=(FJ (bJ (yJ (vJ 0) (yJ (vJ 1) wJ)) Na) (mQ 2 (zB (yA 3) (zB (yA 4) yK))) (xQ))
def BL:AF:=(AJ (vJ 2))
def aP:AF:=zI (fZ) (zI (iA) ((BL)))
def aQ(ds:C8)(S:Sto):R Er:=yC (aP (zT ["terms","cells","values","term","cell","expected"] ds) S)
def jF:AZ:=(bJ (dJ vP (dJ fW (vJ 0) (kJ (.int 0))) (dJ fW (vJ 2) (kJ (.int 0)))) aV)
def xA:AE:=(bJ (yJ (fJ 2 aQ (yJ (dJ fW (vJ 2) (kJ (.int 1))) (yJ (dJ fW (vJ 0) (kJ (.int 1))) wJ))) (yJ (vJ 1) wJ)) xO)
def xB:AZ:=(bJ (dJ HQ (vJ 0) (kJ .non)) aV)
def jG:AE:=(bJ (yJ (vJ 0) (yJ (vJ 1) wJ)) xO)
def iB:AF:=(CJ (pJ (bJ (yJ (vJ 0) (yJ (vJ 1) wJ)) Na) (mQ 2 (zB (yA 0) (zB (yA 1) yK))) (jF) (xA) 2 [2]) 3)
def iC:AF:=(AJ (pJ (bJ (vJ 3) vM) (mQ 2 (zB (yA 0) (zB (yA 1) yK))) (xB) (jG) 2 []))
def qU:AF:=zI (iB) ((iC))
def lW(ds:C8)(S:Sto):R Er:=yC (qU (zT ["rows","marks","atom","fits"] ds) S)
def dG:AZ:=uJ
def jI:AE:=(dJ OO (vJ 1) (vJ 0))
def iS:AF:=(AJ (bJ (yJ (pJ (bJ (vJ 1) itQ) (yA 0) (dG) (jI) 1 [0]) wJ) bS))
def iD:AF:=(iS)
def yG(ds:C8)(S:Sto):R Er:=yC (iD (zT ["values","names"] ds) S)
def qV:AY:=(CJ (fJ 2 yG (yJ (vJ 3) (yJ (vJ 1) wJ))) 5)
def qW:AY:=(EJ (dJ Ub (eJ qB uE (vJ 2) (yJ (vJ 5) (yJ (kJ (.int 0)) wJ))) (vJ 4)) (DJ HX (vJ 2) (vJ 5)))
def CZ:AY:=zI (qV) ((qW))
def AG:AZ:=uJ
def lX:AE:=(bJ (yJ (bJ (yJ (vJ 2) (yJ (vJ 0) wJ)) Ug) (yJ (vJ 1) wJ)) xO)
def DA:AF:=(CJ zJ 2)
def DB:AF:=(FJ (bJ (vJ 0) vM) (mQ 2 (zB (yA 3) (zB (yA 4) yK))) (CZ))
def DC:AF:=(AJ (pJ (bJ (vJ 2) YL) (mQ 2 (zB (yA 0) (zB (yA 1) yK))) (AG) (lX) 2 [1]))
def US:AF:=zI (DA) (zI (DB) ((DC)))
def IK(ds:C8)(S:Sto):R Er:=yC (US (zT ["fits","names","told","values","mark","some"] ds) S)
def mY:AY:=(BJ (eJ xZ aW (eJ qB Vv (vJ 3) (yJ (fJ 2 yG (yJ (vJ 4) (yJ (vJ 2) wJ))) (yJ (bJ wJ xT) wJ))) (yJ (bJ (yJ (vJ 4) (yJ (vJ 5) wJ)) xO) wJ)))
def eP:AY:=(mY)
def mZ:AY:=(iJ (bJ (dJ BF (vJ 8) (vJ 5)) DY) (zI (CJ (bJ (yJ (vJ 7) wJ) RV) 9) (zI (BJ (eJ RU EU (vJ 9) (yJ (vJ 4) wJ))) ((BJ (eJ xZ aW (vJ 6) (yJ (bJ (yJ (vJ 9) (yJ (dJ BF (vJ 8) (vJ 5)) wJ)) xO) wJ)))))) (JJ))
def eQ:AY:=(mZ)
def oA:AY:=(FJ (bJ (eJ qB uE (vJ 3) (yJ (fJ 2 yG (yJ (vJ 7) (yJ (vJ 2) wJ))) (yJ (bJ wJ xT) wJ))) vM) (mQ 2 (zB (yA 4) (zB (yA 5) yK))) (eQ))
def eR:AY:=(oA)
def oB:AF:=(CJ zJ 3)
def oC:AF:=(FJ (bJ (vJ 1) vM) (mQ 2 (zB (yA 4) (zB (yA 5) yK))) (eP))
def oD:AF:=(CJ (bJ wJ xT) 6)
def oE:AF:=(FJ (bJ (vJ 0) vM) (mQ 2 (zB (yA 7) (zB (yA 8) yK))) (eR))
def EV:AF:=(AJ (vJ 6))
def uF:AF:=zI (oB) (zI (oC) (zI (oD) (zI (oE) ((EV)))))
def qD(ds:C8)(S:Sto):R Er:=yC (uF (zT ["fits","others","shared","by_shared","more","other","together","values","mark","both"] ds) S)
def wV:AZ:=(bJ (dJ (CO false) (vJ 0) (vJ 1)) aV)
def cV:AE:=(vJ 0)
def wW:AZ:=(sJ (bJ (dJ (CO false) (vJ 0) (vJ 1)) aV) (bJ (dJ (CO false) (vJ 0) (vJ 2)) aV))
def cW:AE:=(vJ 0)
def wX:AZ:=(bJ (dJ (CO true) (vJ 0) (vJ 1)) aV)
def cX:AE:=(vJ 0)
def wY:AZ:=(bJ (dJ (CO false) (vJ 0) (vJ 1)) aV)
def cY:AE:=(vJ 0)
def wZ:AY:=(CJ (fJ 1 xU (yJ (bJ (yJ (vJ 8) wJ) xT) wJ)) 9)
def kC:AY:=(CJ (pJ (bJ (vJ 9) vM) (yA 0) (wV) (cV) 1 [5]) 10)
def kD:AY:=(CJ (dJ wH (bJ (yJ (vJ 3) wJ) NQ) (fJ 1 xU (yJ (tJ vQ (vJ 4) (bJ (dJ wH (vJ 7) (kJ (.int 1))) Fe) mJ) wJ))) 11)
def kE:AY:=(CJ (fJ 2 IK (yJ (fJ 3 lW (yJ (vJ 0) (yJ (vJ 1) (yJ (vJ 8) wJ)))) (yJ (pJ (bJ (vJ 9) vM) (yA 0) (wW) (cW) 1 [10,11]) wJ))) 12)
def kG:AY:=(CJ (pJ (bJ (vJ 9) vM) (yA 0) (wX) (cX) 1 [10]) 13)
def kH:AY:=(CJ (pJ (bJ (dJ wH (vJ 5) (vJ 13)) vM) (yA 0) (wY) (cY) 1 [11]) 5)
def kI:AY:=(CJ (fJ 2 IK (yJ (fJ 3 qD (yJ (vJ 6) (yJ (vJ 12) (yJ (vJ 10) wJ)))) (yJ (vJ 5) wJ))) 6)
def yR:AY:=zI (wZ) (zI (kC) (zI (kD) (zI (kE) (zI (kG) (zI (kH) ((kI)))))))
def yX:AZ:=uJ
def yM:AE:=(bJ (yJ (fJ 2 yG (yJ (vJ 0) (yJ (vJ 2) wJ))) (yJ (vJ 1) wJ)) xO)
def eS:AF:=(CJ (dJ fW (vJ 2) (kJ (.int 0))) 3)
def jX:AF:=(CJ (dJ fW (vJ 2) (kJ (.int 1))) 4)
def xV:AF:=(CJ (bJ wJ xT) 5)
def xW:AF:=(CJ (bJ (yJ (bJ (yJ zJ (yJ (kJ (.int (-1))) wJ)) xO) wJ) xT) 6)
def jY:AF:=(FJ (bJ (yJ (vJ 4) wJ) Yg) (mQ 2 (zB (yA 7) (zB (yA 8) yK))) (yR))
def jZ:AF:=(AJ (bJ (yJ (pJ (bJ (vJ 6) vM) (mQ 2 (zB (yA 0) (zB (yA 1) yK))) (yX) (yM) 2 [3]) wJ) II))
def bU:AF:=zI (eS) (zI (jX) (zI (xV) (zI (xW) (zI (jY) ((jZ))))))
def xL(ds:C8)(S:Sto):R Er:=yC (bU (zT ["rows","marks","question","head","atoms","known","fits","place","atom","own","shared","asked","others","new"] ds) S)
def iT:AZ:=uJ
def iU:AE:=(kJ (.int 1))
def qE:AF:=(AJ (fJ 1 mW (yJ (bJ (yJ (fJ 3 xL (yJ (vJ 0) (yJ (pJ (bJ (vJ 0) vM) (yA 0) (iT) (iU) 1 []) (yJ (vJ 1) wJ)))) wJ) AD) wJ)))
def qX:AF:=(qE)
def wF(ds:C8)(S:Sto):R Er:=yC (qX (zT ["rows","question"] ds) S)
def kS:AF:=(iJ (bJ (dJ Rf (vJ 1) (bJ (yJ (vJ 0) wJ) mR)) aV) ((AJ (dJ fW (vJ 0) (vJ 1)))) (JJ))
def lY:AF:=(AJ (kJ (.int 0)))
def gR:AF:=zI (kS) ((lY))
def zR(ds:C8)(S:Sto):R Er:=yC (gR (zT ["_law_script","_law_k"] ds) S)
def gT:AY:=(CJ (dJ GF (dJ wH (dJ wH (dJ tQ (vJ 2) (kJ (.int 48271))) (dJ tQ (kJ (.int 7919)) (vJ 4))) (kJ (.int 11))) (kJ (.int 2147483647))) 2)
def gU:AY:=(CJ (dJ GF (dJ tQ (vJ 2) (vJ 2)) (kJ (.int 2147483629))) 5)
def gV:AY:=(CJ (dJ wH (dJ tQ (vJ 3) (kJ (.int 2147483587))) (dJ GF (dJ tQ (vJ 5) (kJ (.int 69621))) (kJ (.int 2147483587)))) 3)
def jK:AY:=zI (gT) (zI (gU) ((gV)))
def jL:AF:=(CJ (dJ NO (vJ 0) (kJ (.int 2))) 1)
def jM:AF:=(iJ (bJ (dJ vP (dJ GF (vJ 0) (kJ (.int 2))) (kJ (.int 0))) aV) ((AJ (bJ (yJ (vJ 1) wJ) xT))) (JJ))
def dH:AF:=(CJ (dJ GF (vJ 1) (kJ (.int 2147483647))) 2)
def pE:AF:=(CJ (kJ (.int 0)) 3)
def dI:AF:=(FJ (bJ (yJ (kJ (.int 16)) wJ) dY) (yA 4) (jK))
def dL:AF:=(AJ (bJ (yJ (vJ 3) wJ) xT))
def cH:AF:=zI (jL) (zI (jM) (zI (dH) (zI (pE) (zI (dI) ((dL))))))
def zY(ds:C8)(S:Sto):R Er:=yC (cH (zT ["_law_cell","_law_rest","_law_number","_law_total","_law_k","_law_other"] ds) S)
def cI:AF:=(CJ (dJ GF (dJ fW (vJ 0) (kJ (.int 0))) (vJ 1)) 2)
def cJ:AF:=(EJ (dJ NO (dJ fW (vJ 0) (kJ (.int 0))) (vJ 1)) (DJ HS (vJ 0) (kJ (.int 0))))
def rQ:AF:=(AJ (vJ 2))
def qF:AF:=zI (cI) (zI (cJ) ((rQ)))
def zA(ds:C8)(S:Sto):R Er:=yC (qF (zT BK ds) S)
def dM:AY:=(CJ (dJ wH (vJ 2) (dJ fW (vJ 1) (fJ 2 zA (yJ (vJ 0) (yJ (kJ (.int 26)) wJ))))) 2)
def cK:AY:=(dM)
def rR:AF:=(CJ (kJ (.str [97,98,99,100,101,102,103,104,105,106,107,108,109,110,111,112,113,114,115,116,117,118,119,120,121,122])) 1)
def rS:AF:=(CJ (kJ (.str [])) 2)
def iV:AF:=(FJ (bJ (yJ (dJ wH (kJ (.int 1)) (fJ 2 zA (yJ (vJ 0) (yJ (kJ (.int 8)) wJ)))) wJ) dY) (yA 3) (cK))
def rV:AF:=(AJ (vJ 2))
def qG:AF:=zI (rR) (zI (rS) (zI (iV) ((rV))))
def kL(ds:C8)(S:Sto):R Er:=yC (qG (zT ["_law_well","_law_letters","_law_word_here","_law_k"] ds) S)
def dN:AY:=(CJ (fJ 2 zA (yJ (vJ 0) (yJ (kJ (.int 4)) wJ))) 4)
def dO:AY:=(CJ (dJ Au (fJ 2 zA (yJ (vJ 0) (yJ (kJ (.int 9)) wJ))) (kJ (.int 4))) 5)
def jN:AY:=(iJ (bJ (dJ vP (vJ 4) (kJ (.int 1))) aV) ((CJ (dJ wH (dJ Au (fJ 2 zA (yJ (vJ 0) (yJ (dJ Au (dJ tQ (kJ (.int 2)) (dJ Ia (kJ (.int 10)) (kJ (.int 30)))) (kJ (.int 1))) wJ))) (dJ Ia (kJ (.int 10)) (kJ (.int 30)))) (kJ (.int 1))) 5)) (JJ))
def jO:AY:=(iJ (bJ (dJ gtF (vJ 4) (kJ (.int 1))) aV) ((CJ (fJ 1 kL (yJ (vJ 0) wJ)) 5)) (JJ))
def jP:AY:=(iJ (bJ (dJ (CO true) (vJ 5) (vJ 2)) aV) ((BJ (eJ xZ aW (vJ 2) (yJ (vJ 5) wJ)))) (JJ))
def cL:AY:=zI (dN) (zI (dO) (zI (jN) (zI (jO) ((jP)))))
def iW:AF:=(CJ (bJ wJ xT) 2)
def iY:AF:=(FJ (bJ (yJ (vJ 1) wJ) dY) (yA 3) (cL))
def iZ:AF:=(AJ (vJ 2))
def iE:AF:=zI (iW) (zI (iY) ((iZ)))
def hX(ds:C8)(S:Sto):R Er:=yC (iE (zT ["_law_well","_law_many","_law_pool_here","_law_k","_law_way","_law_value"] ds) S)
def gW:AY:=(CJ (dJ wH (kJ (.int 1)) (fJ 2 zA (yJ (vJ 0) (yJ (kJ (.int 3)) wJ)))) 3)
def gX:AY:=(BJ (eJ xZ aW (vJ 1) (yJ (bJ (yJ (vJ 3) (yJ (fJ 2 zA (yJ (vJ 0) (yJ (dJ wH (vJ 3) (kJ (.int 1))) wJ))) wJ)) xO) wJ)))
def jQ:AY:=zI (gW) ((gX))
def dP:AF:=(CJ (bJ wJ xT) 1)
def dQ:AF:=(FJ (bJ (yJ (dJ wH (kJ (.int 1)) (fJ 2 zA (yJ (vJ 0) (yJ (kJ (.int 3)) wJ)))) wJ) dY) (yA 2) (jQ))
def dR:AF:=(AJ (vJ 1))
def lB:AF:=zI (dP) (zI (dQ) ((dR)))
def cM(ds:C8)(S:Sto):R Er:=yC (lB (zT ["_law_well","_law_tables_here","_law_k","_law_wide"] ds) S)
def eT:AZ:=uJ
def gY:AE:=(dJ fW (vJ 2) (fJ 2 zA (yJ (vJ 1) (yJ (bJ (yJ (vJ 2) wJ) mR) wJ))))
def nV:AF:=(CJ (fJ 2 zA (yJ (vJ 0) (yJ (bJ (yJ (vJ 1) wJ) mR) wJ))) 3)
def nW:AF:=(AJ (bJ (yJ (vJ 3) (yJ (bJ (yJ (pJ (bJ (yJ (dJ fW (dJ fW (vJ 1) (vJ 3)) (kJ (.int 0))) wJ) dY) (yA 0) (eT) (gY) 1 [0,2]) wJ) bS) wJ)) xO))
def oF:AF:=zI (nV) ((nW))
def oG(ds:C8)(S:Sto):R Er:=yC (oF (zT ["_law_well","_law_tables_here","_law_pool_here","_law_t"] ds) S)
def jR:AZ:=uJ
def wA:AE:=(fJ 1 zY (yJ (vJ 0) wJ))
def jS:AY:=(CJ (fJ 3 oG (yJ (vJ 8) (yJ (vJ 2) (yJ (vJ 3) wJ)))) 9)
def wC:AY:=(iJ (rJ (bJ (dJ (CO true) (vJ 9) (vJ 7)) aV) (bJ (dJ Rf (bJ (yJ (vJ 7) wJ) mR) (vJ 4)) aV)) ((BJ (eJ xZ aW (vJ 7) (yJ (vJ 9) wJ)))) (JJ))
def xC:AY:=zI (jS) ((wC))
def cN:AF:=(CJ (fJ 1 zY (yJ (vJ 1) wJ)) 5)
def cO:AF:=(CJ (fJ 2 zA (yJ (vJ 5) (yJ (kJ (.int 20)) wJ))) 6)
def cP:AF:=(CJ (bJ wJ xT) 7)
def cQ:AF:=(FJ (bJ (dJ wH (pJ (bJ (vJ 0) vM) (yA 0) (jR) (wA) 1 []) (dJ tQ (bJ (yJ (vJ 5) wJ) xT) (vJ 6))) vM) (yA 8) (xC))
def rW:AF:=(AJ (vJ 7))
def iG:AF:=zI (cN) (zI (cO) (zI (cP) (zI (cQ) ((rW)))))
def iH(ds:C8)(S:Sto):R Er:=yC (iG (zT ["_law_cells","_law_extra","_law_tables_here","_law_pool_here","_law_most","_law_more","_law_many","_law_rows_here","_law_well","_law_row_here"] ds) S)
def wG:AF:=(iJ (bJ (dJ vP (fJ 2 zA (yJ (vJ 0) (yJ (kJ (.int 4)) wJ))) (kJ (.int 0))) aV) ((AJ (bJ (yJ (kJ (.str [105,115])) (yJ (dJ fW (vJ 2) (fJ 2 zA (yJ (vJ 0) (yJ (bJ (yJ (vJ 2) wJ) mR) wJ)))) wJ)) xO))) (JJ))
def cR:AF:=(AJ (bJ (yJ (kJ (.str [118,97,114])) (yJ (dJ fW (vJ 1) (fJ 2 zA (yJ (vJ 0) (yJ (bJ (yJ (vJ 1) wJ) mR) wJ)))) wJ)) xO))
def gA:AF:=zI (wG) ((cR))
def iI(ds:C8)(S:Sto):R Er:=yC (gA (zT qC ds) S)
def bV:AZ:=uJ
def kT:AE:=(fJ 3 iI (yJ (vJ 1) (yJ (vJ 2) (yJ (vJ 3) wJ))))
def bW:AY:=(CJ (fJ 2 zA (yJ (vJ 0) (yJ (bJ (yJ (vJ 1) wJ) mR) wJ))) 7)
def bX:AY:=(BJ (eJ xZ aW (vJ 5) (yJ (bJ (yJ (vJ 7) (yJ (bJ (yJ (pJ (bJ (yJ (dJ fW (dJ fW (vJ 1) (vJ 7)) (kJ (.int 0))) wJ) dY) (yA 0) (bV) (kT) 1 [0,2,3]) wJ) bS) wJ)) xO) wJ)))
def gZ:AY:=zI (bW) ((bX))
def eU:AF:=(CJ (bJ wJ xT) 5)
def eV:AF:=(FJ (bJ (yJ (vJ 4) wJ) dY) (yA 6) (gZ))
def eW:AF:=(AJ (vJ 5))
def nY:AF:=zI (eU) (zI (eV) ((eW)))
def nZ(ds:C8)(S:Sto):R Er:=yC (nY (zT ["_law_well","_law_tables_here","_law_names_here","_law_pool_here","_law_many","_law_atoms_here","_law_k","_law_t"] ds) S)
def xG:AY:=(iJ (rJ (bJ (dJ vP (vJ 4) (kJ (.str [118,97,114]))) aV) (bJ (dJ (CO true) (vJ 5) (vJ 1)) aV)) ((BJ (eJ xZ aW (vJ 1) (yJ (vJ 5) wJ)))) (JJ))
def yF:AY:=(xG)
def jA:AY:=(FJ (bJ (vJ 3) Hq) (mQ 2 (zB (yA 4) (zB (yA 5) yK))) (yF))
def wL:AY:=(jA)
def wM:AF:=(CJ (bJ wJ xT) 1)
def wN:AF:=(FJ (bJ (vJ 0) itQ) (mQ 2 (zB (yA 2) (zB (yA 3) yK))) (wL))
def wO:AF:=(AJ (vJ 1))
def jT:AF:=zI (wM) (zI (wN) ((wO)))
def jU(ds:C8)(S:Sto):R Er:=yC (jT (zT ["_law_atoms_here","_law_found","_law_t","_law_terms","_law_word_here","_law_name"] ds) S)
def dS:AY:=(iJ (bJ (dJ RE (vJ 3) (bJ wJ xT)) aV) ((BJ (eJ xZ aW (vJ 4) (yJ (eJ xZ XX (vJ 3) (yJ (fJ 2 zA (yJ (vJ 0) (yJ (bJ (yJ (vJ 3) wJ) mR) wJ))) wJ)) wJ)))) (JJ))
def cS:AY:=(dS)
def lD:AF:=(CJ (fJ 1 jU (yJ (vJ 1) wJ)) 3)
def lE:AF:=(CJ (bJ wJ xT) 4)
def lF:AF:=(FJ (bJ (yJ (fJ 2 zA (yJ (vJ 0) (yJ (dJ wH (vJ 2) (kJ (.int 1))) wJ))) wJ) dY) (yA 5) (cS))
def lG:AF:=(AJ (vJ 4))
def iK:AF:=zI (lD) (zI (lE) (zI (lF) ((lG))))
def cZ(ds:C8)(S:Sto):R Er:=yC (iK (zT ["_law_well","_law_atoms_here","_law_most","_law_there","_law_head_here","_law_k"] ds) S)
def bY:AY:=(CJ (fJ 1 kL (yJ (vJ 0) wJ)) 4)
def kU:AY:=(iJ (bJ (dJ (CO false) (vJ 4) (vJ 2)) aV) ((CJ (dJ fW (bJ (yJ (dJ wH (kJ (.str [98])) (vJ 1)) (yJ (dJ wH (dJ wH (kJ (.str [98])) (vJ 1)) (kJ (.str [97]))) wJ)) xT) (vJ 3)) 4)) (JJ))
def bZ:AY:=(BJ (eJ xZ aW (vJ 2) (yJ (vJ 4) wJ)))
def kM:AY:=zI (bY) (zI (kU) ((bZ)))
def bA:AF:=(CJ (tJ vQ (fJ 1 kL (yJ (vJ 0) wJ)) mJ (bJ (kJ (.int 6)) Fe)) 1)
def bB:AF:=(iJ (bJ (dJ vP (fJ 2 zA (yJ (vJ 0) (yJ (kJ (.int 2)) wJ))) (kJ (.int 0))) aV) ((AJ (bJ (yJ (vJ 1) (yJ (dJ wH (vJ 1) (kJ (.str [97]))) (yJ (dJ wH (kJ (.str [98])) (vJ 1)) wJ))) xT))) (JJ))
def eX:AF:=(CJ (bJ (yJ (vJ 1) wJ) xT) 2)
def eY:AF:=(FJ (bJ (yJ (kJ (.int 2)) wJ) dY) (yA 3) (kM))
def eZ:AF:=(AJ (vJ 2))
def uG:AF:=zI (bA) (zI (bB) (zI (eX) (zI (eY) ((eZ)))))
def aB(ds:C8)(S:Sto):R Er:=yC (uG (zT ["_law_well","_law_base","_law_names_here","_law_k","_law_name"] ds) S)
def cA:AY:=(iJ (bJ (bJ (yJ (vJ 2) (yJ (kJ (.typ "str")) wJ)) vR) DY) ((BJ (eJ xZ aW (vJ 1) (yJ (bJ (yJ (kJ (.int 1)) (yJ (kJ (.int 0)) (yJ (vJ 2) wJ))) xO) wJ)))) ((BJ (eJ xZ aW (vJ 1) (yJ (bJ (yJ (kJ (.int 0)) (yJ (vJ 2) (yJ (kJ (.str [])) wJ))) xO) wJ)))))
def bC:AY:=(cA)
def bD:AF:=(CJ (bJ wJ xT) 1)
def fA:AF:=(FJ (bJ (vJ 0) Hq) (yA 2) (bC))
def fB:AF:=(AJ (vJ 1))
def aC:AF:=zI (bD) (zI (fA) ((fB)))
def aD(ds:C8)(S:Sto):R Er:=yC (aC (zT ["_law_cells","_law_marks","_law_value"] ds) S)
def bE:AY:=(iJ (rJ (bJ (dJ vP (vJ 8) (kJ (.str [118,97,114]))) aV) (bJ (dJ (YF false) (vJ 9) (vJ 3)) aV)) ((BJ (eJ xZ aW (vJ 7) (yJ (bJ (yJ (kJ (.str [105,115])) (yJ (dJ OO (vJ 3) (vJ 9)) wJ)) xO) wJ)))) ((BJ (eJ xZ aW (vJ 7) (yJ (bJ (yJ (vJ 8) (yJ (vJ 9) wJ)) xO) wJ)))))
def kW:AY:=(bE)
def fC:AY:=(CJ (bJ wJ xT) 7)
def fE:AY:=(FJ (bJ (vJ 6) Hq) (mQ 2 (zB (yA 8) (zB (yA 9) yK))) (kW))
def fF:AY:=(BJ (eJ xZ aW (vJ 4) (yJ (bJ (yJ (vJ 5) (yJ (bJ (yJ (vJ 7) wJ) bS) wJ)) xO) wJ)))
def aF:AY:=zI (fC) (zI (fE) ((fF)))
def oH:AF:=(CJ (bJ (yJ (vJ 1) (yJ (vJ 2) wJ)) Ug) 3)
def oI:AF:=(CJ (bJ wJ xT) 4)
def oK:AF:=(FJ (bJ (vJ 0) vM) (mQ 2 (zB (yA 5) (zB (yA 6) yK))) (aF))
def oM:AF:=(AJ (bJ (yJ (bJ wJ xO) (yJ (bJ (yJ (vJ 4) wJ) bS) wJ)) xO))
def oN:AF:=zI (oH) (zI (oI) (zI (oK) ((oM))))
def oO(ds:C8)(S:Sto):R Er:=yC (oN (zT ["_law_atoms_here","_law_head_here","_law_answer","_law_values","_law_found","_law_t","_law_terms","_law_put_here","_law_word_here","_law_name"] ds) S)
def bF:AZ:=uJ
def kN:AE:=(dJ wH (vJ 1) (bJ (yJ (vJ 0) wJ) xO))
def fG:AY:=(BJ (eJ xZ Ke (vJ 4) (yJ (pJ (bJ (vJ 0) vM) (yA 0) (bF) (kN) 1 [5]) wJ)))
def aG:AY:=(fG)
def fH:AY:=(CJ (bJ wJ xT) 4)
def fI:AY:=(FJ (bJ (vJ 2) vM) (yA 5) (aG))
def fM:AY:=(CJ (vJ 4) 2)
def aH:AY:=zI (fH) (zI (fI) ((fM)))
def oP:AF:=(CJ (bJ (yJ (bJ wJ xO) wJ) xT) 2)
def oQ:AF:=(FJ (bJ (yJ (vJ 1) wJ) dY) (yA 3) (aH))
def oR:AF:=(AJ (vJ 2))
def oS:AF:=zI (oP) (zI (oQ) ((oR)))
def oU(ds:C8)(S:Sto):R Er:=yC (oS (zT ["_law_pool_here","_law_many","_law_found","_law_k","_law_more","_law_some"] ds) S)
def jV:AY:=(CJ (dJ wH (tJ vQ (vJ 3) mJ (bJ (vJ 1) Fe)) (tJ vQ (vJ 3) (bJ (dJ wH (vJ 1) (kJ (.int 1))) Fe) mJ)) 4)
def dU:AY:=(iJ (bJ (dJ (CO true) (vJ 4) (vJ 2)) aV) ((BJ (eJ xZ aW (vJ 2) (yJ (vJ 4) wJ)))) (JJ))
def jH:AY:=zI (jV) ((dU))
def lH:AF:=(CJ (bJ wJ xT) 2)
def lI:AF:=(FJ (bJ (vJ 0) vM) (yA 3) (jH))
def lK:AF:=(AJ (bJ (yJ (vJ 2) wJ) (BH true aD)))
def iL:AF:=zI (lH) (zI (lI) ((lK)))
def iM(ds:C8)(S:Sto):R Er:=yC (iL (zT ["_law_told","_law_at","_law_found","_law_answer","_law_short"] ds) S)
def qY:AZ:=(bJ (dJ (CO true) (vJ 0) (vJ 1)) aV)
def AH:AE:=(vJ 0)
def AI:AY:=(CJ (fJ 2 wF (yJ (vJ 7) (yJ (fJ 3 oO (yJ (vJ 5) (yJ (vJ 6) (yJ (vJ 10) wJ)))) wJ))) 11)
def AK:AY:=(iJ (bJ (dJ RE (vJ 11) (dJ fW (bJ (yJ (bJ wJ xT) (yJ (bJ (yJ (bJ wJ xO) wJ) xT) wJ)) xT) (bJ (yJ (dJ (CO false) (vJ 10) (vJ 8)) wJ) Bi))) aV) ((AJ (kJ (.bl false)))) (JJ))
def uH:AY:=zI (AI) ((AK))
def KZ:AF:=(CJ (fJ 1 cM (yJ (fJ 1 zY (yJ (fJ 2 zR (yJ (vJ 0) (yJ (kJ (.int 0)) wJ))) wJ)) wJ)) 1)
def LA:AF:=(CJ (fJ 2 hX (yJ (fJ 1 zY (yJ (fJ 2 zR (yJ (vJ 0) (yJ (kJ (.int 1)) wJ))) wJ)) (yJ (kJ (.int 4)) wJ))) 2)
def LB:AF:=(CJ (fJ 1 aB (yJ (fJ 1 zY (yJ (fJ 2 zR (yJ (vJ 0) (yJ (kJ (.int 2)) wJ))) wJ)) wJ)) 3)
def LC:AF:=(CJ (fJ 1 zY (yJ (fJ 2 zR (yJ (vJ 0) (yJ (kJ (.int 3)) wJ))) wJ)) 4)
def LD:AF:=(CJ (fJ 5 nZ (yJ (vJ 4) (yJ (vJ 1) (yJ (vJ 3) (yJ (vJ 2) (yJ (dJ wH (kJ (.int 1)) (fJ 2 zA (yJ (vJ 4) (yJ (kJ (.int 4)) wJ)))) wJ)))))) 5)
def LE:AF:=(CJ (fJ 1 zY (yJ (fJ 2 zR (yJ (vJ 0) (yJ (kJ (.int 5)) wJ))) wJ)) 4)
def LF:AF:=(CJ (bJ (yJ (fJ 3 cZ (yJ (vJ 4) (yJ (vJ 5) (yJ (kJ (.int 3)) wJ)))) wJ) bS) 6)
def LG:AF:=(CJ (fJ 5 iH (yJ (tJ vQ (vJ 0) (bJ (kJ (.int 6)) Fe) mJ) (yJ (fJ 2 zR (yJ (vJ 0) (yJ (kJ (.int 4)) wJ))) (yJ (vJ 1) (yJ (vJ 2) (yJ (kJ (.int 30)) wJ)))))) 7)
def LH:AF:=(CJ (fJ 2 wF (yJ (vJ 7) (yJ (bJ (yJ (vJ 6) (yJ (bJ (yJ (vJ 5) wJ) bS) wJ)) xO) wJ))) 8)
def EW:AF:=(iJ (qJ (bJ (bJ (yJ (vJ 8) (yJ (kJ (.typ "list")) wJ)) vR) DY)) ((AJ (kJ (.bl false)))) (JJ))
def EX:AF:=(CJ (fJ 2 oU (yJ (vJ 2) (yJ (bJ (yJ (vJ 6) wJ) mR) wJ))) 9)
def EY:AF:=(iJ (bJ (dJ RE (pJ (bJ (vJ 8) vM) (yA 0) (qY) (AH) 1 [9]) (bJ wJ xT)) aV) ((AJ (kJ (.bl false)))) (JJ))
def EZ:AF:=(FJ (bJ (vJ 9) vM) (yA 10) (uH))
def qH:AF:=(iJ (bJ (dJ vP (vJ 6) (bJ wJ xO)) aV) ((AJ (kJ (.bl true)))) (JJ))
def uI:AF:=(CJ (fJ 2 zA (yJ (vJ 4) (yJ (bJ (yJ (vJ 6) wJ) mR) wJ))) 12)
def uK:AF:=(AJ (dJ vP (fJ 2 wF (yJ (vJ 7) (yJ (bJ (yJ (dJ wH (tJ vQ (vJ 6) mJ (bJ (vJ 12) Fe)) (tJ vQ (vJ 6) (bJ (dJ wH (vJ 12) (kJ (.int 1))) Fe) mJ)) (yJ (bJ (yJ (vJ 5) wJ) bS) wJ)) xO) wJ))) (fJ 2 iM (yJ (vJ 8) (yJ (vJ 12) wJ)))))
def UT:AF:=zI (KZ) (zI (LA) (zI (LB) (zI (LC) (zI (LD) (zI (LE) (zI (LF) (zI (LG) (zI (LH) (zI (EW) (zI (EX) (zI (EY) (zI (EZ) (zI (qH) (zI (uI) ((uK))))))))))))))))
def IL(ds:C8)(S:Sto):R Er:=yC (UT (zT ["_law_script","_law_tables_here","_law_pool_here","_law_names_here","_law_well","_law_atoms_here","_law_head_here","_law_rows_here","_law_told","_law_every","_law_answer","_law_left","_law_at"] ds) S)
section
variable{α β:Type}{ρ ρ':Rho}{S S1 S2:Sto}{f g h:AX}{p q:Er}{d:MV}{r:R α}{z:R Er}{y:R Fl}
theorem ev_v{i:Nat}(e:ρ[i]? =some (some d)):vJ i ρ S=#[d,S,1]:=by unfold vJ;rw[e];rfl
def ev_b{f:Rho->Sto->R β}{F:β->Sto->R α}{a:β}(e:f ρ S=.ok a S1)(k:F a S1=r):bJ f F ρ S=r:=by unfold bJ;rw[e];exact k
def ev_d{F:Er->Er->Sto->R Er}(e:f ρ S=.ok p S1)(a:g ρ S1=.ok q S2)(k:F p q S2=z):dJ F f g ρ S=z:=by unfold dJ;rw[e,bK,a];exact k
def ev_i{c:AZ}{f g:Rho->Sto->R α}{k:Bool}(e:c ρ S=.ok k S1)(h:(if k=true then f ρ S1 else g ρ S1)=r):iJ c f g ρ S=r:=by unfold iJ;rw[e];exact h
def ev_f{n:Nat}{F:List MV->Sto->R Er}{a:Rho->Sto->R (List Er)}(e:a ρ S=.ok rs S1)(k:zK n F rs S1=z):fJ n F a ρ S=z:=by unfold fJ;rw[e];exact k
def ev_e{t:Er->Sto->Bool}{F:Er->List Er->Sto->R Er}{a:Rho->Sto->R (List Er)}(e:f ρ S=.ok p S1)(c:t p S1=true)(b:a ρ S1=.ok rs S2)(k:F p rs S2=z):eJ t F f a ρ S=z:=by unfold eJ;rw[e,bK,iP c,b];exact k
theorem ev_q{f:AZ}{k:Bool}(e:f ρ S=.ok k S1):qJ f ρ S=.ok (!k) S1:=by unfold qJ;rw[e];rfl
def ev_r{f g:AZ}{k:Bool}{r:R Bool}(e:f ρ S=.ok k S1)(h:(if k=true then g ρ S1 else .ok false S1)=r):rJ f g ρ S=r:=by unfold rJ;rw[e];exact h
def ev_s{f g:AZ}{k:Bool}{r:R Bool}(e:f ρ S=.ok k S1)(h:(if k=true then .ok true S1 else g ρ S1)=r):sJ f g ρ S=r:=by unfold sJ;rw[e];exact h
theorem ev_y{g:Rho->Sto->R (List Er)}{l:List Er}(e:f ρ S=.ok p S1)(a:g ρ S1=.ok l S2):yJ f g ρ S=.ok (p::l) S2:=by unfold yJ;rw[e,bK,a];rfl
def ev_A(e:f ρ S=.ok p S1)(k:.ok (.ret p) S1=y):AJ f ρ S=y:=by unfold AJ;rw[e];exact k
def ev_B(e:f ρ S=.ok p S1)(k:#[ρ,S1,0]=y):BJ f ρ S=y:=by unfold BJ;rw[e];exact k
def ev_C{i:Nat}(e:f ρ S=.ok p S1)(k:DZ ρ i p S1=y):CJ f i ρ S=y:=by unfold CJ;rw[e];exact k
def ev_D{F:Er->Er->MV->Rho->Sto->R Rho}{r:R Rho}(e:f ρ S=.ok p S1)(a:g ρ S1=.ok q S2)(k:F p q d ρ S2=r):DJ F f g d ρ S=r:=by unfold DJ;rw[e,bK,a];exact k
def ev_E{g:MV->Rho->Sto->R Rho}(e:f ρ S=#[d,S1,1])(k:g d ρ S1=.ok ρ' S2)(h:#[ρ',S2,0]=y):EJ f g ρ S=y:=by unfold EJ;rw[e];show(g d ρ S1).bind _=_;rw[k];exact h
def ev_F{i:Rho->Sto->R Wk}{g:MV->Rho->Sto->R Rho}{b:AY}{k:Wk}(e:i ρ S=.ok k S1)(h:xP g b k.gs k.ds ρ S1=y):FJ i g b ρ S=y:=by unfold FJ;rw[e];exact h
def Zg{a b:R α}(h:a=r):(if true=true then a else b)=r:=h
def Zh{a b:R α}(h:b=r):(if false=true then a else b)=r:=h
def Zi{c:Prop}[Decidable c]{a b:R α}(d: ¬c)(h:b=r):(if decide c=true then a else b)=r:=by rw[dF0 d];exact h
end
section
variable{a b:Int}{S:Sto}
def modA(h:0<b:=by first |decide|omega):GF #[a,5] #[b,5] S=.ok #[a % b,5] S:=mod_lit h a S
def divA(h:0<b/\b<1073741824:=by first |decide|omega):NO #[a,5] #[b,5] S=.ok #[a / b,5] S:=JY h.1 h.2 a S
def mulB(h:0<=b/\b<4294967296:=by first |exact mdl|decide|omega):tQ #[a,5] #[b,5] S=.ok #[a * b,5] S:=CQ ⟨by omega,by omega⟩ a S
end
set_option bootstrap.genMatcherCode true in
local macro_rules
 | `(tactic|exists 7,$[$hs],*)=>`(tactic|first
  |(with_reducible first $[|exact $hs ..]*)
  |((with_reducible first |apply ev_v|apply ev_b|apply ev_d|apply ev_y|apply ev_f|apply ev_C|apply ev_A|apply ev_i|apply Zg|apply Zh|apply ev_F|apply ev_p|apply ev_e|apply ev_B|apply ev_r|apply ev_s|apply ev_q|apply ev_a|apply ev_o|apply ev_n|apply ev_t|apply ev_g|apply ev_E|apply ev_D)<;>exists 7,$[$hs],*)
  |(with_reducible first |exact eq_int .. |exact tup2 .. |exact Ye .. |exact XM .. |exact lst1 .. |exact Yc .. |exact Yd ..)
  |(with_reducible show GF _ _ _=_);exact modA
  |(with_reducible show NO _ _ _=_);exact divA
  |(with_reducible show tQ _ _ _=_);(first |exact mulA|exact mulB)
  |(with_reducible show dY _ _=_);exact sH (by omega)
  |(with_reducible show yD _ _ _ _ _ _ _=_);(first $[|exact $hs]*)
  |(with_reducible show xP _ _ _ _ _ _=_);(first $[|exact $hs]*)
  |(with_reducible first $[|exact of_eq_true $hs]* $[|refine ite_d $hs ?_]* $[|refine Zi $hs ?_]* $[|refine(iP $hs).trans ?_]* $[|refine(iN $hs).trans ?_]*)<;>exists 7,$[$hs],*
  |exact rfl)
def Ky{b:Int}(h:Hz 0 b)(a:Int)(S:Sto):NO #[a,5] #[b,5] S=.ok #[a / b,5] S:=iP h
def xX{l:Nat}{ds:C8}{d:MV}(a:S[l]? =#[ds,2])(hz:ds.length<1000000):aW #[l,1] [.val d] S=#[.non,S.set l (.lst (ds++[d])),1]:=by show GK #[l,1] S (λds=>if ds.length<sizeLine then some _ else none)=_;unfold GK;dsimp only;rw[a];dsimp only;rw[iP (ç hz (fits (à _)))]
theorem yN{l:Nat}{ds:C8}(a:S[l]? =#[ds,2]):xZ #[l,1] S=true:=by unfold xZ;rw[lV a];rfl
def De{l:Nat}{ds:C8}{k:Int}{d:MV}{ρ:Rho}(a:S[l]? =#[ds,2])(b:JD ds.length k=some j):HS #[l,1] #[k,5] d ρ S=.ok ρ (S.set l (.lst (ds.set j d))):=by unfold HS;dsimp only;rw[a];dsimp only;rw[b]
def get_set{l:Nat}{o':MO}(h:S[l]? =some o):(S.set l o')[l]? =some o':=ė (gS.mp h).1
def sU{l m:Nat}{o':MO}(h:l≠m):(S.set l o')[m]? =S[m]? :=Ģ h
def qZ{l:Nat}{ds:C8}(a:S[l]? =#[ds,2]):bS [#[l,1]] S=.ok #[ds,6] S:=by show(match jD S _ with |some ds=>R.ok _ S|none=>.no)=_;rw[lV a]
theorem UU(ds:C8)(S:Sto):mR [#[ds,6]] S=.ok #[ds.length,5] S:=rfl
theorem LI(gf:MV->Rho->Sto->R Rho)(ρ:Rho)(d:MV)(S:Sto):Hn gf ρ (.val d) S=(gf d ρ S).bind λρ' S2=>#[ρ',S2,0]:=rfl
noncomputable def tbl(p:Int×Int):MV:=.tup [.int p.1,.int p.2]
def Kz(ts:Tk):Prop:=1<=ts.length/\ts.length<=4/\ ∀p∈ts,1<=p.1/\p.1<=4/\0<=p.2/\p.2<=p.1
mutual
def pd:MV->Bool
 |.int _=>true
 |.str _=>true
 |.tup ds=>QJ ds
 |_=>false
def QJ:List MV->Bool
 |[]=>true
 |d::ds=>pd d&&QJ ds
end
mutual
def vF:MV->Nat
 |.tup ds=>AM ds+1
 |_=>0
def AM:List MV->Nat
 |[]=>0
 |d::ds=>max (vF d) (AM ds)
end
def xD(ds:C8):pd (.tup ds)=QJ ds:=by rw[pd]
def uL:QJ []=true:=by rw[QJ]
def yB(d:MV)(ds:C8):QJ (d::ds)=(pd d&&QJ ds):=by rw[QJ]
def jW(ds:C8):vF (.tup ds)=AM ds+1:=by rw[vF]
def yU(d:MV)(ds:C8):AM (d::ds)=max (vF d) (AM ds):=by rw[AM]
def FA:AM []=0:=by rw[AM]
def SF(i:Int):pd (.int i)=true:=by rw[pd]
def sV(i:Db):pd (.str i)=true:=by rw[pd]
def rA(i:Int):vF (.int i)=0:=by simp[vF]
def aI(i:Db):vF (.str i)=0:=by simp[vF]
theorem bG: ∀{ds:C8},(∀d∈ds,pd d=true)->QJ ds=true
 |[],_=>uL
 |d::ds,h=>by rw[yB,h d mF0,bG λe a=>h e (mO _ a)];rfl
theorem LK: ∀{ds:C8},QJ ds=true-> ∀d∈ds,pd d=true
 |[],_,d,h=>by simp at h
 |e::ds,hp,d,h=>by
  rw[yB,aE]at hp;rcases mC.mp h with rfl|h
  .exact hp.1
  .exact LK hp.2 d h
theorem rB: ∀{ds:C8}{n:Nat},(∀d∈ds,vF d<=n)->AM ds<=n
 |[],n,_=>by rw[FA];exact zero_le _
 |d::ds,n,h=>by
  rw[yU];have h1:=h d mF0;have b:=rB λe a=>h e (mO _ a)
  lia
theorem OW: ∀{ds:C8}, ∀d∈ds,vF d<=AM ds
 |[],d,h=>by simp at h
 |e::ds,d,h=>by
  rcases mC.mp h with rfl|h
  .exact Nat.le_max_left _ _
  .exact õ (OW d h) (Nat.le_max_right _ _)
def OX{d:MV}(h:pd d=true):(∃i,d=.int i)\/(∃x,d=.str x)\/ ∃ds,d=.tup ds/\QJ ds=true:=by
 cases d with
 |int i=>exact .inl ⟨i,rfl⟩
 |str x=>exact .inr (.inl ⟨x,rfl⟩)
 |tup ds=>exact .inr (.inr ⟨ds,rfl,by rw[<-xD];exact h⟩)
 |_=>rw[pd]at h<;>first |cases h|(intros;simp)
def dec_is{p:Prop}[Decidable p]{q:Prop}[Decidable q](h:p↔q):decide p=decide q:=by
 by_cases a:q
 .rw[dT0 a,dT0 (h.mpr a)]
 .rw[dF0 a,dF0 λz=>a (h.mp z)]
theorem uM{e:MV->MV->Option Bool}: ∀{ds es:C8},(∀d∈ds, ∀f∈es,e d f=some (decide (d=f)))-> ∃bs,BC e ds es=some bs/\(bs.all id&&ds.length==es.length)=decide (ds=es)
 |[],[],_=>⟨[],rfl,by simp⟩
 |[],_::_,_=>⟨[],rfl,by simp⟩
 |_::_,[],_=>⟨[],rfl,by simp⟩
 |d::ds,f::es,h=>by
  obtain⟨bs,h1,j⟩:=uM λa c b i=>h a (mO _ c) b (mO _ i);refine⟨decide (d=f)::bs,?_,?_⟩
  .unfold BC;rw[h d mF0 f mF0,h1];rfl
  .by_cases hd:d=f
   .subst hd;rw[List.all_cons,dT0 rfl];simp only[id,Bool.true_and,lC];rw[show(ds.length+1==es.length+1)=(ds.length==es.length) by simp,j];exact dec_is (by simp)
   .rw[dF0 hd];rw[dF0 (λz=>hd (List.cons.inj z).1)];rfl
theorem fN{S:Sto}: ∀(n:Nat){d e:MV},pd d=true->pd e=true->vF d<n->eqv S n d e=some (decide (d=e))
 |0,d,e,_,_,h=>by lia
 |n+1,d,e,hd,he,h=>by
  rcases OX hd with⟨i,rfl⟩|⟨x,rfl⟩|⟨ds,rfl,pds⟩<;>rcases OX he with⟨j,rfl⟩|⟨y,rfl⟩|⟨es,rfl,pes⟩
  .rw[JX];exact congrArg some (dec_is (by simp))
  .rw[Ry,dF0 (by simp)]
  .rw[dF0 (by simp)];rfl
  .rw[Rz,dF0 (by simp)]
  .rw[tX];exact congrArg some (dec_is (by simp))
  .rw[dF0 (by simp)];rfl
  .rw[dF0 (by simp)];rfl
  .rw[dF0 (by simp)];rfl
  .rw[jW]at h;obtain⟨bs,h1,m⟩:=uM λa c b k=>fN n (LK pds a c) (LK pes b k) (by have:=OW a c;lia);show((BC _ ds es).map λbs=>bs.all id&&ds.length==es.length)=_;rw[h1];show some (bs.all id&&ds.length==es.length)=_;rw[m];exact congrArg some (dec_is (by simp))
theorem La{d e:MV}(hd:pd d=true)(a:pd e=true)(h:vF d<40):vP (.val d) (.val e) S=#[.bl (decide (d=e)),S,1]:=EE (fN _ hd a (by unfold zH;lia))
theorem OY{S:Sto}{d:MV}(hd:pd d=true): ∀{ys:C8},(∀y∈ys,pd y=true/\vF y<40)->NP S zH d ys=some (ys.map λy=>decide (y=d))
 |[],_=>rfl
 |y::ys,h=>by have h1:=h y mF0;unfold NP;rw[fN zH h1.1 hd (by unfold zH;exact h1.2),OY hd λz a=>h z (mO _ a)];rfl
def SqM(S:Sto)(m:MV)(ds:C8):Prop:=m=.tup ds\/ ∃l,m=.loc l/\S[l]? =#[ds,2]
def SqM.len{ds:C8}(h:SqM S m ds):mR [.val m] S=.ok #[ds.length,5] S:=by
 rcases h with rfl|⟨l,rfl,hS⟩
 .rfl
 .exact kQ hS
def SqM.app{ds:C8}(h:SqM S m ds):SqM (S++T) m ds:=by
 rcases h with h|⟨l,h,hS⟩
 .exact .inl h
 .exact .inr ⟨l,h,by rw[á (gS.mp hS).1];exact hS⟩
def dA{n:Nat}{F:List MV->Sto->R Er}{r:Er}{ds:C8}{as:C8}{S2:Sto}(b:rs.length=n)(e:zF rs S=(as,S2))(c:F as S2=.ok r (S++T))(d:r=.new ds\/ ∃l,r=#[l,1]/\↑2<=l/\(S++T)[l]? =#[ds,2])(h:tF ↑2 ds):zK n F rs S=#[ds,S,2]:=by
 have a:F (zF rs S).1 (zF rs S).2=.ok r (S++T):=by rw[e];exact c
 rcases d with rfl|⟨l,rfl,h1,h2⟩
 .exact tV b a h
 .exact tW b a h1 h2 h
theorem Lb(a:Bool)(p:Er)(l:Nat)(S:Sto):CO a p #[l,1] S=JV a p #[l,1] S:=by
 unfold CO;split
 .rename_i h;cases h
 .rfl
def iO{l:Nat}{d:MV}{ys:C8}(a:Bool)(e:S[l]? =#[ys,2])(hd:pd d=true)(h: ∀y∈ys,pd y=true/\vF y<40):CO a (.val d) #[l,1] S=#[.bl (if a=true then !decide (d∈ys)else decide (d∈ys)),S,1]:=by
 have c:itemsOf S #[l,1]=some ys:=by unfold itemsOf;exact lV e
 rw[Lb];unfold JV;rw[c];dsimp only;rw[OY hd h];dsimp only
 have i:(ys.map λy=>decide (y=d)).any id=decide (d∈ys):=by
  rw[List.any_map];by_cases b:d∈ys
  .rw[dT0 b,List.any_eq_true];exact⟨d,b,by simp⟩
  .rw[dF0 b];rw[List.any_eq_false];intro y j;simp only[Function.comp,id,decide_eq_true_eq];rintro rfl;exact b j
 rw[i]
theorem gt_int(i j:Int)(S:Sto):gtF #[i,5] #[j,5] S=#[.bl (decide (j<i)),S,1]:=rfl
noncomputable abbrev GP:List Nat:=[118,97,114]
noncomputable abbrev IS:List Nat:=[105,115]
def gB(d:MV):Prop:=(∃x,d=.tup [.str GP,.str x])\/ ∃v,((∃i,v=.int i)\/ ∃x,v=.str x)/\d=.tup [.str IS,v]
mutual
theorem fO{n:Nat}: ∀{d:MV},pd d=true->lo n d
 |.int i,_=>vT n i
 |.str x,_=>RJ n x
 |.tup ds,h=>RK (LL (by rw[xD]at h;exact h))
 |.non,_=>Bn n
 |.bl b,_=>Ya n b
 |.scr ds,h=>by unfold pd at h;cases h
 |.loc l,h=>by unfold pd at h;cases h
 |.typ t,h=>by unfold pd at h;cases h
theorem LL{n:Nat}: ∀{ds:C8},QJ ds=true->tF n ds
 |[],_=>gI λd hd=>by simp at hd
 |d::ds,h=>by rw[yB,aE]at h;unfold tF;exact⟨fO h.1,LL h.2⟩
end
def UV{d:MV}(h:gB d):pd d=true/\vF d<=1:=by
 rcases h with⟨x,rfl⟩|⟨v,⟨i,rfl⟩|⟨x,rfl⟩,rfl⟩
 .exact⟨by rw[xD,yB,yB];rfl,by rw[jW,yU,yU,aI,aI];decide⟩
 .exact⟨by rw[xD,yB,yB];rfl,by rw[jW,yU,yU,rA];decide⟩
 .exact⟨by rw[xD,yB,yB];rfl,by rw[jW,yU,yU,aI,aI];decide⟩
def vn:MV->Option (List Nat)
 |.tup [.str w,.str x]=>if w=GP then some x else none
 |_=>none
def AN(x:Db):vn (.tup [.str GP,.str x])=some x:=by simp[vn]
def OZ(S:Sto):vP (.val (.str GP)) (.val (.str GP)) S=#[.bl true,S,1]:=by rw[eq_str,dT0 rfl]
def Df(S:Sto):vP (.val (.str IS)) (.val (.str GP)) S=#[.bl false,S,1]:=by rw[eq_str,dF0 (by decide)]
def zL(S:Sto)(o:MO):(S++[o])[↑2]? =some o:=by simp
def bH(S:Sto)(o o':MO):(S++[o]).set ↑2 o'=S++[o']:=by simp
def DE{fs:Ch}: ∀y∈fs.map MV.str,pd y=true/\vF y<40:=λd hd=>by obtain⟨u,_,rfl⟩:=mM.mp hd;exact⟨sV u,by rw[aI];decide⟩
def DF{x:Db}{fs:Ch}:MV.str x∈fs.map MV.str↔x∈fs:=⟨λh=>by obtain⟨u,a,e⟩:=mM.mp h;cases e;exact a,λh=>mM.mpr ⟨x,h,rfl⟩⟩
theorem Dg(a b:MV)(S:Sto):fW #[[a,b],6] #[0,5] S=#[a,S,1]:=rfl
theorem Dh(a b:MV)(S:Sto):fW #[[a,b],6] #[1,5] S=#[b,S,1]:=rfl
def SqM.itQ{ds:C8}(h:SqM S m ds): ∃gs,(∀T,stay gs (S++T))/\ ∀T,itQ (.val m) (S++T)=.ok ⟨ds,gs⟩ (S++T):=by
 rcases h with rfl|⟨l,rfl,hS⟩
 .exact⟨[],λT=>dZ _,λT=>rfl⟩
 .have a: ∀T,(S++T)[l]? =some _:=λT=>by rw[á (gS.mp hS).1];exact hS
  refine⟨[_],λT=>yH (a T),λT=>?_⟩;have e:srcOf (S++T) #[l,1]=some ⟨true,ds,[(l,ds)]⟩:=by unfold srcOf;dsimp only;rw[a T]
  unfold L2.M.itQ;rw[e]
def PB{kvs:E3}{k:MV}(h:(look kvs k).isSome=true):k∈kvs.map (·.1):=by unfold look at h;rw[Option.isSome_map]at h;obtain⟨p,a⟩:=ï.mp h;have h1:=List.find?_some a;exact mM.mpr ⟨p,List.mem_of_find?_eq_some a,Ę h1⟩
def tup2(a b:MV)(S:Sto):xO [.val a,.val b] S=.ok #[[a,b],6] S:=KA (by simp)
theorem FB(ds:C8)(S:Sto):Hq #[ds,6] S=.ok ⟨ds,[]⟩ S:=rfl
def lst1(a:MV)(S:Sto):xT [.val a] S=#[[a],S,2]:=sI (by simp)
noncomputable def sW(ks:Ch)(x:Db):List (List Nat):=if x∈ks then ks else ks++[x]
def Di(ks:Ch)(x y:Db):y∈sW ks x↔y∈ks\/y=x:=by
 unfold sW;split
 .rename_i h;exact⟨.inl,λz=>z.elim id λe=>e▸h⟩
 .rw[é,mS]
def Lc{ks:Ch}(h:ks.Nodup)(x:Db):(sW ks x).Nodup:=by
 unfold sW;split
 .exact h
 .rename_i d;exact Ĥ.mpr ⟨h,by simp,λa c b e=>by rw[mS.mp e];rintro rfl;exact d c⟩
theorem FC(ks:Ch)(x:Db):(sW ks x).length<=ks.length+1:=by
 unfold sW;split
 .lia
 .rw[lA,lS];lia
def xM(ks xs:Ch):List (List Nat):=xs.foldl sW ks
theorem qI: ∀(xs ks:Ch)(y:Db),y∈xM ks xs↔y∈ks\/y∈xs
 |[],ks,y=>by simp[xM]
 |x::xs,ks,y=>by show y∈xM _ xs↔_;rw[qI xs,Di,mC,or_assoc]
theorem DG: ∀(xs:Ch){ks:Ch},ks.Nodup->(xM ks xs).Nodup
 |[],_,h=>h
 |x::xs,_,h=>DG xs (Lc h x)
theorem qK: ∀(xs ks:Ch),(xM ks xs).length<=ks.length+xs.length
 |[],ks=>à _
 |x::xs,ks=>by
  have h1:=qK xs (sW ks x);have a:=FC ks x;show(xM _ xs).length<=_;rw[lC]
  lia
noncomputable def dT(ks:Ch):List (MV×MV):=ks.map λx=>(.str x,.bl true)
theorem UW(ks:Ch):(dT ks).map (·.1)=ks.map MV.str:=by unfold dT;rw[Ĳ];rfl
def Ld(ks:Ch)(x:Db):(look (dT ks) (.str x)).isSome=decide (x∈ks):=by
 by_cases h:x∈ks
 .rw[dT0 h];unfold look;rw[Option.isSome_map,List.find?_isSome];exact⟨_,mM.mpr ⟨x,h,rfl⟩,by simp⟩
 .rw[dF0 h]
  cases z:(look _ _).isSome with
  |false=>rfl
  |true=>
   have:=PB z;rw[UW]at this;exact absurd (DF.mp this) h
theorem Ul(ks:Ch)(x:Db):putK (dT ks) (.str x) (.bl true)=dT (sW ks x):=by
 unfold putK sW;rw[Ld];by_cases h:x∈ks
 .rw[iP h,iP (dT0 h)];unfold dT;rw[Ĳ];refine Ė λy _=>?_;show(if MV.str y=MV.str x then _ else _)=_;split<;>rfl
 .rw[iN h,iN (by rw[dF0 h];exact xF0)];unfold dT;rw[ð];rfl
theorem Nc(ks:Ch):(dT ks).all (λp=>sT p.1)=true:=by unfold dT;rw[all_map,ą];intro x _;rfl
def Dj{l:Nat}{kvs:E3}(h:S[l]? =#[kvs,7])(a:kvs.all (λp=>sT p.1)=true):uD S #[l,1]=some (l,kvs):=by unfold uD;dsimp only;rw[h];dsimp only;rw[iP a]
def Lf{l:Nat}{ks:Ch}(h:S[l]? =#[dT ks,7])(a:ks.length<1000000)(x:Db)(ρ:Rho):IB #[l,1] (.val (.str x)) (.bl true) ρ S=.ok ρ (S.set l (.dic (dT (sW ks x)))):=by unfold IB;rw[Dj h (Nc ks)];dsimp only;rw[iP ⟨rfl,by unfold dT;rw[lM];exact a⟩,Ul]
def Dk{l:Nat}{ks:Ch}(h:S[l]? =#[dT ks,7]):vY [#[l,1]] S=#[ks.map MV.str,S,2]:=by unfold vY;dsimp only;rw[Dj h (Nc ks)];dsimp only;rw[UW]
theorem lZ{α:Type}{f g:α->MV}{S:Sto}{gf:MV->Rho->Sto->R Rho}{cf:AZ}{ef:AX}{ρb:Rho}{gs:E2}(hs:stay gs S):
  ∀{ds:List α},(∀d∈ds, ∃ρ1,gf (f d) ρb S=.ok ρ1 S/\cf ρ1 S=.ok true S/\ef ρ1 S=#[g d,S,1])->yD gf cf ef ρb gs (ds.map f) S=.ok (ds.map g) S
 |[],_=>rfl
 |d::ds,st=>by obtain⟨ρ1,h1,a,b⟩:=st d mF0;have e:=lZ hs λd hd=>st d (mO _ hd);rw[å];unfold yD;rw[h1,yL,bK,a,yL,bK,b,yL,bK];unfold wQ;rw[bK,iP hs,e];rfl
theorem YU(ds:List α)(j:Nat):fS ds none (some (j:Int))=ds.take j:=by
 unfold fS;rw[HT.sIx_nat,show HT.sIx ds.length 0 none=0 from rfl,drop_zero,Nat.sub_zero];by_cases h:j<=ds.length
 .rw[min_eq_left h]
 .rw[min_eq_right #[],Ā (à _),Ā #[]]
theorem AO(ds:List α)(j:Nat):fS ds (some (j:Int)) none=ds.drop j:=by
 unfold fS;rw[HT.sIx_nat];by_cases h:j<=ds.length
 .rw[min_eq_left h,Ā (by rw[þ];exact à _)]
 .rw[min_eq_right #[],drop_of_length_le (à _),drop_of_length_le #[],List.take_nil]
def Zj{xs:List α}{k:Nat}{x:α}(h:xs[k]? =some x):tE xs (k:Int)=some x:=L2.atI_nat h
theorem LM(ds:C8)(l h:C4)(S:Sto):vQ #[ds,6] l h S=.ok #[fS ds l h,6] S:=rfl
noncomputable abbrev aK(k:Nat):MV:=.int (k:Int)
theorem Dl{n:Nat}(h:n<=1000)(S:Sto):dY [#[(n:Int),5]] S=.ok ⟨(List.range n).map aK,[]⟩ S:=by rw[sH #[],Ď]
theorem FD{α:Type}{f g:α->MV}{p:α->Bool}{S:Sto}{gf:MV->Rho->Sto->R Rho}{cf:AZ}{ef:AX}{ρb:Rho}{gs:E2}(hs:stay gs S):
  ∀{ds:List α},(∀d∈ds, ∃ρ1,gf (f d) ρb S=.ok ρ1 S/\cf ρ1 S=.ok (p d) S/\ef ρ1 S=#[g d,S,1])->yD gf cf ef ρb gs (ds.map f) S=.ok ((ds.filter p).map g) S
 |[],_=>rfl
 |d::ds,st=>by
  obtain⟨ρ1,h1,b,c⟩:=st d mF0;have e:=FD hs λd hd=>st d (mO _ hd);rw[å];unfold yD
  cases a:p d with
  |true=>
   rw[h1,yL,bK,b,yL,bK,a,c,yL,bK];unfold wQ;rw[bK,iP hs,e,List.filter_cons_of_pos a];rfl
  |false=>
   rw[h1,yL,bK,b,yL,bK,a,iN xF0,iP hs,e,List.filter_cons_of_neg (by rw[a];exact xF0)]
def lL(S T:Sto)(o:MO):(S++o::T)[↑2]? =some o:=by simp
def UX(S T:Sto)(o o':MO):(S++o::T).set ↑2 o'=S++o'::T:=by simp
theorem Dm{n:Nat}{F:List MV->Sto->R Er}{kvs:E3}(b:rs.length=n)(a:F (zF rs S).1 (zF rs S).2=.ok #[↑2,1] (S++.dic kvs::T)):zK n F rs S=.ok #[↑2,1] (S++.dic kvs::T):=by
 unfold zK;rw[iP b,a];show kZ S _ _=_;unfold kZ;dsimp only;split
 .rw[iN (ı _),lL]
 .rfl
def UY{l:Nat}{ds:C8}(h:S[l]? =#[ds,2]):DY #[l,1] S=.ok (!ds.isEmpty) S:=by unfold DY;dsimp only;rw[h]
theorem Lg(ds:C8)(S:Sto):Yg [#[ds,6]] S=.ok ⟨RO ds,[]⟩ S:=rfl
def Lh{l:Nat}{ds es:C8}(a:S[l]? =#[ds,2])(hz:ds.length+es.length<=1000000):Ke #[l,1] [.new es] S=#[.non,S.set l (.lst (ds++es)),1]:=by show GK #[l,1] S (λds=>if ds.length+es.length<=sizeLine then some _ else none)=_;unfold GK;dsimp only;rw[a];dsimp only;rw[iP (fits hz)]
noncomputable def abc:List Nat:=[97,98,99,100,101,102,103,104,105,106,107,108,109,110,111,112,113,114,115,116,117,118,119,120,121,122]
def rC(ws:Ch)(n:Nat):tF n #[ws,8]:=gI λd hd=>by obtain⟨x,_,rfl⟩:=mM.mp hd;exact RJ _ _
abbrev VS(v:MV):Prop:=(∃i,v=.int i)\/ ∃x,v=.str x
def qL{v:MV}(h:VS v):pd v=true/\vF v<40:=by
 rcases h with⟨i,rfl⟩|⟨x,rfl⟩
 .exact⟨SF i,by rw[rA];decide⟩
 .exact⟨sV x,by rw[aI];decide⟩
def Zk{vs:C8}(h: ∀v∈vs,VS v)(n:Nat):tF n vs:=gI λd hd=>fO (qL (h d hd)).1
theorem Do{l:Nat}{ds:C8}(a:S[l]? =#[ds,2]):RE #[l,1] (.new []) S=#[.bl (!ds.isEmpty),S,1]:=by
 have e:HP S #[l,1]=some (.ls ds):=by show(jD S _).map Vw.ls=_;rw[lV a];rfl
 unfold RE CG;rw[e]
 cases ds with
 |nil=>rfl
 |cons d ds=>rfl
theorem rD(a:Za)(k:Int)(n:0<=k)(S:Sto): ∃c,zK 2 zR [.val (.scr (a.map MV.int)),#[k,5]] S=.ok #[c,5] S:=by
 have i:mR [.val (.scr (a.map MV.int))] S=.ok #[a.length,5] S:=by show R.ok _ S=_;rw[lM]
 have j:kS [some (.scr (a.map MV.int)),#[k,0]] S=if decide (k<a.length)=true then(fW (.val (.scr (a.map MV.int))) #[k,5] S).bind λr S1=>.ok (.ret r) S1 else #[[some (.scr (a.map MV.int)),#[k,0]],S,0]:=by unfold kS;exists 7,i,lt_int
 have fin: ∀c,zR [.scr (a.map MV.int),.int k] S=.ok _ S-> ∃c,zK 2 zR [.val _,.val _] S=#[_,S,1]:=λc h=>⟨c,lU rfl h (vT _ _) (λl=>by simp)⟩
 have hs:zT ["_law_script","_law_k"] [.scr (a.map MV.int),.int k]=[some _,some _]:=rfl;by_cases b:k<a.length
 .obtain⟨d,hd⟩:=JZ (xs:=a.map MV.int) n (by rw[lM];exact b);obtain⟨c,rfl⟩: ∃c,d=.int c:=TV (P:=λd=> ∃c,d=.int c) (λe o=>by obtain⟨c,_,rfl⟩:=mM.mp o;exact⟨c,rfl⟩) hd;have m:fW (.val (.scr (a.map MV.int))) #[k,5] S=.ok #[c,5] S:=by show(match tE _ k with |some d=>R.ok (Er.val d) S|none=>.no)=_;rw[hd]
  refine fin c ?_;rw[dT0 b,iP rfl,m,bK]at j;unfold zR gR;rw[hs,mT j];rfl
 .refine fin 0 ?_;rw[dF0 b,iN xF0]at j;unfold zR gR;rw[hs,zC j];rfl
theorem pp30(S:Sto):Ia #[10,5] #[30,5] S=.ok #[10 ^ 30,5] S:=rfl
theorem sX(S:Sto)(a b:MO):(S++[a,b])[↑2+1]? =some b:=by rw[æ #[],show ↑2+1 - ↑2=1 by lia];rfl
theorem Dp: ∀(fs:Ch)(i:Nat),(fs.map MV.str).eraseIdx i=(fs.eraseIdx i).map MV.str
 |[],_=>rfl
 |_::_,0=>rfl
 |c::fs,i+1=>congrArg _ (Dp fs i)
theorem Li{l:Nat}{ds:C8}{i:Int}{d:MV}(a:S[l]? =#[ds,2])(b:0<=i)(h1:i<ds.length)(e:ds.length<1000)(hd:ds[i.toNat]? =some d):XX #[l,1] [#[i,5]] S=#[d,S.set l (.lst (ds.eraseIdx i.toNat)),1]:=by
 have c:JD ds.length i=some i.toNat:=by unfold JD;rw[iP b,iP h1]
 unfold XX;dsimp only;rw[a];dsimp only;rw[iP ⟨by lia,by lia⟩,c];dsimp only;rw[hd]
def Dq{u n k:Nat}{ds:C8}(c:S[u]? =#[ds,2])(j:S[n]? =#[ds,2])(a: ∀d∈ds,pd d=true/\vF d<k):eqv S (k+1) (.loc u) (.loc n)=some true:=by
 have e: ∀l,S[l]? =some _->HP S #[l,1]=some (.ls ds):=λl h=>by show(jD S _).map Vw.ls=_;rw[lV h];rfl
 obtain⟨bs,h1,b⟩:=uM λd hd f i=>fN k (a d hd).1 (a f i).1 (a d hd).2;rw[dT0 rfl,aE]at b;unfold eqv;rw[e u c,e n j];show(if ds.length=ds.length then(BC _ ds ds).map λbs=>bs.all id else some false)=_;rw[iP rfl,h1];show some (bs.all id)=_;rw[b.1]
theorem LN{L:Sto}{n i:Nat}(h:B.length=n):(B++L)[n+i]? =L[i]? :=by rw[æ #[],h,Nat.add_sub_cancel_left]
def zD{L:Sto}{m:Nat}(h:B[m]? =some o):(B++L)[m]? =some o:=by rw[á (gS.mp h).1];exact h
def zE{F G:AY}{ρ ρ':Rho}{S':Sto}{r:R Fl}(h:F ρ S=#[ρ',S',0])(k:G ρ' S'=r):zI F G ρ S=r:=(zC h).trans k
theorem dW{X:R Fl}{r:Er}(h:X=.ok (.ret r) S):yC X=.ok r S:=by rw[h];rfl
theorem aL{gf:MV->Rho->Sto->R Rho}{body:AY}{n:Nat}(I:Nat->Rho->Sto->Prop): ∀(L:C8)(i:Nat){ρ:Rho}{S:Sto},i+L.length<=n->I i ρ S->(∀d∈L, ∀i,i<n-> ∀ρ S,I i ρ S-> ∃a ρ' S',gf d ρ S=.ok a S/\body a S=#[ρ',S',0]/\I (i+1) ρ' S')-> ∃ρ' S',xP gf body [] L ρ S=#[ρ',S',0]/\I (i+L.length) ρ' S'
 |[],i,ρ,S,_,h,_=>⟨ρ,S,rfl,h⟩
 |d::L,i,ρ,S,hn,h,st=>by rw[lC]at hn ⊢;obtain⟨a,ρ1,S1,h1,b,j⟩:=st d mF0 i #[] ρ S h;obtain⟨ρ',S',m,c⟩:=aL I L _ #[] j λe k=>st e (mO _ k);exact⟨ρ',S',by rw[zX h1 b (dZ _),m],by rw[show i+_=i+1+L.length by lia];exact c⟩
theorem md{x n:Int}(h:0<n:=by decide):0<=x % n/\x % n<n:=⟨eN _ #[],eL _ h⟩
section
variable{gf:MV->Rho->Sto->R Rho}{cf:AZ}{ef:AX}{ρb ρ1:Rho}{gs:E2}{d y:MV}{ds out:C8}{S S1 S2:Sto}
theorem uN(h1:gf d ρb S=.ok ρ1 S)(e:cf ρ1 S=.ok true S)(b:ef ρ1 S=#[y,S1,1])(c:stay gs S1)(a:yD gf cf ef ρb gs ds S1=.ok out S2):yD gf cf ef ρb gs (d::ds) S=.ok (y::out) S2:=by unfold yD;rw[h1,yL,bK,e,yL,bK,b,yL,bK];unfold wQ;rw[bK,iP c,a];rfl
def UZ(h1:gf d ρb S=.ok ρ1 S)(c:cf ρ1 S=.ok false S)(b:stay gs S)(a:yD gf cf ef ρb gs ds S=.ok out S2):yD gf cf ef ρb gs (d::ds) S=.ok out S2:=by unfold yD;rw[h1,yL,bK,c,yL,bK,iN xF0,iP b,a]
end
noncomputable abbrev Wl(S:Sto)(l:Nat)(x:Int):Sto:=S.set l (.lst [.int x])
def Dr{l:Nat}(h:l<↑2)(x:Int):(Wl S l x)[l]? =#[[.int x],2]:=ė h
def nA{l m:Nat}(h:l≠m)(x:Int):(Wl S l x)[m]? =S[m]? :=Ģ h
def Nd(S:Sto)(l:Nat)(x y:Int):(Wl S l x).set l (.lst [.int y])=Wl S l y:=List.set_set ..
def cB(S:Sto)(l:Nat)(x:Int):(Wl S l x).length=S.length:=Ą ..
def pF(S:Sto)(x:Int):S++[.lst [.int x]]=Wl (S++[.lst []]) ↑2 x:=by simp[Wl]
def cC{l:Nat}(h:l<↑2)(x:Int)(T:Sto):Wl S l x++T=Wl (S++T) l x:=by unfold Wl;rw[ĳ _ _ h]
theorem LO{l:Nat}(h:l<↑2)(x:Int)(o o':MO):(Wl (S++[o]) l x).set ↑2 o'=Wl (S++[o']) l x:=by unfold Wl;rw[ĳ _ _ h,ĳ _ _ h];rw[ğ _ _ (by rw[Ą];exact à _),Ą,sub_self];rfl
def uO{l:Nat}(h:l<↑2)(x:Int)(o:MO):(Wl (S++[o]) l x)[↑2]? =some o:=by rw[nA (ë h)];simp
def Um{l:Nat}(x:Int)(T:Sto):NL S (Wl S l x++T):=by
 refine⟨by rw[lA,cB];exact đ _ _,λm a=>?_⟩;rw[á (by rw[cB];exact a)];by_cases e:l=m
 .subst e;exact .inr ⟨_,Dr a x,gI λe b=>by rw[mS.mp b];exact vT _ _⟩
 .exact .inl (nA e x)
def VA{l:Nat}(y x:Int)(T:Sto):NL (Wl S l y) (Wl S l x++T):=by have:=Um (S:=Wl S l y) (l:=l) x T;rw[show Wl _ l x=Wl S l x from Nd S l y x]at this;exact this
def VB(S:Sto)(l:Nat)(x:Int)(T:Sto){n:Nat}(h:n=↑2):(Wl S l x++T).take n=Wl S l x:=by rw[h,List.take_append_of_le_length (by rw[cB];exact à _),Ā (by rw[cB];exact à _)]
def uP{n:Nat}{F:List MV->Sto->R Er}{l:Nat}{x y:Int}{d:MV}(b:rs.length=n)(a:F (zF rs (Wl S l x)).1 (zF rs (Wl S l x)).2=#[d,Wl S l y++T,1])(h:lo ↑2 d)(hd: ∀l,d≠.loc l):zK n F rs (Wl S l x)=#[d,Wl S l y,1]:=by
 unfold zK;rw[iP b,a,yL,bK];unfold kZ;rw[iP (VA x y T)];have e:=VB S l y T (cB S l x);have h':lo (Wl S l x).length d:=by rw[cB];exact h
 cases d with
 |loc m=>exact absurd rfl (hd m)
 |_=>dsimp only;rw[iP h',e]
theorem BM{n:Nat}{F:List MV->Sto->R Er}{l m:Nat}{x y:Int}{ds:C8}(c:rs.length=n)(a:F (zF rs (Wl S l x)).1 (zF rs (Wl S l x)).2=.ok #[m,1] (Wl S l y++T))(d:↑2<=m)(b:(Wl S l y++T)[m]? =#[ds,2])(h:tF ↑2 ds):zK n F rs (Wl S l x)=#[ds,Wl S l y,2]:=by unfold zK;rw[iP c,a,yL,bK];unfold kZ;rw[iP (VA x y T)];dsimp only;rw[cB,iN #[],b];dsimp only;rw[iP h,VB S l y T rfl]
section
variable{S:Sto}{l:Nat}{x:Int}
theorem PC{n:Int}(i:l<↑2)(e:0<n)(hd: ∀(a:Int)(S:Sto),NO #[a,5] #[n,5] S=.ok #[a / n,5] S):zK 2 zA [#[l,1],#[n,5]] (Wl S l x)=.ok #[x % n,5] (Wl S l (x / n)):=by
 have hs:zT BK [.loc l,.int n]=[some _,some _,none]:=rfl;have c:tE [MV.int x] 0=some _:=rfl;have b:=Dr i x;have d:cI [#[l],#[n,0],none] (Wl S l x)=#[[#[l],#[n,0],#[x % n,0]],Wl S l x,0]:=by unfold cI;exists 7,EF b c,mod_lit e
 have h:cJ [#[l],#[n,0],#[x % n,0]] (Wl S l x)=#[[#[l],#[n,0],#[x % n,0]],Wl S l (x / n),0]:=by unfold cJ;simp? [EF b c,hd,LI,De b (show JD [MV.int x].length 0=some 0 from rfl)];exact congrArg _ (Nd S l x _)
 refine uP (T:=[]) rfl ?_ (vT _ _) (λl=>by simp);show zA [.loc l,.int n] (Wl S l x)=_;unfold zA qF;rw[hs,zC d,zC h,aN];rfl
def yS{n:Int}(b:l<↑2)(a:0<n:=by decide)(h1:n<1073741824:=by decide):zK 2 zA [#[l,1],#[n,5]] (Wl S l x)=.ok #[x % n,5] (Wl S l (x / n)):=PC b a (JY a h1)
theorem LP(a:l<↑2): ∃y z,y.length<=8/\zK 1 kL [#[l,1]] (Wl S l x)=#[.str y,Wl S l z,1]:=by have o:=md (x:=x) (n:=8);obtain⟨_,_,e,y,z,k,rfl,rfl,j⟩:=aL (gf:=yA 3) (body:=cK) (n:=9) (λi ρ S'=> ∃(y:Db)(z:Int)(k:C9),ρ=[#[l],#[abc,4],#[y,4],k]/\S'=Wl S l z/\y.length=i) ((List.range (1+x % 8).toNat).map aK) 0 (by rw[lM,Ē];lia) ⟨[],_,none,rfl,rfl,rfl⟩ (λd _ i hi ρ S1 ⟨y,z,k,h1,h,m⟩=>by subst h1 h;obtain⟨c,b⟩:=JZ (xs:=abc) (md (by decide)).1 (md (x:=z) (n:=26)).2;refine⟨_,_,_,rfl,?_,y++[c],z / 26,some d,rfl,rfl,by simp[m]⟩;unfold cK dM;simp? [yS (n:=26) a,ix_str (by rw[Ĕ];decide) b];rw[add_str (fits (by rw[lS];lia))];rfl);refine⟨y,z,by simp at j;lia,uP (T:=[]) rfl ?_ (RJ _ _) (λl=>by simp)⟩;rw[aN];show yC (qG [#[l],none,none,none] _)=_;refine dW (zE rfl (zE rfl (zE (ρ':=[#[l],#[abc,4],#[y,4],k]) ?_ rfl)));unfold iV;simp? [yS (n:=8) a];rw[sH #[],bK];exact e
end
def cE(c:Int)(S:Sto): ∃t,zK 1 zY [#[c,5]] S=#[[.int t],S,2]:=by
 obtain⟨t,h⟩: ∃t,cH [#[c,0],none,none,none,none,none] S=.ok (.ret (.new [.int t])) S:=by
  unfold cH;have q:jL [#[c,0],none,none,none,none,none] S=#[[#[c,0],#[c / 2,0],none,none,none,none],S,0]:=by unfold jL;exists 7,JY (show(0:Int)<2 by decide) (by decide)
  by_cases b:c % 2=0
  .refine⟨c / 2,zE q (mT ?_)⟩;unfold jM;exists 7,mod_lit (show(0:Int)<2 by decide),dT0 b
  .obtain⟨_,_,e,n,t,k,o,rfl,rfl⟩:=aL (gf:=yA 4) (body:=jK) (n:=16) (λ_ ρ S'=> ∃(n t:Int)(k o:C9),ρ=[#[c,0],#[c / 2,0],#[n,0],#[t,0],k,o]/\S=S') ((List.range 16).map aK) 0 (by decide) ⟨_,0,none,none,rfl,rfl⟩ (λd hd i _ ρ S1 ⟨n,t,k,o,h1,r⟩=>by
    subst h1 r;obtain⟨j,_,rfl⟩:=mM.mp hd;have p:=md (x:=n * 48271+7919 * (j:Int)+11) (n:=2147483647);obtain⟨m,a⟩: ∃m,m=(n * 48271+7919 * (j:Int)+11) % 2147483647:=⟨_,rfl⟩
    rw[<-a]at p;refine⟨_,_,_,rfl,?_,m,t * 2147483587+m * m % 2147483629 * 69621 % 2147483587,some (aK j),#[m * m % 2147483629,0],rfl,rfl⟩;unfold jK;apply zE
    .unfold gT;simp? [CQ (show -(2 ^ 64)<(48271:Int)/\(48271:Int)<2 ^ 64 by decide),NV (show -(2 ^ 64)<(7919:Int)/\(7919:Int)<2 ^ 64 by decide),mod_lit (show(0:Int)<2147483647 by decide), <-a];rfl
    apply zE
    .unfold gU;exists 7,mul_31 ⟨p.1,by omega⟩,mod_lit (show(0:Int)<2147483629 by decide)
    unfold gV;exists 7,CQ (show -(2 ^ 64)<(2147483587:Int)/\_<2 ^ 64 by decide),CQ (show -(2 ^ 64)<(69621:Int)/\(69621:Int)<2 ^ 64 by decide),mod_lit (show(0:Int)<2147483587 by decide))
   refine⟨t,zE q ?_⟩;apply zE
   .unfold jM;simp? [mod_lit (show(0:Int)<2 by decide),dF0 b,fT,iF];rfl
   apply zE
   .unfold dH;exists 7,mod_lit (show(0:Int)<2147483647 by decide)
   refine zE rfl (zE (ρ':=[#[c,0],#[c / 2,0],#[n,0],#[t,0],k,o]) (S':=S) ?_ ?_)
   .unfold dI;simp? [sH (j:=16) (by decide)];exact e
   unfold dL;simp? [bK]
 exact⟨t,dA rfl rfl (by rw[aN];exact dW h) (.inl rfl) (gI λe s=>by rw[mS.mp s];exact vT _ _)⟩
noncomputable abbrev PP(M:Int)(l m:Nat)(k w v:C9):Rho:=[#[l],#[M,0],#[m],k,w,v]
section
variable{M:Int}{S:Sto}{l m:Nat}{x:Int}{vs:C8}{k w v:C9}
def po3{n:Int}{v:MV}(b:l<↑2)(c:VS v): ∃a z,VS a/\jN (PP M l m k #[n,0] (some v)) (Wl S l x)=#[PP M l m k #[n,0] (some a),Wl S l z,0]:=by
 unfold jN;simp? [pp30,NV (show -_<(2:Int)/\_<2 ^ 64 by decide),PC b (show _<2 * 10 ^ 30 - 1 by decide) (Ky (by decide+kernel))];split
 .exact⟨_,_,.inl ⟨_,rfl⟩,rfl⟩
 .exact⟨v,x,c,rfl⟩
def po4{n:Int}{v:MV}(c:l<↑2)(d:VS v): ∃a z,VS a/\jO (PP M l m k #[n,0] (some v)) (Wl S l x)=#[PP M l m k #[n,0] (some a),Wl S l z,0]:=by
 obtain⟨y,z,_,b⟩:=LP (x:=x) c;unfold jO;simp? [b];split
 .exact⟨_,_,.inr ⟨y,rfl⟩,rfl⟩
 .exact⟨v,x,d,rfl⟩
theorem YV(p:l<↑2)(o: ∀d∈vs,VS d)(G:vs.length<1000): ∃a A C z,(∀d∈a,VS d)/\a.length<=vs.length+1/\1<=a.length/\cL (PP M l ↑2 k w v) (Wl (S++[.lst vs]) l x)=#[PP M l ↑2 k A C,Wl (S++[.lst a]) l z,0]:=by
 have b:l<(S++[MO.lst vs]).length:=by rw[lA];lia
 obtain⟨F,E,j,B⟩:=po3 (M:=M) (k:=k) b (.inl ⟨_,rfl⟩);obtain⟨i,c,e,D⟩:=po4 (M:=M) (k:=k) b j;have m:(Wl (S++[.lst vs]) l c)[↑2]? =#[vs,2]:=uO p c _
 obtain⟨a,h1,q,u,r⟩: ∃a,(∀d∈a,VS d)/\a.length<=vs.length+1/\1<=a.length/\jP (PP M l ↑2 k #[x % 4,0] (some i)) (Wl (S++[.lst vs]) l c)=.ok _ (Wl (S++[.lst a]) l c):=by
  unfold jP;simp? [iO true m (qL e).1 λy s=>qL (o y s),yN m,xX m #[],LO p];by_cases h:i∈vs
  .exact⟨vs,o,le_succ _,List.length_pos_of_mem h,by rw[dT0 h];rfl⟩
  .refine⟨vs++[i],λd hd=>?_,by simp,by simp,by rw[dF0 h];rfl⟩;rcases é.mp hd with hd|hd
   .exact o d hd
   .rw[mS.mp hd];exact e
 refine⟨a,#[x % 4,0],some i,c,h1,q,u,?_⟩;unfold cL;apply zE
 .unfold dN;exists 7,yS (n:=4) b
 apply zE
 .unfold dO;exists 7,yS b
 exact zE B (zE D r)
end
theorem Uo{l:Nat}(h:l<↑2)(x:Int){M:Nat}(h1:1<=M)(A:M<=4): ∃vs z,(∀d∈vs,VS d)/\1<=vs.length/\vs.length<=4/\hX [.loc l,aK M] (Wl S l x)=.ok #[↑2,1] (Wl (S++[.lst vs]) l z):=by
 obtain⟨_,_,e,vs,z,k,w,v,rfl,rfl,c,j,g2⟩:=aL (gf:=yA 3) (n:=M) (λi ρ S'=> ∃(vs:C8)(z:Int)(k w v:C9),ρ=PP M l ↑2 k w v/\S'=Wl (S++[.lst vs]) l z/\(∀d∈vs,VS d)/\vs.length<=i/\(i=0\/1<=vs.length)) ((List.range M).map aK) 0 (by simp) ⟨[],x,none,none,none,rfl,rfl,by simp,à _,.inl rfl⟩ (λd _ i hi ρ S1 ⟨vs,z,k,w,v,q,s,c,j,_⟩=>by subst q s;obtain⟨b,r,u,p,a,y,m,o⟩:=YV h c #[];exact⟨_,_,_,rfl,o,b,p,_,r,u,rfl,rfl,a,by lia,.inr m⟩);rw[lM,Ē]at j g2;refine⟨vs,z,c,by lia,by lia,?_⟩;show yC (iE [#[l],some (aK M),none,none,none,none] _)=_;refine dW ?_;unfold iE;apply zE
 .unfold iW;simp? [cB,cC h];rfl
 refine zE (ρ':=PP M l ↑2 k w v) (S':=Wl (S++[.lst vs]) l z) ?_ ?_
 .unfold iY;exists 7,Dl (show M<=1000 by omega),e
 unfold iZ;exists 7,rfl
theorem Lj(t:Int)(S:Sto): ∃vs,(∀d∈vs,VS d)/\1<=vs.length/\vs.length<=4/\zK 2 hX [.new [.int t],#[4,5]] S=#[vs,S,2]:=by
 have a:↑2<(S++[MO.lst []]).length:=by simp
 obtain⟨vs,z,b,c,h,e⟩:=Uo a t (M:=4) (by decide) (by decide);refine⟨vs,b,c,h,dA (T:=[.lst [.int z],.lst vs]) rfl (show zF [.new [.int t],.val _] S=([.loc ↑2,.int 4],S++[.lst [.int t]])from rfl) ?_ (.inr ⟨_,rfl,le_succ _,sX S _ _⟩) (Zk b _)⟩;rw[pF];show hX [.loc ↑2,aK 4] _=_;rw[e,lA, <-cC a, <-pF,aA];rfl
noncomputable abbrev T4(l m:Nat)(k w:C9):Rho:=[#[l],#[m],k,w]
theorem Dt{l:Nat}{x:Int}{k w:C9}(d:l<↑2)(j:ts.length<1000):
  ∃p i z,(1<=p.1/\p.1<=4/\0<=p.2/\p.2<=p.1)/\jQ (T4 l ↑2 k w) (Wl (S++[.lst (ts.map tbl)]) l x)=#[T4 l ↑2 k i,Wl (S++[.lst ((ts++[p]).map tbl)]) l z,0]:=by
 have b:l<(S++[MO.lst (ts.map tbl)]).length:=by rw[lA];lia
 obtain⟨a,e⟩: ∃a,a=1+x % 3:=⟨_,rfl⟩
 have h1:=md (x:=x) (n:=3);have h:=md (x:=x / 3) (show 0<a+1 by lia);have c: ∀z,(Wl _ l z)[↑2]? =#[ts.map tbl,2]:=λz=>uO d z _;refine⟨(a,x / 3 % _),#[a,0],x / 3 / (a+1),⟨by show 1<=a;lia,by show a<=4;lia,h.1,by show x / 3 % _<=a;lia⟩,?_⟩;unfold jQ;apply zE
 .unfold gW;simp? [yS (n:=3) b, <-e];rfl
 unfold gX;simp? [yN (c _),yS b (show 0<a+1 by lia) #[],xX (c _) (by rw[lM];lia),LO d];rw[ð];rfl
theorem YW(t:Int)(S:Sto): ∃ts,Kz ts/\zK 1 cM [.new [.int t]] S=#[ts.map tbl,S,2]:=by
 have a:↑2<(S++[MO.lst []]).length:=by simp
 have y:=md (x:=t) (n:=3)
 obtain⟨_,_,e,ts,z,k,w,rfl,rfl,b,h1⟩:=aL (gf:=yA 2) (n:=3) (λi ρ S'=> ∃(ts:Tk)(z:Int)(k w:C9),ρ=T4 ↑2 (↑2+1) k w/\S'=Wl (S++[.lst []]++[.lst (ts.map tbl)]) ↑2 z/\(∀p∈ts,1<=p.1/\p.1<=4/\0<=p.2/\p.2<=p.1)/\ts.length=i) ((List.range (1+t % 3).toNat).map aK) 0 (by simp;lia) ⟨[],t / 3,none,none,rfl,rfl,by simp,rfl⟩ (λd _ i hi ρ S1 ⟨ts,z,k,w,o,u,b,h1⟩=>by
  subst o u;obtain⟨p,r,m,s,c⟩:=Dt (x:=z) (ts:=ts) (w:=w) a #[];rw[lA]at c;refine⟨_,_,_,rfl,c,ts++[p],m,some d,r,rfl,rfl,λq v=>?_,by simp[h1]⟩;rcases é.mp v with h|h
  .exact b q h
  .rw[mS.mp h];exact s)
 rw[lM,Ē]at h1;refine⟨ts,⟨by omega,by omega,b⟩,dA (T:=[.lst [.int z],.lst (ts.map tbl)]) rfl rfl ?_ (.inr ⟨_,rfl,le_succ _,sX S _ _⟩) (gI λd hd=>by obtain⟨p,_,rfl⟩:=mM.mp hd;exact RK (gI λe j=>by simp at j;rcases j with rfl|rfl<;>exact vT _ _))⟩;show yC _=_;rw[pF,show S++[MO.lst [.int z],.lst (ts.map tbl)]=Wl _ ↑2 z by rw[<-cC a, <-pF,aA];rfl];refine dW ?_;unfold lB;refine zE (ρ':=T4 ↑2 (↑2+1) none none) (S':=Wl (S++[.lst []]++[.lst []]) ↑2 t) ?_ (zE (ρ':=T4 ↑2 (↑2+1) k w) (S':=Wl (S++[.lst []]++[.lst (ts.map tbl)]) ↑2 z) ?_ ?_)
 .unfold dP;simp? [cB,cC a];rw[lA];rfl
 .unfold dQ;exists 7,yS (n:=3) (show ↑2<(S++[MO.lst []]++[MO.lst []]).length by simp),sH (by omega),e
 unfold dR;exists 7,rfl
noncomputable abbrev N5(l m:Nat)(b:Db)(k w:C9):Rho:=[#[l],#[b,4],#[m],k,w]
theorem adds{x y:Db}(h:x.length+y.length<=1000)(S:Sto):wH (.val (.str x)) (.val (.str y)) S=#[.str (x++y),S,1]:=add_str (fits #[])
theorem Lk{l:Nat}{x:Int}{b:Db}{w:C9}{us:Ch}(e:l<↑2)(p:us.length<1000)(o:b.length<=6)(m:j<2):
  ∃y n z,kM (N5 l ↑2 b (some (aK j)) w) (Wl (S++[.lst #[us,8]]) l x)=#[N5 l ↑2 b (some (aK j)) n,Wl (S++[.lst ((us++[y]).map MV.str)]) l z,0]:=by
 have c:l<(S++[MO.lst #[us,8]]).length:=by rw[lA];lia
 obtain⟨y,z,_,h⟩:=LP (x:=x) c;have d:(Wl _ l z)[↑2]? =#[us.map MV.str,2]:=uO e z _
 obtain⟨r,k⟩: ∃r,tE [MV.str ([98]++b),.str ([98]++b++[97])] (j:Int)=#[r,4]:=by
  match j,m with
  |0,_=>exact⟨_,rfl⟩
  |1,_=>exact⟨_,rfl⟩
 obtain⟨a,i⟩: ∃a,kU (N5 l S.length b (some (aK j)) #[y,4]) (Wl (S++[.lst #[us,8]]) l z)=#[N5 l ↑2 b _ #[a,4],_,0]:=by
  unfold kU;simp? [iO false d (sV y) DE,adds (x:=[98]) (y:=b) (by simp only[lS];lia),adds (x:=[98]++b) (y:=[97]) (by simp only[lA,lS];lia),RN k,fT,iF];split
  .exact⟨r,rfl⟩
  .exact⟨y,rfl⟩
 refine⟨a,#[a,4],z,?_⟩;unfold kM;apply zE
 .unfold bY;exists 7,h
 refine zE i ?_;unfold bZ;simp? [yN d,xX d (by rw[lM];lia),LO e];rw[ð];rfl
theorem Du(t:Int)(S:Sto): ∃ys:List (List Nat),ys.length=3/\zK 1 aB [.new [.int t]] S=#[ys.map MV.str,S,2]:=by
 have a:↑2<(S++[MO.lst []]).length:=by simp
 obtain⟨w,z,hw,r⟩:=LP (S:=S++[.lst []]) (l:=↑2) (x:=t) a;have o:bA [#[↑2],none,none,none,none] (Wl (S++[.lst []]) ↑2 t)=#[[#[↑2],#[w.take 6,4],none,none,none],Wl (S++[.lst []]) ↑2 z,0]:=by unfold bA;simp? [r,cut_str (fits (show w.length<=1000000 by lia)),show fS w none (some 6)=w.take 6 from Jc _ _ (by decide)]
 have p:(w.take 6).length<=6:=by rw[lT];exact Nat.min_le_left _ _
 generalize w.take 6=b at p o;have c:bB [#[↑2],#[b,4],none,none,none] (Wl (S++[.lst []]) ↑2 z)=if decide (z % 2=0)=true then .ok (.ret (.new [.str b,.str (b++[97]),.str ([98]++b)])) (Wl (S++[.lst []]) ↑2 (z / 2))else #[[#[↑2],#[b,4],none,none,none],Wl (S++[.lst []]) ↑2 (z / 2),0]:=by unfold bB;simp? [yS (n:=2) a,adds (x:=b) (y:=[97]) (by simp only[lS];lia),adds (x:=[98]) (y:=b) (by simp only[lS];lia)]
 by_cases h:z % 2=0
 .rw[dT0 h,iP rfl]at c;refine⟨[b,b++[97],[98]++b],rfl,dA (T:=[.lst [.int (z / 2)]]) rfl rfl ?_ (.inl rfl) (rC _ _)⟩;rw[pF,pF];exact dW (zE o (mT c))
 .rw[dF0 h,iN xF0]at c;obtain⟨_,_,e,ys,m,k,v,rfl,rfl,h1⟩:=aL (gf:=yA 3) (body:=kM) (n:=2) (λi ρ S'=> ∃(ys:Ch)(z:Int)(k w:C9),ρ=N5 ↑2 (↑2+1) b k w/\S'=Wl (S++[.lst []]++[.lst #[ys,8]]) ↑2 z/\ys.length=i+1) ((List.range 2).map aK) 0 (by decide) ⟨[b],z / 2,none,none,rfl,rfl,rfl⟩ (λd hd i hi ρ S1 ⟨ys,z,k,v,u,B,h1⟩=>by subst u B;obtain⟨j,C,rfl⟩:=mM.mp hd;obtain⟨y,A,s,q⟩:=Lk (S:=S++[.lst []]) (l:=↑2) (x:=z) (b:=b) (us:=ys) (j:=j) (w:=v) a #[] p (mem_range.mp C);rw[lA]at q;exact⟨_,_,_,rfl,q,ys++[y],s,some (aK j),A,rfl,rfl,by simp[h1]⟩);refine⟨ys,h1,dA (T:=[.lst [.int m],.lst #[ys,8]]) rfl rfl ?_ (.inr ⟨_,rfl,le_succ _,sX S _ _⟩) (rC _ _)⟩;rw[pF,show S++[MO.lst [.int m],.lst #[ys,8]]=Wl (S++[.lst []]++[.lst #[ys,8]]) ↑2 m by rw[<-cC a, <-pF,aA];rfl];refine dW (zE o (zE c (zE (ρ':=N5 ↑2 (↑2+1) b none none) (S':=Wl (S++[.lst []]++[.lst ([b].map MV.str)]) ↑2 (z / 2)) ?_ (zE (ρ':=N5 ↑2 (↑2+1) b k v) (S':=Wl (S++[.lst []]++[.lst #[ys,8]]) ↑2 m) ?_ ?_))))
  .unfold eX;simp? [cB,cC a];rw[lA];rfl
  .unfold eY;exists 7,sH (j:=2) (by decide),e
  unfold eZ;simp? [bK]
abbrev Rw:=Int×List MV
variable{rows:List Rw}
noncomputable def zV(r:Rw):MV:=.tup [.int r.1,.tup r.2]
set_option bootstrap.genMatcherCode true in
local macro_rules
 |`(#[$x,9])=>`(($x).map zV)
noncomputable def YX(ts:Tk)(t:Int):Nat:=((ts[t.toNat]?).map (·.1.toNat)).getD 0
def TmP(ys:Ch)(vs:C8)(d:MV):Prop:=(∃y∈ys,d=.tup [.str GP,.str y])\/ ∃v∈vs,d=.tup [.str IS,v]
def Zl(ts:Tk)(ys:Ch)(vs:C8)(a:Rw):Prop:=a.2.length=YX ts a.1/\ ∀d∈a.2,TmP ys vs d
def Nf(ts:Tk)(vs:C8)(r:Rw):Prop:=r.2.length=YX ts r.1/\ ∀c∈r.2,c∈vs
theorem AQ(o:C8)(S:Sto):bS [.new o] S=.ok #[o,6] S:=rfl
def TmP.ok{vs:C8}(a: ∀v∈vs,VS v){d:MV}(h:TmP ys vs d):gB d:=by
 rcases h with⟨y,_,rfl⟩|⟨v,hv,rfl⟩
 .exact .inl ⟨y,rfl⟩
 .exact .inr ⟨v,a v hv,rfl⟩
theorem Dv{lt:Nat}(d:Kz ts)(n:Int): ∃p,(1<=p.1/\p.1<=4)/\(YX ts (n % (ts.length:Int)):Int)=p.1/\ ∀S:Sto,S[lt]? =#[ts.map tbl,2]->fW #[lt,1] #[n % (ts.length:Int),5] S=#[tbl p,S,1]:=by
 have e:=d.1;have i:=eN n (show(ts.length:Int)≠0 by lia);have h1:=eL n (show(0:Int)<ts.length by lia);obtain⟨k,c⟩: ∃k:Nat,n % (ts.length:Int)=k:=⟨(n % (ts.length:Int)).toNat,by lia⟩
 have a:k<ts.length:=by lia
 have b:=d.2.2 _ (getElem_mem a);refine⟨_,⟨b.1,b.2.1⟩,?_,λS h=>?_⟩
 .unfold YX;rw[c,Ď,gE a];show((ts[k].1.toNat:Nat):Int)=ts[k].1
  lia
 .rw[c];exact EF h (Zj (by rw[ö,gE a];rfl))
theorem LR{S:Sto}{l:Nat}{gf:MV->Rho->Sto->R Rho}{cf:AZ}{ef:AX}{ρb:Rho}{P:MV->Prop}(st: ∀(d:MV)(x:Int), ∃ρ1 y z,gf d ρb (Wl S l x)=.ok ρ1 (Wl S l x)/\cf ρ1 (Wl S l x)=.ok true (Wl S l x)/\ef ρ1 (Wl S l x)=#[y,Wl S l z,1]/\P y):
  ∀(L:C8)(x:Int), ∃out z,out.length=L.length/\(∀d∈out,P d)/\yD gf cf ef ρb [] L (Wl S l x)=.ok out (Wl S l z)
 |[],x=>⟨[],x,rfl,by simp,rfl⟩
 |d::L,x=>by obtain⟨ρ1,y,m,h1,a,h,k⟩:=st d x;obtain⟨out,z,b,c,j⟩:=LR st L m;refine⟨_,z,by rw[lC,lC,b],λe i=>(mC.mp i).elim (λz=>z▸k) (c e),?_⟩;unfold yD;rw[h1,yL,bK,a,yL,bK,h,yL,bK];unfold wQ;rw[bK,iP (dZ _),j];rfl
section
variable{S:Sto}{l p q lt:Nat}{x:Int}{vs:C8}{ys:Ch}{ts:Tk}
theorem LS(k:l<↑2)(e:l≠p){ds:C8}(j:S[p]? =#[ds,2])(h1:1<=ds.length)(m:ds.length<=1000)(x:Int): ∃d∈ds, ∃z,(((mR [#[p,1]] (Wl S l x)).bind λn S=>zK 2 zA [#[l,1],n] S).bind λi S=>fW #[p,1] i S)=#[d,Wl S l z,1]:=by
 have c: ∀z,(Wl S l z)[p]? =some _:=λz=>(nA e z).trans j;have a:(0:Int)<(ds.length:Int):=by lia
 obtain⟨v,b⟩:=JZ (eN _ #[]) (eL _ a);refine⟨v,TV (λ_ h=>h) b,x / (ds.length:Int),?_⟩;rw[kQ (c x),bK,yS k a #[],bK,EF (c _) b]
theorem Ll(c:l<↑2)(o:l≠p)(m:l≠q)(s:S[p]? =#[vs,2])(w:S[q]? =#[ys.map MV.str,2])(A: ∀d∈vs,VS d)(h1:1<=vs.length)(G:vs.length<=4)(i:1<=ys.length)(C:ys.length<=10)(x:Int):
  ∃r z,TmP ys vs r/\zK 3 iI [#[l,1],#[q,1],#[p,1]] (Wl S l x)=#[r,Wl S l z,1]:=by
 obtain⟨v,F,j,b⟩:=LS c o s h1 #[] (x / 4);obtain⟨d,hd,k,a⟩:=LS c m w (by rw[lM];exact i) (by rw[lM];lia) (x / 4);obtain⟨y,E,rfl⟩:=mM.mp hd;by_cases h:x % 4=0
 .have e:wG [#[l],#[q],#[p]] (Wl S l x)=.ok (.ret #[[.str IS,v],6]) (Wl S l j):=by have B: ∀z,(Wl S l z)[p]? =#[vs,2]:=λz=>(nA o z).trans s;rw[kQ (B _),bK]at b;unfold wG;simp? [yS (n:=4) c,h,decide_true,kQ (B (x / 4))];rw[b];exists 7,rfl
  have ok:TmP ys vs _:=.inr ⟨v,F,rfl⟩;refine⟨_,j,ok,uP (T:=[]) rfl ?_ (fO (UV (ok.ok A)).1) (λl=>by simp)⟩;show yC (gA [#[l],#[q],#[p]] (Wl S l x))=_;unfold gA;rw[mT e,aN];rfl
 .have e:wG [#[l],#[q],#[p]] (Wl S l x)=#[[#[l],#[q],#[p]],Wl S l (x / 4),0]:=by unfold wG;exists 7,yS c,h,decide_false,fT,iF
  have D:cR [#[l],#[q],#[p]] (Wl S l (x / 4))=.ok (.ret #[[.str GP,.str y],6]) (Wl S l k):=by have u: ∀z,(Wl S l z)[q]? =some _:=λz=>(nA m z).trans w;rw[kQ (u _),bK]at a;unfold cR;simp? [kQ (u (x / 4))];rw[a];exists 7,rfl
  have ok:TmP ys vs _:=.inl ⟨y,E,rfl⟩;refine⟨_,k,ok,uP (T:=[]) rfl ?_ (fO (UV (ok.ok A)).1) (λl=>by simp)⟩;show yC (gA [#[l],#[q],#[p]] (Wl S l x))=_;unfold gA;rw[zC e,D,aN];rfl
theorem Uq(m:l<↑2)(u:l≠p)(nt:l≠lt)(w:S[p]? =#[vs,2])(B:S[lt]? =#[ts.map tbl,2])(E: ∀d∈vs,VS d)(h1:1<=vs.length)(K:vs.length<=4)(j:Kz ts)(x:Int):
  ∃r z,Nf ts vs r/\zK 3 oG [#[l,1],#[lt,1],#[p,1]] (Wl S l x)=#[zV r,Wl S l z,1]:=by
 have s: ∀z,(Wl S l z)[lt]? =some _:=λz=>(nA nt z).trans B;have A:0<ts.length:=j.1;have F:=j.2.1;have k: ∀z,mR [#[lt,1]] (Wl S l z)=.ok _ (Wl S l z):=λz=>by rw[kQ (s z),lM]
 obtain⟨D,H,hw,a⟩:=Dv (lt:=lt) j x;obtain⟨t,b⟩: ∃t,t=x % (ts.length:Int):=⟨_,rfl⟩
 rw[<-b]at hw a;have I:nV [#[l],#[lt],#[p],none] (Wl S l x)=#[[#[l],#[lt],#[p],#[t,0]],Wl S l (x / (ts.length:Int)),0]:=by unfold nV;simp? [k,yS (n:=(ts.length:Int)) m #[] #[]];rw[b]
 obtain⟨out,z,q,o,i⟩:=LR (S:=S) (l:=l) (gf:=yA 0) (cf:=eT) (ef:=gY) (ρb:=[none,#[l],#[p]]) (λd x=>by obtain⟨v,C,z,e⟩:=LS m u w h1 #[] x;refine⟨_,v,z,rfl,rfl,?_,C⟩;have y: ∀z,(Wl S l z)[p]? =#[vs,2]:=λz=>(nA u z).trans w;rw[kQ (y _),bK]at e;unfold gY;simp? [kQ (y x)];exact e) ((List.range (YX ts t)).map aK) _;rw[lM,Ē]at q;have J: ∀S,fW (.val (tbl D)) #[0,5] S=.ok #[(YX ts t:Int),5] S:=λS=>by rw[hw];rfl
 have G:nW [#[l],#[lt],#[p],#[t,0]] (Wl S l (x / (ts.length:Int)))=.ok (.ret (.val (zV (t,out)))) (Wl S l z):=by unfold nW;simp? [a _ (s _),J,Dl (show YX ts t<=1000 by lia),lM,Ē,show YX ts t<1000000 by lia];rw[show vE 1 [0,2] [#[l],#[lt],#[p],#[t,0]]=[none,#[l],#[p]]from rfl,i];exists 7,AQ
 have h:pd (zV (t,out))=true:=by unfold zV;rw[xD,yB,SF,yB,xD,bG λc i=>(qL (E c (o c i))).1,uL];rfl
 refine⟨_,z,⟨q,o⟩,uP (T:=[]) rfl ?_ (fO h) (λl=>by simp[zV])⟩;show yC (oF [#[l],#[lt],#[p],none] (Wl S l x))=_;unfold oF;rw[zC I,G,aN];rfl
end
theorem Zm{vs:C8}(b: ∀v∈vs,VS v){a:Rw}(h:Zl ts ys vs a):pd (zV a)=true/\vF (zV a)<=3:=by
 have h1:=bG λd hd=>(UV ((h.2 d hd).ok b)).1;have c:=rB λd hd=>(UV ((h.2 d hd).ok b)).2;unfold zV;refine⟨by rw[xD,yB,yB,xD,h1];rfl,?_⟩;rw[jW,yU,yU,FA,rA,jW]
 lia
abbrev A8(M l p q lt m:Nat)(k t:C9):Rho:=[#[l],#[lt],#[q],#[p],some (aK M),#[m],k,t]
section
variable{S:Sto}{M l p q lt:Nat}{vs:C8}{ys:Ch}{ts:Tk}
theorem YY(y:l<↑2)(Q:l≠p)(G:l≠q)(nt:l≠lt)(W:S[p]? =#[vs,2])(J:S[q]? =#[ys.map MV.str,2])(H:S[lt]? =#[ts.map tbl,2])(K: ∀d∈vs,VS d)(h1:1<=vs.length)(O:vs.length<=4)(u:1<=ys.length)(m:ys.length<=10)(s:Kz ts){as:List Rw}(X:as.length<100)(x:Int)(k E:C9):
  ∃a t' z,Zl ts ys vs a/\gZ (A8 M l p q lt ↑2 k E) (Wl (S++[.lst #[as,9]]) l x)=#[A8 M l p q lt ↑2 k t',Wl (S++[.lst ((as++[a]).map zV)]) l z,0]:=by
 have b:l<(S++[MO.lst #[as,9]]).length:=by rw[lA];lia
 have r: ∀{j:Nat}{o:MO},S[j]? =some o->(S++[MO.lst #[as,9]])[j]? =some o:=λh=>by rw[á (gS.mp h).1];exact h
 have C: ∀z,(Wl _ l z)[lt]? =#[ts.map tbl,2]:=λz=>(nA nt z).trans (r H);have A: ∀z,(Wl _ l z)[↑2]? =#[as.map zV,2]:=λz=>uO y z _;have D:0<ts.length:=s.1;have L:=s.2.1;have w: ∀z,mR [#[lt,1]] _=.ok _ _:=λz=>by rw[kQ (C z),lM]
 obtain⟨I,P,hw,c⟩:=Dv (lt:=lt) s x;obtain⟨t,i⟩: ∃t,t=x % (ts.length:Int):=⟨_,rfl⟩
 rw[<-i]at hw c;obtain⟨out,z,B,F,N⟩:=LR (gf:=yA 0) (cf:=bV) (ef:=kT) (ρb:=[none,#[l],#[q],#[p]]) (λd x=>by obtain⟨T,z,h,e⟩:=Ll b Q G (r W) (r J) K h1 O u m x;refine⟨_,T,z,rfl,rfl,?_,h⟩;unfold kT;exists 7,e) ((List.range (YX ts t)).map aK) _;rw[lM,Ē]at B;have U: ∀S,fW (.val (tbl I)) #[0,5] S=.ok #[(YX ts t:Int),5] S:=λS=>by rw[hw];rfl
 have v: ∀Y,xO [#[t,5],#[out,6]] Y=#[zV (t,out),Y,1]:=λY=>tup2 _ _ Y;refine⟨(t,out),#[t,0],z,⟨B,F⟩,?_⟩;unfold gZ;apply zE
 .unfold bW;simp? [w,yS (n:=(ts.length:Int)) b #[] #[], <-i];rfl
 unfold bX;simp? [yN (A _),c _ (C _),U,Dl (show YX ts t<=1000 by lia),lM,Ē,show YX ts t<1000000 by lia];rw[show vE 1 [0,2,3] _=[none,#[l],#[q],#[p]]from rfl,N];simp? [AQ,v,xX (A z) (by rw[lM];lia),LO y];rw[ð];rfl
theorem Dw(c:l<↑2)(F:l≠p)(w:l≠q)(nt:l≠lt)(H:S[p]? =#[vs,2])(B:S[q]? =#[ys.map MV.str,2])(y:S[lt]? =#[ts.map tbl,2])(u: ∀d∈vs,VS d)(h1:1<=vs.length)(C:vs.length<=4)(s:1<=ys.length)(r:ys.length<=10)(G:Kz ts)(I:M<=4)(x:Int):
  ∃(as:List Rw)(z:Int),as.length=M/\(∀a∈as,Zl ts ys vs a)/\zK 5 nZ [#[l,1],#[lt,1],#[q,1],#[p,1],.val (aK M)] (Wl S l x)=#[as.map zV,Wl S l z,2]:=by
 obtain⟨_,_,e,as,z,k',t',rfl,rfl,j,k⟩:=aL (gf:=yA 6) (n:=M) (λi ρ S'=> ∃(as:List Rw)(z:Int)(k' t':C9),ρ=A8 M l p q lt ↑2 k' t'/\S'=Wl (S++[.lst #[as,9]]) l z/\(∀a∈as,Zl ts ys vs a)/\as.length=i) ((List.range M).map aK) 0 (by simp) ⟨[],x,none,none,rfl,rfl,by simp,rfl⟩ (λd _ i hi ρ S1 ⟨as,z,k',t',E,A,j,k⟩=>by subst E A;obtain⟨a,v,D,m,o⟩:=YY c F w nt H B y u h1 C s r G (as:=as) #[] z (some d) t';exact⟨_,_,_,rfl,o,_,D,_,v,rfl,rfl,λb o=>(é.mp o).elim (j b) λh=>by rw[mS.mp h];exact m,by simp[k]⟩);rw[lM,Ē,Ă]at k;refine⟨as,z,k,j,BM rfl ?_ (à _) (by rw[cC c];exact uO c z _) (gI λd hd=>by obtain⟨a,m,rfl⟩:=mM.mp hd;exact fO (Zm u (j a m)).1)⟩;show yC (nY [#[l],#[lt],#[q],#[p],some (aK M),none,none,none] _)=_;rw[cC c];refine dW ?_;unfold nY;apply zE
 .unfold eU;simp? [cB,cC c];rfl
 refine zE (ρ':=A8 M l p q lt ↑2 k' t') (S':=Wl (S++[.lst #[as,9]]) l z) ?_ ?_
 .unfold eV;simp? [Dl (show M<=1000 by lia)];exact e
 unfold eW;simp? [bK]
end
noncomputable abbrev N6(a:MV)(m:Nat)(t u w n:C9):Rho:=[some a,#[m],t,u,w,n]
def dX(as:List Rw):List (List Nat):=as.flatMap λa=>a.2.filterMap vn
def BN(v:MV):vn (.tup [.str IS,v])=none:=by cases v<;>simp[vn]
theorem AR{S:Sto}{a:MV}{t u:C9}: ∀(c:C8),(∀d∈c,gB d)-> ∀(fs:Ch)(w n:C9),fs.length+c.length<1000->
  ∃(r q:C9),xP (mQ 2 (zB (yA 4) (zB (yA 5) yK))) yF [] c (N6 a ↑2 t u w n) (S++[.lst #[fs,8]])=#[N6 a ↑2 t u r q,S++[.lst ((xM fs (c.filterMap vn)).map MV.str)],0]
 |[],_,fs,w,n,_=>⟨w,n,rfl⟩
 |d::c,hT,fs,w,n,hl=>by
  rw[lC]at hl;have i:=zL S (.lst #[fs,8]);rcases hT d mF0 with⟨x,rfl⟩|⟨v,hv,rfl⟩
  .have j:yF (N6 a ↑2 t u #[GP,4] #[x,4]) (S++[.lst #[fs,8]])=#[N6 a ↑2 t u #[GP,4] #[x,4],S++[.lst ((sW fs x).map MV.str)],0]:=by
    unfold yF xG;unfold sW;by_cases h:x∈fs
    .rw[iP h];simp? [OZ,iO true i (sV x) DE,dT0 (DF.mpr h),ń,fT,iF]
    .rw[iN h];simp? [OZ,iO true i (sV x) DE,dF0 (λz=>h (DF.mp z)),Bool.not_false,yN i,xX i (by rw[lM];lia),bH,ð,å,List.map_nil]
   have p:=FC fs x;obtain⟨k,o,b⟩:=AR c (λe m=>hT e (mO _ m)) (sW fs x) #[GP,4] #[x,4] #[];refine⟨k,o,?_⟩;rw[zX rfl j (dZ _),b,Ĭ,AN];rfl
  .have j:yF (N6 a ↑2 t u #[IS,4] (some v)) (S++[.lst #[fs,8]])=#[N6 a ↑2 t u #[IS,4] (some v),S++[.lst #[fs,8]],0]:=by unfold yF xG;exists 7,Df,fT,iF
   obtain⟨k,o,b⟩:=AR c (λe m=>hT e (mO _ m)) fs #[IS,4] (some v) #[];refine⟨k,o,?_⟩;rw[zX rfl j (dZ _),b,Ĭ,BN]
def PD(ks xs ys:Ch):xM ks (xs++ys)=xM (xM ks xs) ys:=by
 induction xs generalizing ks with
 |nil=>rfl
 |cons x xs ih=>exact ih _
theorem IM{S:Sto}{a:MV}{gs:E2}(c: ∀T,stay gs (S++T)): ∀(as:List Rw),(∀b∈as,(∀d∈b.2,gB d)/\b.2.length<=4)-> ∀(fs:Ch)(t u w n:C9),fs.length+4 * as.length<1000->
  ∃(t' A B s:C9),xP (mQ 2 (zB (yA 2) (zB (yA 3) yK))) wL gs #[as,9] (N6 a ↑2 t u w n) (S++[.lst #[fs,8]])=#[N6 a ↑2 t' A B s,S++[.lst ((xM fs (dX as)).map MV.str)],0]
 |[],_,fs,t,u,w,n,_=>⟨t,u,w,n,rfl⟩
 |b::as,hA,fs,t,u,w,n,hl=>by
  rw[lC]at hl;obtain⟨m,C⟩:=hA b mF0;obtain⟨q,k,i⟩:=AR b.2 m fs w n #[];have h:=qK (b.2.filterMap vn) fs;have v:=ī vn b.2;obtain⟨j,z,o,y,r⟩:=IM c as (λe p=>hA e (mO _ p)) (xM fs (b.2.filterMap vn)) _ _ q k #[];refine⟨j,z,o,y,?_⟩;rw[å,zX rfl ?_ (c _),r]
  .show _=R.ok _ (S++[.lst ((xM fs (b.2.filterMap vn++dX as)).map MV.str)]);rw[PD]
  .unfold wL jA;exists 7,FB,i
theorem Ur{as:List Rw}(h:SqM S m #[as,9])(p: ∀b∈as,(∀d∈b.2,gB d)/\b.2.length<=4)(q:as.length<=100):zK 1 jU [.val m] S=#[(xM [] (dX as)).map MV.str,S,2]:=by
 obtain⟨gs,j,hi⟩:=h.itQ;have i:wM [some m,none,none,none,none,none] S=#[N6 m ↑2 none none none none,S++[.lst []],0]:=by unfold wM;exists 7,rfl
 obtain⟨t',c,e,a,n⟩:=IM j as p [] none none none none (by simp only[ú];lia);have o:wN (N6 m ↑2 none none none none) (S++[.lst []])=#[N6 m ↑2 t' c e a,S++[.lst ((xM [] (dX as)).map MV.str)],0]:=by unfold wN;exists 7,hi [.lst []],n
 have k:wO (N6 m ↑2 t' c e a) (S++[.lst ((xM [] (dX as)).map MV.str)])=.ok (.ret #[↑2,1]) (S++[.lst ((xM [] (dX as)).map MV.str)]):=by unfold wO;exists 7,rfl
 refine tW rfl ?_ (à _) (zL S _) (rC _ _);show yC (jT [some m,none,none,none,none,none] S)=_;unfold jT;rw[zC i,zC o,k];rfl
section
variable{S:Sto}{l:Nat}{a b:MO}{x:Int}
def w2_a(h:l<↑2):(Wl (S++[a,b]) l x)[↑2]? =some a:=by rw[nA (ë h)];simp
def Us(h:l<↑2):(Wl (S++[a,b]) l x)[↑2+1]? =some b:=by rw[nA (ë (Nat.lt_succ_of_lt h)),sX]
theorem Zn(h:l<↑2)(c:MO):(Wl (S++[a,b]) l x).set ↑2 c=Wl (S++[c,b]) l x:=by unfold Wl;rw[ĳ _ _ h,ĳ _ _ h,ğ _ _ (by rw[Ą];exact à _),Ą,sub_self];rfl
theorem Zo(h:l<↑2)(c:MO):(Wl (S++[a,b]) l x).set (↑2+1) c=Wl (S++[a,c]) l x:=by unfold Wl;rw[ĳ _ _ h,ĳ _ _ h,ğ _ _ (by rw[Ą];exact le_succ _),Ą,Nat.add_sub_cancel_left];rfl
end
noncomputable abbrev H6(l a m:Nat)(k:C9):Rho:=[#[l],#[a],#[3,0],#[m],#[m+1],k]
theorem YZ{l a:Nat}{x:Int}{k:C9}{fs hs:Ch}(j:l<↑2)(s:fs.length<=16)(u:hs.length<1000):
  ∃(c b:Ch)(z:Int),(b++c).Perm (hs++fs)/\b.length<=hs.length+1/\c.length<=16/\cS (H6 l a ↑2 k) (Wl (S++[.lst #[fs,8],.lst #[hs,8]]) l x)=#[H6 l a ↑2 k,Wl (S++[.lst #[c,8],.lst #[b,8]]) l z,0]:=by
 have o:l<(S++[MO.lst #[fs,8],MO.lst #[hs,8]]).length:=by rw[lA];lia
 have d: ∀z,(Wl (S++[.lst #[fs,8],.lst #[hs,8]]) l z)[↑2]? =some _:=λz=>w2_a j;have r: ∀z,(Wl (S++[.lst #[fs,8],.lst #[hs,8]]) l z)[↑2+1]? =#[hs.map MV.str,2]:=λz=>Us j;unfold cS dS;by_cases h:fs=[]
 .subst h;refine⟨[],hs,x,.refl _,le_succ _,by simp,?_⟩;exists 7,Do (d x),show(!(([]:Ch).map MV.str).isEmpty)=false from rfl,fT,iF
 .have v:0<fs.length:=List.length_pos_iff.mpr h;obtain⟨m,n⟩: ∃m,m=(fs.map MV.str).length:=⟨_,rfl⟩
  have w:m=fs.length:=by rw[n,lM]
  have q:=md (x:=x) (show(0:Int)<(m:Int) by lia);generalize hi:x % (m:Int)=i at q;have i2:i.toNat<fs.length:=by lia
  refine⟨fs.eraseIdx i.toNat,hs++[fs[i.toNat]],x / (m:Int),?_,by simp,õ (List.length_eraseIdx_le ..) s,?_⟩
  .rw[aA];refine .append_left _ ?_;have e:fs.take i.toNat++fs[i.toNat]::fs.drop (i.toNat+1)=fs:=by rw[<-ĥ i2,Ŀ]
   have p:(fs.take i.toNat++fs[i.toNat]::fs.drop (i.toNat+1)).Perm _:=List.perm_middle;rw[e]at p;rw[List.eraseIdx_eq_take_drop_succ];exact p.symm
  .simp? [Do (d x),show(!(fs.map MV.str).isEmpty)=true by simpa using h,yN (r x),yN (d x),kQ (d x), <-n,yS o (show(0:Int)<(m:Int) by lia) #[],hi,Li (d (x / (m:Int))) q.1 (by rw[<-n];exact q.2) #[] (by rw[ö,gE i2];rfl),Dp,Zn j];rw[xX (Us j) (by rw[lM];lia),bK,Zo j,ð];rfl
theorem Lm{l a:Nat}{x:Int}{as:List Rw}(w:l<↑2)(r:l≠a)(D:S[a]? =#[as.map zV,2])(m: ∀b∈as,(∀d∈b.2,gB d)/\b.2.length<=4)(E:as.length<=4):
  ∃(hs:Ch)(z:Int),hs.length<=3/\(∀y∈hs,y∈xM [] (dX as))/\hs.Nodup/\ ∃fs:List (List Nat),cZ [.loc l,.loc a,.int 3] (Wl S l x)=.ok #[↑2+1,1] (Wl (S++[.lst #[fs,8],.lst #[hs,8]]) l z):=by
 have o:=Ur (.inr ⟨a,rfl,(nA r x).trans D⟩) m #[]
 have p:(xM [] (dX as)).length<=16:=by
  have h1:=qK (dX as) []
  have u: ∀as:List Rw,(∀b∈as,b.2.length<=4)->(dX as).length<=4 * as.length:=λas=>by
   induction as with
   |nil=>simp[dX]
   |cons b as ih=>
    intro m;have:=ih λc o=>m c (mO _ o);have E:=m b mF0;have K:=ī vn b.2;show(b.2.filterMap vn++dX as).length<=_;rw[lA,lC]
    lia
  have:=u as λb s=>(m b s).2;rw[ú]at h1
  lia
 have k:(xM [] (dX as)).Nodup:=DG _ nodup_nil;generalize xM [] (dX as)=fs at o p k;have v:l<(S++[MO.lst #[fs,8]]).length:=by rw[lA];lia
 have J:=md (x:=x) (n:=4);obtain⟨_,_,e,h,hs,z,k',rfl,rfl,q,A,_⟩:=aL (gf:=yA 5) (n:=3) (λi ρ S'=> ∃(h hs:Ch)(z:Int)(k':C9),ρ=H6 l a ↑2 k'/\S'=Wl (S++[.lst #[h,8],.lst #[hs,8]]) l z/\(hs++h).Perm fs/\hs.length<=i/\h.length<=16) ((List.range (x % 4).toNat).map aK) 0 (by simp;lia) ⟨fs,[],x / 4,none,rfl,rfl,.refl _,à _,p⟩ (λd _ i hi ρ S1 ⟨h,hs,z,k',H,F,q,A,I⟩=>by subst H F;obtain⟨p,u,G,p2,l2,C,s⟩:=YZ (hs:=hs) w I #[];exact⟨_,_,_,rfl,s,p,u,G,some d,rfl,rfl,p2.trans q,by lia,C⟩);rw[lM,Ē]at A;refine⟨hs,z,by lia,λy B=>q.mem_iff.mp (ă _ B),(Ĥ.mp (q.nodup_iff.mpr k)).1,h,?_⟩;show yC (iK [#[l],#[a],#[3,0],none,none,none] (Wl S l x))=_;refine dW ?_;unfold iK;apply zE
 .unfold lD;simp? [o,cB,cC w];rfl
 refine zE (ρ':=H6 l a ↑2 none) (S':=Wl (S++[.lst #[fs,8],.lst []]) l x) ?_ (zE (ρ':=H6 l a ↑2 k') (S':=Wl (S++[.lst #[h,8],.lst #[hs,8]]) l z) ?_ ?_)
 .unfold lE;simp? [cB,cC v];rw[lA,aA];rfl
 .unfold lF;simp? [show(3:Int)+1=4 from rfl,yS (n:=4) (x:=x) (show l<(S++[MO.lst #[fs,8],MO.lst []]).length by rw[lA];lia),sH (j:=x % 4) #[]];exact e
 unfold lG;exists 7,rfl
def Ln{l a:Nat}{x:Int}{as:List Rw}(c:l<↑2)(e:l≠a)(n:S[a]? =#[as.map zV,2])(i: ∀b∈as,(∀d∈b.2,gB d)/\b.2.length<=4)(o:as.length<=4):
  ∃(hs:Ch)(z:Int),hs.length<=3/\(∀y∈hs,y∈xM [] (dX as))/\hs.Nodup/\zK 3 cZ [#[l,1],#[a,1],#[3,5]] (Wl S l x)=#[hs.map MV.str,Wl S l z,2]:=by
 obtain⟨hs,z,j,m,k,fs,h⟩:=Lm c e n i o;refine⟨hs,z,j,m,k,BM (T:=[.lst #[fs,8],.lst _]) rfl ?_ (le_succ _) (by rw[cC c];exact Us c) (rC _ _)⟩;rw[cC c];exact h
theorem SH(ds:C8)(S:Sto):vM (.new ds) S=.ok ⟨ds,[]⟩ S:=rfl
def VC{w:Nat}{x:Int}(h:Z[w]? =#[[.int x],2]):Wl Z w x=Z:=by
 refine ext_getElem? λj=>?_;by_cases e:w=j
 .subst e;rw[get_set h,h]
 .rw[sU e]
theorem FE{lc:Nat}{all:C8}: ∀(cs:Za)(Z:Sto),Z[lc]? =#[all,2]-> ∃T:Sto,T.length=cs.length/\(∀o∈T, ∃x,o=.lst [.int x])/\yD (yA 0) jR wA [none] [(lc,all)] (cs.map MV.int) Z=.ok ((List.range' Z.length cs.length).map MV.loc) (Z++T)
 |[],Z,_=>⟨[],rfl,by simp,by rw[aN];rfl⟩
 |c::cs,Z,h=>by
  obtain⟨t,j⟩:=cE c Z;have a:(Z++[MO.lst [.int t]])[lc]? =#[all,2]:=by rw[á (gS.mp h).1];exact h
  obtain⟨T,h1,d,b⟩:=FE cs _ a;refine⟨_,by rw[lC,lC,h1],λo i=>(mC.mp i).elim (λe=>⟨t,e⟩) (d o),?_⟩;have k:wA [#[c,0]] Z=#[[.int t],Z,2]:=by unfold wA;exists 7,j
  rw[å];unfold yD;rw[show yA 0 _ [none] Z=.ok [some _] Z from rfl,yL,bK,show jR [some _] Z=.ok true Z from rfl,yL,bK,k,yL,bK,show wQ _ Z=.ok _ _ from rfl,bK,iP (yH a),b,aA];rw[lA,lS,lC];rfl
structure RI(S:Sto)(lr:Nat)(ws:Db)(rs:List Rw)(Z:Sto):Prop where
 old: ∃T,Z=S++T
 rw:Z[lr]? =#[rs.map zV,2]
 wl: ∀w∈ws,↑2<=w/\w≠lr/\ ∃x,Z[w]? =#[[.int x],2]
def VD{w:Nat}(h:↑2<=w)(o:MO): ∃a,(S++T).set w o=S++a:=⟨_,ğ _ _ h⟩
def RI.at{ws:Db}{rs:List Rw}(h:RI S lr ws rs Z){l:Nat}(e:S[l]? =some o):Z[l]? =some o:=by obtain⟨T,rfl⟩:=h.old;rw[á (gS.mp e).1];exact e
def RI.draw{ws:Db}{rs:List Rw}(h:RI S lr ws rs Z){w:Nat}(hw:w∈ws)(z:Int):RI S lr ws rs (Wl Z w z):=by
 obtain⟨T,rfl⟩:=h.old;obtain⟨h1,b,x,c⟩:=h.wl w hw;refine⟨VD h1 _,?_,λv i=>?_⟩
 .rw[nA b];exact h.rw
 .obtain⟨a,g2,y,d⟩:=h.wl v i;refine⟨a,g2,?_⟩;by_cases e:w=v
  .subst e;exact⟨z,get_set c⟩
  .exact⟨y,by rw[nA e];exact d⟩
def RI.put{ws:Db}{rs:List Rw}(h:RI S lr ws rs Z)(b:↑2<=lr)(a:List Rw):RI S lr ws a (Z.set lr (.lst #[a,9])):=by obtain⟨T,rfl⟩:=h.old;refine⟨VD b _,get_set h.rw,λv e=>?_⟩;obtain⟨c,g2,y,d⟩:=h.wl v e;exact⟨c,g2,y,by rw[sU (Ne.symm g2)];exact d⟩
theorem SI{vs:C8}(b: ∀v∈vs,VS v){r:Rw}(h:Nf ts vs r):pd (zV r)=true/\vF (zV r)<30:=by
 have h1:=bG λc a=>(qL (b c (h.2 c a))).1;have d:=rB λc a=>by rcases b c (h.2 c a)with⟨i,rfl⟩|⟨i,rfl⟩;exact le_of_eq (rA _);exact le_of_eq (aI _)
 unfold zV;rw[xD,yB,yB,xD,h1,jW,yU,rA,yU,jW,FA];refine⟨rfl,?_⟩
 lia
noncomputable abbrev Lo(lc:Nat)(ex:Int)(lt p m:Nat)(k:Int)(lr:Nat)(w r:C9):Rho:=[#[lc],#[ex,0],#[lt],#[p],#[30,0],#[m],#[k,0],#[lr],w,r]
section
variable{S:Sto}{lc lt p m lr:Nat}{ex k:Int}{vs:C8}{ts:Tk}{ws:Db}
theorem ZA(i:↑2<=lr)(D:S[p]? =#[vs,2])(B:S[lt]? =#[ts.map tbl,2])(o: ∀d∈vs,VS d)(h1:1<=vs.length)(I:vs.length<=4)(J:Kz ts){rs:List Rw}(H:RI S lr ws rs Z)(h: ∀r∈rs,Nf ts vs r)(c:rs.length<=30){w:Nat}(hw:w∈ws)(A:C9):
  ∃b G C,RI S lr ws b C/\(∀r∈b,Nf ts vs r)/\b.length<=30/\xC (Lo lc ex lt p m k lr #[w] A) Z=#[Lo lc ex lt p m k lr #[w] G,C,0]:=by
 obtain⟨M,g2,x,E⟩:=H.wl w hw;have K:=(gS.mp D).1;have L:=(gS.mp B).1;obtain⟨r,z,e,s⟩:=Uq (gS.mp E).1 #[] #[] (H.at D) (H.at B) o h1 I J x;rw[VC E]at s;have H1:=H.draw hw z;obtain⟨Z1,v⟩: ∃Z1,Z1=Wl Z w z:=⟨_,rfl⟩
 rw[<-v]at s H1;have u:jS (Lo lc ex lt p m k lr #[w] A) Z=#[Lo lc ex lt p m k lr #[w] (some (zV r)),Z1,0]:=by unfold jS;exists 7,s
 have a:=iO true H1.rw (SI o e).1 λy F=>by obtain⟨q,n,rfl⟩:=mM.mp F;have:=SI o (h q n);exact⟨this.1,by lia⟩
 by_cases j:zV r∈rs.map zV
 .refine⟨rs,some (zV r),Z1,H1,h,c,?_⟩;unfold xC;rw[zC u];unfold wC;simp? [a,dT0 j,ń,fT,iF]
 .by_cases N:rs.length<30
  .refine⟨_,some (zV r),_,H1.put i _,λq n=>(é.mp n).elim (h q) λz=>by rw[mS.mp z];exact e,by simp;lia,?_⟩;unfold xC;rw[zC u];unfold wC;simp? [a,dF0 j,Bool.not_false,kQ H1.rw,lM,lt_int,show decide ((rs.length:Int)<30)=true from dT0 #[],yN H1.rw,xX H1.rw (by rw[lM];lia),ð,å,List.map_nil]
  .refine⟨rs,some (zV r),Z1,H1,h,c,?_⟩;unfold xC;rw[zC u];unfold wC;simp? [a,dF0 j,Bool.not_false,kQ H1.rw,lM,lt_int,show decide ((rs.length:Int)<30)=false from dF0 #[],fT,iF]
theorem PF(h:↑2<=lr)(z:S[p]? =#[vs,2])(y:S[lt]? =#[ts.map tbl,2])(B: ∀d∈vs,VS d)(h1:1<=vs.length)(s:vs.length<=4)(w:Kz ts): ∀(us:Db),(∀u∈us,u∈ws)-> ∀(rs:List Rw)(Z:Sto)(a b:C9),RI S lr ws rs Z->(∀r∈rs,Nf ts vs r)->rs.length<=30->
  ∃c A F K,RI S lr ws c A/\(∀r∈c,Nf ts vs r)/\c.length<=30/\xP (yA 8) xC [] (us.map MV.loc) (Lo lc ex lt p m k lr a b) Z=#[Lo lc ex lt p m k lr F K,A,0]
 |[],_,rs,Z,a,b,H,hr,h40=>⟨rs,Z,a,b,H,hr,h40,rfl⟩
 |u::us,hu,rs,Z,a,b,H,hr,h40=>by obtain⟨j,L,Z1,H1,q,i,J⟩:=ZA h z y B h1 s w H hr h40 (hu u mF0) b;obtain⟨o,I,C,E,D,n,e,G⟩:=PF h z y B h1 s w us (λv M=>hu v (mO _ M)) j Z1 _ L H1 q i;refine⟨o,I,C,E,D,n,e,?_⟩;rw[å,zX rfl J (dZ _)];exact G
end
theorem Lp{lt p:Nat}{vs:C8}(X:S[p]? =#[vs,2])(I:S[lt]? =#[ts.map tbl,2])(D: ∀d∈vs,VS d)(h1:1<=vs.length)(O:vs.length<=4)(Q:Kz ts)(ex:Int){cs:Za}(hc:cs.length<=63):
  ∃rs:List Rw,(∀r∈rs,Nf ts vs r)/\rs.length<=30/\zK 5 iH [.new (cs.map MV.int),#[ex,5],#[lt,1],#[p,1],#[30,5]] S=#[rs.map zV,S,2]:=by
 obtain⟨t,s⟩:=cE ex (S++[.lst (cs.map MV.int)]);obtain⟨a,i⟩: ∃a,a=S++[MO.lst (cs.map MV.int)]:=⟨_,rfl⟩
 have E:a.length=↑2+1:=by rw[i];simp
 rw[<-i]at s;have U:cN [#[↑2],#[ex,0],#[lt],#[p],#[30,0],none,none,none,none,none] a=#[[#[↑2],#[ex,0],#[lt],#[p],#[30,0],#[a.length],none,none,none,none],Wl (a++[.lst []]) a.length t,0]:=by unfold cN;simp? [s];rw[pF]
 have B:a.length<(a++[MO.lst []]).length:=by simp
 have P:cO [#[↑2],#[ex,0],#[lt],#[p],#[30,0],#[a.length],none,none,none,none] (Wl (a++[.lst []]) a.length t)=#[[#[↑2],#[ex,0],#[lt],#[p],#[30,0],#[a.length],#[t % 20,0],none,none,none],a++[.lst [.int (t / 20)]],0]:=by unfold cO;simp? [yS (n:=20) B];rw[pF]
 obtain⟨b,c⟩: ∃b,b=a++[MO.lst [.int (t / 20)],MO.lst []]:=⟨_,rfl⟩
 have l2:b.length=↑2+3:=by rw[c];simp[E]
 have J:cP [#[↑2],#[ex,0],#[lt],#[p],#[30,0],#[a.length],#[t % 20,0],none,none,none] (a++[.lst [.int (t / 20)]])=#[Lo ↑2 ex lt p a.length (t % 20) (↑2+2) none none,b,0]:=by unfold cP;simp? [bK];rw[lA,E,aA,c];rfl
 have o:b[↑2]? =#[cs.map MV.int,2]:=by rw[c,i];simp
 obtain⟨T,t1,G,M⟩:=FE cs b o;have F:0<=t % 20:=eN _ (by decide);have k1:t % 20<20:=eL _ (by decide);obtain⟨ws,m⟩: ∃ws:List Nat,ws=List.range' b.length cs.length++List.replicate (t % 20).toNat a.length:=⟨_,rfl⟩
 have k: ∀Y,tQ (.new [.loc a.length]) #[t % 20,5] Y=#[(List.replicate (t % 20).toNat a.length).map MV.loc,Y,2]:=λY=>by
  show(if 0<=t % 20/\t % 20<100000/\[MV.loc a.length].length * (t % 20).toNat<=sizeLine then _ else _)=_;rw[iP ⟨F,by lia,fits (by simp;lia)⟩]
  have y: ∀n:Nat,(List.replicate n [MV.loc a.length]).flatten=(List.replicate n a.length).map MV.loc:=λn=>by
   induction n with
   |zero=>rfl
   |succ n ih=>rw[ĭ,flatten_cons,ih,ĭ];rfl
  rw[y]
 have v: ∀Y,wH (.new ((List.range' b.length cs.length).map MV.loc)) (.new ((List.replicate (t % 20).toNat a.length).map MV.loc)) Y=#[ws.map MV.loc,Y,2]:=λY=>by rw[m,ð];exact RL rfl rfl (fits (by rw[lM,lM,List.length_range',Ċ];lia))
 have H0:RI S (↑2+2) ws [] (b++T):=by
  refine⟨⟨[.lst (cs.map MV.int),.lst [.int (t / 20)],.lst []]++T,by rw[c,i];simp⟩,?_,λw hw=>?_⟩
  .rw[á #[],c,i];simp
  .rw[m]at hw;rcases é.mp hw with hw|hw
   .obtain⟨j,hj,rfl⟩:=List.mem_range'.mp hw;refine⟨by lia,by lia,?_⟩;rw[æ #[],show b.length+1 * j - b.length=j by lia,gE #[]];obtain⟨x,Z⟩:=G _ (getElem_mem (show j<T.length by lia));exact⟨x,by rw[Z]⟩
   .rw[(List.mem_replicate.mp hw).2];refine⟨by lia,by lia,t / 20,?_⟩;rw[á #[],c,æ #[],sub_self];rfl
 obtain⟨rs,K,N,W,H,C,z,e⟩:=PF #[] X I D h1 O Q ws (λu h=>h) [] (b++T) none none H0 (by simp) (by simp);have L:cQ (Lo ↑2 ex lt p a.length (t % 20) (↑2+2) none none) b=#[Lo ↑2 ex lt p a.length (t % 20) (↑2+2) N W,K,0]:=by unfold cQ;simp? [yW o,lM,show cs.length<1000000 by lia];rw[show vE 1 [] _=[none]from rfl,M];simp? [lst1,k,v,SH];exact e
 obtain⟨T',q⟩:=H.old;refine⟨rs,C,z,dA (S2:=a) rfl (by rw[i];rfl) ?_ (.inr ⟨↑2+2,rfl,by lia,by rw[<-q];exact H.rw⟩) (gI λd hd=>by obtain⟨r,A,rfl⟩:=mM.mp hd;exact fO (SI D (C r A)).1)⟩;show yC (iG [#[↑2],#[ex,0],#[lt],#[p],#[30,0],none,none,none,none,none] a)=_;unfold iG;rw[zC U,zC P,zC J,zC L, <-q];rfl
abbrev Ev:=List (MV×MV)
variable{E:Ev}{Gs:List Ev}
def sY(E:Ev):Prop:= ∀p∈E,(∃x,p.1=.str x)/\VS p.2
noncomputable def isv:MV->MV
 |.tup [_,v]=>v
 |_=>.non
noncomputable def cF:List MV->List MV->Ev->Option Ev
 |t::ts,c::cs,E=>match vn t with
  |some x=>match look E (.str x)with
   |none=>cF ts cs (E++[(.str x,c)])
   |some d=>if d=c then cF ts cs E else none
  |none=>if isv t=c then cF ts cs E else none
 |_,_,E=>some E
def uQ(x:Db)(c:MV)(ts cs:C8)(E:Ev):cF (.tup [.str GP,.str x]::ts) (c::cs) E=match look E (.str x)with |none=>cF ts cs (E++[(.str x,c)])|some d=>if d=c then cF ts cs E else none:=by
 conv=>lhs;unfold cF
 rw[AN]
theorem LT(v c:MV)(ts cs:C8)(E:Ev):cF (.tup [.str IS,v]::ts) (c::cs) E=if v=c then cF ts cs E else none:=by
 conv=>lhs;unfold cF
 rw[BN];rfl
theorem PH(V F:Ev)(k:MV):look (V++F) k=(look V k).or (look F k):=by unfold look;rw[List.find?_append];cases V.find? (λp=>decide (p.1=k))<;>rfl
def LU(h:sY E){k d:MV}(e:look E k=some d):VS d:=by obtain⟨p,a,rfl⟩:=Option.map_eq_some_iff.mp e;exact(h p (List.mem_of_find?_eq_some a)).2
def Dx{k d:MV}(e:look E k=some d): ∃p∈E,p.1=k:=by obtain⟨p,a,rfl⟩:=Option.map_eq_some_iff.mp e;exact⟨p,List.mem_of_find?_eq_some a,by simpa using List.find?_some a⟩
def Lq{k:MV}(e:look E k=none): ∀p∈E,p.1≠k:=λp a h=>by unfold look at e;rw[Option.map_eq_none_iff,List.find?_eq_none]at e;exact e p a (dT0 h)
theorem FF{V:Ev}{k d:MV}(h:look V k=none):putK V k d=V++[(k,d)]:=by unfold putK;rw[h];rfl
theorem DH: ∀(ts cs:C8)(F G:Ev),cF ts cs F=some G->sY F->(∀c∈cs,VS c)->sY G
 |[],_,F,G,h,hF,_=>by cases h;exact hF
 |t::ts,[],F,G,h,hF,_=>by cases h;exact hF
 |t::ts,c::cs,F,G,h,hF,hc=>by
  have a:=λd hd=>hc d (mO _ hd);unfold cF at h;split at h
  .rename_i x e;split at h
   .refine DH ts cs _ G h (λp b=>?_) a;rcases é.mp b with b|b
    .exact hF p b
    .rw[mS.mp b];exact⟨⟨x,rfl⟩,hc c mF0⟩
   .split at h
    .exact DH ts cs F G h hF a
    .cases h
  .split at h
   .exact DH ts cs F G h hF a
   .cases h
theorem aR(C:Ev)(k x j:MV):look (C++[(k,x)]) j=(look C j).or (if k=j then some x else none):=by
 rw[PH];unfold look;rw[find?_cons];by_cases h:k=j
 .rw[iP h,dT0 h];rfl
 .rw[iN h,dF0 h];rfl
theorem VE: ∀(ts cs:C8)(E G:Ev),cF ts cs E=some G->ts.length<=cs.length->(∀k,look E k≠none->look G k≠none)/\ ∀t∈ts, ∀x,vn t=some x->look G (.str x)≠none
 |[],_,E,G,h,_=>by cases h;exact⟨λk h=>h,λt p=>by simp at p⟩
 |t::ts,[],E,G,h,hl=>by simp at hl
 |t::ts,c::cs,E,G,h,hl=>by
  rw[lC,lC]at hl
  have n: ∀{F:Ev},cF ts cs F=some G->(∀k,look E k≠none->look F k≠none)->(∀x,vn t=some x->look F _≠none)->_/\ ∀t'∈t::ts, ∀x,vn t'=some x->look G _≠none:=λq h1 o=>by
   obtain⟨a,b⟩:=VE ts cs _ G q #[];refine⟨λk i=>a k (h1 k i),λt' m x j=>?_⟩;rcases mC.mp m with rfl|m
   .exact a _ (o x j)
   .exact b t' m x j
  unfold cF at h;split at h
  .rename_i x j;split at h
   .rename_i r;refine n h (λk i=>?_) λy e=>?_
    .rw[PH]
     cases z:look E k with
     |none=>exact absurd z i
     |some d=>simp
    .rw[j]at e;cases e;rw[aR];simp
   .rename_i d hd;split at h
    .exact n h (λk i=>i) λy e=>by rw[j]at e;cases e;rw[hd];simp
    .cases h
  .rename_i j;split at h
   .exact n h (λk i=>i) λy e=>by rw[j]at e;cases e
   .cases h
theorem Zp(h:sY E):E.all (λp=>sT p.1)=true:=by rw[ą];intro p a;obtain⟨x,e⟩:=(h p a).1;rw[e];rfl
section
variable{S:Sto}{l:Nat}{E:Ev}
def BO(h:S[l]? =#[E,7])(a:sY E):uD S #[l,1]=some (l,E):=Dj h (Zp a)
theorem LV(h:S[l]? =#[E,7])(a:sY E):RU #[l,1] S=true:=by unfold RU;rw[BO h a];rfl
theorem Ut(h:S[l]? =#[E,7])(a:sY E)(x:Db):YF false (.val (.str x)) #[l,1] S=#[.bl (look E (.str x)).isSome,S,1]:=by unfold YF;rw[BO h a];rfl
theorem Dy(h:S[l]? =#[E,7])(b:sY E){x:Db}{d:MV}(a:look E (.str x)=some d):OO #[l,1] (.val (.str x)) S=#[d,S,1]:=by unfold OO;rw[BO h b];dsimp only;rw[a];rfl
def Lr(h:S[l]? =#[E,7])(b:sY E)(hz:E.length<1000000){x:Db}{c d:MV}(a:look E (.str x)=some d):Cf #[l,1] [.val (.str x),.val c] S=#[d,S,1]:=by show OL _ _ _ S=_;unfold OL;rw[BO h b];dsimp only;rw[iP ⟨rfl,hz⟩,a]
def Lu(h:S[l]? =#[E,7])(b:sY E)(hz:E.length<1000000){x:Db}{c:MV}(a:look E (.str x)=none):Cf #[l,1] [.val (.str x),.val c] S=#[c,S.set l (.dic (E++[(.str x,c)])),1]:=by show OL _ _ _ S=_;unfold OL;rw[BO h b];dsimp only;rw[iP ⟨rfl,hz⟩,a];rw[FF a]
end
theorem VF{d e:MV}(hd:pd d=true)(a:pd e=true)(h:vF d<40):RE (.val d) (.val e) S=#[.bl (!decide (d=e)),S,1]:=RM (fN _ hd a (by unfold zH;lia))
noncomputable abbrev FT(lt cs:C8)(n:Nat)(a b c:C9):Rho:=[#[lt,3],#[cs,3],#[n],a,b,c]
def Lv{lt a:C8}{t c:MV}(s:gB t)(q:VS c)(i:sY E)(hz:E.length<1000)(o:C9):
  (∃F e,(∀ts h,cF (t::ts) (c::h) E=cF ts h F)/\sY F/\F.length<=E.length+1/\xQ (FT lt a ↑2 (some t) (some c) o) (S++[.dic E])=#[FT lt a ↑2 (some t) (some c) (some e),S++[.dic F],0])\/
  ((∀ts h,cF (t::ts) (c::h) E=none)/\xQ (FT lt a ↑2 (some t) (some c) o) (S++[.dic E])=.ok (.ret (.val .non)) (S++[.dic E])):=by
 have n:(S++[.dic E])[↑2]? =#[E,7]:=zL _ _
 have r: ∀(d:MV)(m:Ev),VS d->cG (FT lt a ↑2 (some t) (some c) (some d)) (S++[.dic m])=if d=c then #[FT lt a ↑2 (some t) (some c) (some d),S++[.dic m],0]else .ok (.ret (.val .non)) (S++[.dic m]):=λd m hd=>by
  unfold cG;simp? [VF (qL hd).1 (qL q).1 (qL hd).2];by_cases b:d=c
  .rw[dT0 b,iP b];rfl
  .rw[dF0 b,iN b];rfl
 unfold xQ;rcases s with⟨x,rfl⟩|⟨v,hv,rfl⟩
 .cases z:look E (.str x)with
  |none=>
   have j:yQ (FT lt a ↑2 #[[.str GP,.str x],3] (some c) o) (S++[.dic E])=#[FT lt a ↑2 #[[.str GP,.str x],3] (some c) (some c),S++[.dic (E++[(.str x,c)])],0]:=by unfold yQ;simp? [Dg,Dh,OZ,LV n i,Lu n i (show E.length<1000000 by omega) z,bH]
   refine .inl ⟨_,c,λts h=>by rw[uQ,z],λp k=>?_,by simp,?_⟩
   .rcases é.mp k with k|k
    .exact i p k
    .rw[mS.mp k];exact⟨⟨x,rfl⟩,q⟩
   .rw[zC j,r c _ q,iP rfl]
  |some d=>
   have j:yQ (FT lt a ↑2 #[[.str GP,.str x],3] (some c) o) (S++[.dic E])=#[FT lt a ↑2 #[[.str GP,.str x],3] (some c) (some d),S++[.dic E],0]:=by unfold yQ;exists 7,Dg,Dh,OZ,LV n i,Lr n i (show E.length<1000000 by omega) z
   rw[zC j,r d _ (LU i z)];by_cases b:d=c
   .exact .inl ⟨E,d,λts h=>by rw[uQ,z];exact iP b,i,by omega,by rw[iP b]⟩
   .exact .inr ⟨λts h=>by rw[uQ,z];exact iN b,by rw[iN b]⟩
 .have j:yQ (FT lt a ↑2 #[[.str IS,v],3] (some c) o) (S++[.dic E])=#[FT lt a ↑2 #[[.str IS,v],3] (some c) (some v),S++[.dic E],0]:=by unfold yQ;exists 7,Dg,Dh,Df,fT,iF
  rw[zC j,r v _ hv];by_cases b:v=c
  .exact .inl ⟨E,v,λts h=>by rw[LT,iP b],i,by omega,by rw[iP b]⟩
  .exact .inr ⟨λts h=>by rw[LT,iN b],by rw[iN b]⟩
theorem Dz{S:Sto}{lt h:C8}: ∀(ts cs:C8)(E:Ev)(a b c:C9),(∀t∈ts,gB t)->(∀c∈cs,VS c)->sY E->E.length+ts.length<1000->
  (∃F p m o,cF ts cs E=some F/\xP (mQ 2 (zB (yA 3) (zB (yA 4) yK))) xQ [] (pairs ts cs) (FT lt h ↑2 a b c) (S++[.dic E])=#[FT lt h ↑2 p m o,S++[.dic F],0])\/
  (cF ts cs E=none/\ ∃j,xP (mQ 2 (zB (yA 3) (zB (yA 4) yK))) xQ [] (pairs ts cs) (FT lt h ↑2 a b c) (S++[.dic E])=.ok (.ret (.val .non)) (S++[.dic j]))
 |[],cs,E,a,b,c,_,_,_,_=>.inl ⟨E,a,b,c,rfl,rfl⟩
 |t::ts,[],E,a,b,c,_,_,_,_=>.inl ⟨E,a,b,c,rfl,rfl⟩
 |t::ts,d::cs,E,a,b,c,ht,hc,hE,hz=>by
  rw[lC]at hz;have n:mQ 2 (zB (yA 3) (zB (yA 4) yK)) (.tup [t,d]) (FT lt h ↑2 a b c) (S++[.dic E])=.ok _ (S++[.dic E]):=rfl;have k: ∀j:Ev,stay [] (S++[.dic j]):=λj=>dZ _;rcases Lv (ht t mF0) (hc d mF0) hE #[] c with⟨F,e,h1,h2,h3,h4⟩|⟨h1,h4⟩
  .show(∃F p m o,_/\xP _ _ _ (.tup [t,d]::pairs ts cs) _ _=_)\/(_/\ ∃j,xP _ _ _ (.tup [t,d]::pairs ts cs) _ _=_)
   rw[zX n h4 (k F),h1];exact Dz ts cs F (some t) (some d) (some e) (λt i=>ht t (mO _ i)) (λt i=>hc t (mO _ i)) h2 #[]
  .refine .inr ⟨h1 ts cs,E,?_⟩;show xP _ _ _ (.tup [t,d]::pairs ts cs) _ _=_;rw[Jb n h4]
def VG:sY []:=λp h=>by simp at h
theorem Zq{ts cs:C8}(j: ∀t∈ts,gB t)(k: ∀c∈cs,VS c)(hz:ts.length<900):
  zK 2 aQ [#[ts,6],#[cs,6]] S=match cF ts cs []with |some F=>.ok #[S.length,1] (S++[.dic F])|none=>#[.non,S,1]:=by
 have h:fZ [#[ts,3],#[cs,3],none,none,none,none] S=#[FT ts cs ↑2 none none none,S++[.dic []],0]:=by unfold fZ;exists 7,EG
 have e:Na [#[ts,6],#[cs,6]] _=.ok ⟨_,[]⟩ (S++[.dic []]):=rfl;have i:iA (FT ts cs ↑2 none none none) (S++[.dic []])=xP (mQ 2 (zB (yA 3) (zB (yA 4) yK))) xQ [] (pairs ts cs) (FT ts cs ↑2 none none none) (S++[.dic []]):=by unfold iA;exists 7,e
 rcases Dz ts cs [] none none none j k VG (by simp only[ú];lia)with⟨F,a,b,c,h1,h2⟩|⟨h1,E',h2⟩
 .rw[h1];dsimp only;have d:aQ [.tup ts,.tup cs] S=.ok #[↑2,1] (S++[.dic F]):=by show yC (aP [#[ts,3],#[cs,3],none,none,none,none] S)=_;unfold aP;rw[zC h,zC (i.trans h2)];rfl
  exact Dm rfl d
 .rw[h1];dsimp only;have d:aQ [.tup ts,.tup cs] S=#[.non,S++[.dic E'],1]:=by show yC (aP [#[ts,3],#[cs,3],none,none,none,none] S)=_;unfold aP;rw[zC h,mT (i.trans h2)];rfl
  exact ED rfl d (Bn _) (λl=>by simp)
def Uu{l:Nat}(h:S[l]? =#[E,7])(a:sY E):RV [#[l,1]] S=.ok #[↑2,1] (S++[.dic E]):=by unfold RV;dsimp only;rw[BO h a]
noncomputable abbrev D4(m:MV)(n:Nat)(a t:C9):Rho:=[some m,#[n],a,t]
theorem FG{S:Sto}{m:MV}{a:C9}: ∀(b:C8),(∀d∈b,gB d)-> ∀(ks:Ch)(t:C9),ks.length+b.length<100000->
  ∃t',xP (yA 3) gP [] b (D4 m ↑2 a t) (S++[.dic (dT ks)])=#[D4 m ↑2 a t',S++[.dic (dT (xM ks (b.filterMap vn)))],0]
 |[],_,ks,t,_=>⟨t,rfl⟩
 |d::b,hT,ks,t,hl=>by
  rw[lC]at hl;rcases hT d mF0 with⟨x,rfl⟩|⟨v,hv,rfl⟩
  .have i:=FC ks x;obtain⟨t',c⟩:=FG b (λe h=>hT e (mO _ h)) (sW ks x) #[[.str GP,.str x],3] #[];refine⟨t',?_⟩;rw[zX rfl ?_ (dZ _)]
   .rw[Ĭ,AN];exact c
   .unfold gP gO;simp? [Dg,Dh,OZ,LI,Lf (zL S (.dic (dT ks))) #[],bH]
  .obtain⟨t',c⟩:=FG b (λe h=>hT e (mO _ h)) ks #[[.str IS,v],3] #[];refine⟨t',?_⟩;rw[zX rfl ?_ (dZ _)]
   .rw[Ĭ,BN];exact c
   .unfold gP gO;exists 7,Dg,Dh,Df,fT,iF
theorem Ea{S:Sto}{m:MV}{gs:E2}(c: ∀T,stay gs (S++T)): ∀(as:List Rw),(∀b∈as,(∀d∈b.2,gB d)/\b.2.length<=4)-> ∀(ks:Ch)(a t:C9),ks.length+100 * as.length<50000->
  ∃e t',xP (yA 2) gQ gs #[as,9] (D4 m ↑2 a t) (S++[.dic (dT ks)])=#[D4 m ↑2 e t',S++[.dic (dT (xM ks (dX as)))],0]
 |[],_,ks,a,t,_=>⟨a,t,rfl⟩
 |p::ps,h,ks,a,t,hl=>by
  rw[lC]at hl;have i:=h p mF0;have o:=i.2;obtain⟨j,h1⟩:=FG p.2 i.1 ks t #[];have k:gQ (D4 m ↑2 (some (zV p)) t) (S++[.dic (dT ks)])=#[D4 m ↑2 (some (zV p)) j,S++[.dic (dT (xM ks (p.2.filterMap vn)))],0]:=by unfold gQ eO;exists 7,show∀Z,fW (.val (zV p)) #[1,5] Z=.ok _ Z from λ_=>rfl,FB,h1
  have s:=qK (p.2.filterMap vn) ks;have u:(p.2.filterMap vn).length<=p.2.length:=ī _ _;obtain⟨e,t',n⟩:=Ea c ps (λq r=>h q (mO _ r)) (xM ks (p.2.filterMap vn)) (some (zV p)) j #[];refine⟨e,t',?_⟩;rw[å,zX rfl k (c _),n];show _=R.ok _ (S++[.dic (dT (xM ks (p.2.filterMap vn++dX ps)))]);rw[PD]
theorem Zr{as:List Rw}(n:SqM S m #[as,9])(h: ∀b∈as,(∀d∈b.2,gB d)/\b.2.length<=4)(o:as.length<=100):xU [m] S=#[(xM [] (dX as)).map MV.str,S++[.dic (dT (xM [] (dX as)))],2]:=by
 obtain⟨gs,e,hi⟩:=n.itQ;obtain⟨a,t',j⟩:=Ea e as h [] none none (by simp only[ú];lia);have c:nS [some m,none,none,none] S=#[D4 m ↑2 none none,S++[.dic (dT [])],0]:=by unfold nS;exists 7,EG
 have k:nT (D4 m ↑2 none none) (S++[.dic (dT [])])=#[D4 m ↑2 a t',S++[.dic (dT (xM [] (dX as)))],0]:=by unfold nT;exists 7,hi [.dic (dT [])],j
 have i:nU (D4 m ↑2 a t') (S++[.dic (dT (xM [] (dX as)))])=.ok (.ret (.new ((xM [] (dX as)).map MV.str))) (S++[.dic (dT (xM [] (dX as)))]):=by unfold nU;exists 7,Dk (zL S _)
 show yC (mX [some m,none,none,none] S)=_;unfold mX;rw[zC c,zC k,i];rfl
def Zs{as:List Rw}(c:SqM S m #[as,9])(h: ∀b∈as,(∀d∈b.2,gB d)/\b.2.length<=4)(a:as.length<=100):zK 1 xU [.val m] S=#[(xM [] (dX as)).map MV.str,S,2]:=
 tV rfl (Zr c h a) (rC _ _)
theorem Uv{as:List Rw}(h: ∀b∈as,(∀d∈b.2,gB d)/\b.2.length<=4)(a:as.length<=100):zK 1 xU [.new #[as,9]] S=#[(xM [] (dX as)).map MV.str,S,2]:=by refine dA rfl (show zF [.new _] S=([.loc ↑2],S++[.lst _])from rfl) (T:=[.lst #[as,9],.dic (dT (xM [] (dX as)))]) ?_ (.inl rfl) (rC _ _);rw[Zr (.inr ⟨_,rfl,zL _ _⟩) h a,aA];rfl
def rH(E:Ev)(x:Db):MV:=(look E (.str x)).getD .non
theorem fP{x:Db}{d:MV}(h:look E (.str x)=some d):rH E x=d:=by unfold rH;rw[h];rfl
theorem VH{l:Nat}(h:S[l]? =#[E,7])(i:sY E)(n:SqM S m #[xs,8])(o: ∀x∈xs,look E (.str x)≠none)(p:xs.length<1000):zK 2 yG [#[l,1],.val m] S=.ok #[xs.map (rH E),6] S:=by
 obtain⟨gs,b,hi⟩:=n.itQ;have b:=b [];have hi:=hi [];rw[aN]at b hi
 have j: ∀x∈xs, ∃d,look E (.str x)=some d/\VS d:=λx a=>by
  cases z:look E _ with
  |none=>exact absurd z (o x a)
  |some d=>exact⟨d,rfl,LU i z⟩
 have k:yD (yA 0) dG jI [none,#[l]] gs _ S=.ok _ S:=
  lZ (g:=rH E) b λx a=>by obtain⟨d,hd,_⟩:=j x a;refine⟨[#[x,4],some _],rfl,rfl,?_⟩;unfold jI;simp? [Dy h i hd];rw[fP hd]
 have c:pd (.tup (xs.map (rH E)))=true:=by refine bG λd hd=>?_;obtain⟨x,a,rfl⟩:=mM.mp hd;obtain⟨d,hd,e⟩:=j x a;rw[fP hd];exact(qL e).1
 refine lU rfl ?_ (fO c) (λl=>by simp);show yC (iD [some _,some m] S)=_;unfold iD iS;simp? [hi,lM,show xs.length<1000000 by lia];rw[show vE 1 [0] [some _,some m]=[none,some _]from rfl,k];rfl
def IO{n:Nat}{F:List MV->Sto->R Er}{ds:C8}(c:rs.length=n)(b:F (zF rs S).1 (zF rs S).2=#[ds,S++T,2]): ∃a,zK n F rs S=#[ds,S++a,2]/\(a=T\/a=[]/\tF ↑2 ds):=by
 unfold zK;rw[iP c,b];show∃a,kZ S _ _=_/\_;unfold kZ;rw[iP pY];dsimp only;split
 .rename_i h;exact⟨[],by rw[aN,List.take_left'];rfl,.inr ⟨rfl,h⟩⟩
 .exact⟨T,rfl,.inl rfl⟩
def FtO(Z:Sto)(n:Nat)(mk:Int):List MV->List (Option Ev)->Prop
 |[],[]=>True
 |w::ws,some G::gs=>(∃e,w=.tup [.loc e,.int mk]/\n<=e/\Z[e]? =#[G,7])/\FtO Z n mk ws gs
 |w::ws,none::gs=>w=.tup [.non,.int mk]/\FtO Z n mk ws gs
 |_,_=>False
theorem FtO.grow{n:Nat}{mk:Int}: ∀{ws:C8}{gs:List (Option Ev)},FtO Z n mk ws gs->FtO (Z++T) n mk ws gs
 |[],[],_=>trivial
 |w::ws,some G::gs,h=>⟨let ⟨e,a,b,c⟩:=h.1;⟨e,a,b,by rw[á (gS.mp c).1];exact c⟩,FtO.grow h.2⟩
 |w::ws,none::gs,h=>⟨h.1,FtO.grow h.2⟩
 |[],_::_,h=>h.elim
 |_::_,[],h=>h.elim
def Fts(Z:Sto)(n:Nat)(mk:Int):List MV->List Ev->Prop
 |[],[]=>True
 |w::ws,G::gs=>(∃e,w=.tup [.loc e,.int mk]/\n<=e/\Z[e]? =#[G,7])/\Fts Z n mk ws gs
 |_,_=>False
theorem Fts.grow{n:Nat}{mk:Int}: ∀{ws:C8}{gs:List Ev},Fts Z n mk ws gs->Fts (Z++T) n mk ws gs
 |[],[],_=>trivial
 |w::ws,G::gs,h=>⟨let ⟨e,a,b,c⟩:=h.1;⟨e,a,b,by rw[á (gS.mp c).1];exact c⟩,Fts.grow h.2⟩
 |[],_::_,h=>h.elim
 |_::_,[],h=>h.elim
def Fts.len{n:Nat}{mk:Int}: ∀{ws:C8}{gs:List Ev},Fts Z n mk ws gs->ws.length=gs.length
 |[],[],_=>rfl
 |_::_,_::_,h=>by rw[lC,lC,h.2.len]
 |[],_::_,h=>h.elim
 |_::_,[],h=>h.elim
theorem Fts.cut{b:Sto}{n m:Nat}{mk:Int}{ws:C8}{gs:List Ev}(h:Fts Z n mk ws gs)(l:tF m ws)(a:m<=n):Fts b n mk ws gs:=by
 cases ws with
 |nil=>cases gs with
  |nil=>trivial
  |cons G gs=>exact h.elim
 |cons w ws=>cases gs with
  |nil=>exact h.elim
  |cons G gs=>
   obtain⟨⟨e,rfl,h1,_⟩,_⟩:=h;have:=l.1;have:=this.1;unfold lo at this
   lia
section
variable{lr lm n:Nat}{R0 M0:C8}{a:Rw}
theorem LW(p:(∀d∈a.2,gB d)/\a.2.length<=4): ∀(rs:List Rw)(Z:Sto),Z[lr]? =#[R0,2]->Z[lm]? =#[M0,2]->n<=Z.length->(∀r∈rs, ∀c∈r.2,VS c)->
  ∃out T,yD (mQ 2 (zB (yA 0) (zB (yA 1) yK))) jF xA [none,none,some (zV a)] [(lr,R0),(lm,M0)] (pairs #[rs,9] (rs.map λ_=>.int 1)) Z=.ok out (Z++T)/\FtO (Z++T) n 1 out ((rs.filter λr=>decide (r.1=a.1)).map λr=>cF a.2 r.2 [])/\out.length<=rs.length
 |[],Z,_,_,_,_=>⟨[],[],by rw[aN];rfl,trivial,à _⟩
 |r::rs,Z,h1,h2,h3,hv=>by
  have st: ∀{y:Sto},y[lr]? =#[R0,2]->y[lm]? =#[M0,2]->stay [(lr,R0),(lm,M0)] y:=λa b q i=>by
   simp only[mC,nM,or_false]at i;rcases i with rfl|rfl
   .exact a
   .exact b
  have u:mQ 2 (zB (yA 0) (zB (yA 1) yK)) (.tup [zV r,.int 1]) [none,none,some (zV a)] Z=.ok [some (zV r),#[1,0],some (zV a)] Z:=rfl;have B: ∀(q:Rw) Y,fW (.val (zV q)) #[0,5] Y=.ok _ Y:=λ_ _=>rfl;have i1: ∀(q:Rw) Y,fW (.val (zV q)) #[1,5] Y=.ok _ Y:=λ_ _=>rfl;have k:jF [some (zV r),#[1,0],some (zV a)] Z=.ok (decide (r.1=a.1)) Z:=by unfold jF;exists 7,B
  have w:pairs ((r::rs).map zV) ((r::rs).map λ_=>MV.int 1)=.tup [zV r,.int 1]::pairs #[rs,9] _:=rfl;by_cases e:r.1=a.1
  .have m:=Zq (S:=Z) p.1 (hv r mF0) #[];rw[dT0 e]at k
   cases z:cF a.2 r.2 []with
   |none=>
    rw[z]at m;have v:xA [some (zV r),#[1,0],some (zV a)] Z=.ok #[[.non,.int 1],6] Z:=by unfold xA;exists 7,i1,m
    obtain⟨out,T,j,g2,A⟩:=LW p rs Z h1 h2 h3 λq i=>hv q (mO _ i);refine⟨.tup [.non,.int 1]::out,T,?_,?_,by rw[lC,lC];lia⟩
    .rw[w];exact uN u k v (st h1 h2) j
    .rw[List.filter_cons,iP (dT0 e),å,z];exact⟨rfl,g2⟩
   |some G=>
    rw[z]at m;dsimp only at m;have s: ∀{l:Nat}{o:MO},Z[l]? =some o->(Z++[MO.dic G])[l]? =some o:=λh=>by rw[á (gS.mp h).1];exact h
    have v:xA [some (zV r),#[1,0],some (zV a)] Z=.ok #[[.loc Z.length,.int 1],6] (Z++[.dic G]):=by unfold xA;exists 7,i1,m
    obtain⟨out,T,j,g2,A⟩:=LW p rs _ (s h1) (s h2) (by rw[lA];lia) λq i=>hv q (mO _ i);refine⟨.tup [.loc Z.length,.int 1]::out,.dic G::T,?_,?_,by rw[lC,lC];lia⟩
    .rw[w];rw[aA]at j;exact uN u k v (st (s h1) (s h2)) j
    .rw[List.filter_cons,iP (dT0 e),å,z];rw[aA]at g2;exact⟨⟨_,rfl,h3,by simp⟩,g2⟩
  .rw[dF0 e]at k;obtain⟨out,T,j,g2,A⟩:=LW p rs Z h1 h2 h3 λq i=>hv q (mO _ i);refine⟨out,T,?_,?_,by rw[lC];lia⟩
   .rw[w];exact UZ u k (st h1 h2) j
   .rw[List.filter_cons,iN (by simpa using e)];exact g2
theorem SJ{lf:Nat}{all:C8}{Z:Sto}(a:Z[lf]? =#[all,2]): ∀(ws:C8)(gs:List (Option Ev)),FtO Z n 1 ws gs-> ∃out,yD (mQ 2 (zB (yA 0) (zB (yA 1) yK))) xB jG [none,none] [(lf,all)] ws Z=.ok out Z/\Fts Z n 1 out (gs.filterMap id)
 |[],[],_=>⟨[],rfl,trivial⟩
 |w::ws,some G::gs,h=>by
  obtain⟨⟨e,rfl,h1,i⟩,d⟩:=h;obtain⟨out,b,g2⟩:=SJ a ws gs d;refine⟨.tup [.loc e,.int 1]::out,?_,⟨e,rfl,h1,i⟩,g2⟩;have c:xB [#[e],#[1,0]] Z=.ok true Z:=by unfold xB;exists 7,show∀Y,HQ #[e,1] (.val .non) Y=.ok _ Y from λ_=>rfl
  have j:jG [#[e],#[1,0]] Z=.ok #[[.loc e,.int 1],6] Z:=by unfold jG;exists 7,rfl
  exact uN rfl c j (yH a) b
 |w::ws,none::gs,h=>by
  obtain⟨rfl,d⟩:=h;obtain⟨out,b,g2⟩:=SJ a ws gs d;refine⟨out,?_,g2⟩;have c:xB [some .non,#[1,0]] Z=.ok false Z:=by unfold xB;exists 7,show∀Y,HQ (.val .non) (.val .non) Y=.ok _ Y from λ_=>rfl
  exact UZ rfl c (yH a) b
 |[],_::_,h=>h.elim
 |_::_,[],h=>h.elim
end
def bI(rows:List Rw)(a:Rw):List Ev:=(rows.filter λr=>decide (r.1=a.1)).filterMap λr=>cF a.2 r.2 []
theorem Zt{lm:Nat}{a:Rw}(m:S[lr]? =#[rows.map zV,2])(j:S[lm]? =some (.lst (rows.map λ_=>.int 1)))(z: ∀r∈rows, ∀c∈r.2,VS c)(w:rows.length<=1000)(o:(∀d∈a.2,gB d)/\a.2.length<=4):
  ∃T ws,zK 3 lW [#[lr,1],#[lm,1],.val (zV a)] S=#[ws,S++T,2]/\Fts (S++T) ↑2 1 ws (bI rows a):=by
 obtain⟨out,T,v,g2,A⟩:=LW o rows S m j (à _) z;have i:Na [#[lr,1],#[lm,1]] S=.ok ⟨pairs #[rows,9] (rows.map λ_=>.int 1),[(lr,rows.map zV),(lm,rows.map λ_=>.int 1)]⟩ S:=by unfold Na srcOf;dsimp only;rw[m,j];rfl
 have e: ∀(rs:List Rw),(pairs #[rs,9] (rs.map λ_=>MV.int 1)).length=rs.length:=λrs=>by
  induction rs with
  |nil=>rfl
  |cons r rs ih=>show(pairs #[rs,9] _).length+1=_;rw[ih];rfl
 have q:iB [#[lr],#[lm],some (zV a),none] S=#[[#[lr],#[lm],some (zV a),#[(S++T).length]],S++T++[.lst out],0]:=by unfold iB;simp? [i,e,show rows.length<1000000 by lia];rw[show vE 2 [2] [#[lr],#[lm],some (zV a),none]=[none,none,some (zV a)]from rfl,v];simp? []
 have k:=zL (S++T) (.lst out);obtain⟨ws,s,b⟩:=SJ k out _ (FtO.grow g2);have p:iC [#[lr],#[lm],some (zV a),#[(S++T).length]] (S++T++[.lst out])=.ok (.ret (.new ws)) (S++T++[.lst out]):=by unfold iC;simp? [yW k,show out.length<1000000 by lia];rw[show vE 2 [] [#[lr],#[lm],some (zV a),some _]=[none,none]from rfl,s];simp? []
 have h:((rows.filter λr=>decide (r.1=a.1)).map λr=>cF a.2 r.2 []).filterMap id=bI rows a:=by unfold bI;rw[List.filterMap_map];rfl
 rw[h]at b;obtain⟨n,y,u⟩:=IO (F:=lW) (rs:=[#[lr,1],#[lm,1],.val (zV a)]) rfl (by show yC (qU [#[lr],#[lm],some (zV a),none] S)=_;unfold qU;rw[zC q,p,aA];rfl);refine⟨n,ws,y,?_⟩;rcases u with rfl|⟨rfl,hlo⟩
 .rw[<-aA];exact b
 .exact b.cut hlo (à _)
mutual
theorem VI: ∀{d:MV},pd d=true-> ∃a,yZ d=some a/\iR a<=vF d
 |.int i,_=>⟨_,aY i,by rw[iR];exact zero_le _⟩
 |.str x,_=>⟨_,aZ x,by rw[iR];exact zero_le _⟩
 |.tup ds,h=>by obtain⟨b,h1,c⟩:=PJ (by rw[<-xD];exact h:QJ ds=true);exact⟨.tup b,by rw[eC,h1];rfl,by rw[aT,jW];omega⟩
 |.non,h=>by rw[pd]at h<;>first |cases h|(intros;simp)
 |.bl _,h=>by rw[pd]at h<;>first |cases h|(intros;simp)
 |.scr _,h=>by rw[pd]at h<;>first |cases h|(intros;simp)
 |.loc _,h=>by rw[pd]at h<;>first |cases h|(intros;simp)
 |.typ _,h=>by rw[pd]at h<;>first |cases h|(intros;simp)
 |.obj _ _ _,h=>by rw[pd]at h<;>first |cases h|(intros;simp)
theorem PJ: ∀{ds:C8},QJ ds=true-> ∃a,kY ds=some a/\rM a<=AM ds
 |[],_=>⟨[],qQ,by rw[rM];exact zero_le _⟩
 |d::ds,h=>by rw[yB,aE]at h;obtain⟨k,h1,e⟩:=VI h.1;obtain⟨a,b,c⟩:=PJ h.2;exact⟨k::a,by rw[eE,h1,b];rfl,by rw[sG,yU];omega⟩
end
theorem FH{k:C8}(h: ∀d∈k,VS d):keyOk (.tup k)=true:=by
 have h1:pd (.tup k)=true:=by rw[xD];exact bG λd hd=>(qL (h d hd)).1
 have j:=rB λc a=>by rcases h c a with⟨i,rfl⟩|⟨i,rfl⟩;exact le_of_eq (rA _);exact le_of_eq (aI _)
 obtain⟨m,e,b⟩:=VI h1;rw[jW]at b;unfold keyOk;rw[e];show(sM _&&decide _)=true;rw[dT0 #[]];rfl
noncomputable def kd(P:E4):Ev:=P.map λk=>(.tup k,.int 1)
open Classical in
def PK(P:E4)(k:C8):List (List MV):=if k∈P then P else P++[k]
def Lw(P:E4)(k j:C8):j∈PK P k↔j∈P\/j=k:=by
 unfold PK;split
 .rename_i h;exact⟨.inl,λz=>z.elim id λe=>e▸h⟩
 .rw[é,mS]
def Uw{P:E4}(h:P.Nodup)(k:C8):(PK P k).Nodup:=by
 unfold PK;split
 .exact h
 .rename_i d;exact Ĥ.mpr ⟨h,by simp,λa c b e=>by rw[mS.mp e];rintro rfl;exact d c⟩
theorem LX(P:E4)(k:C8):(PK P k).length<=P.length+1:=by
 unfold PK;split
 .lia
 .rw[lA,lS];lia
def VJ(P:E4)(k:C8):look (kd P) (.tup k)=if k∈P then #[1,0]else none:=by
 induction P with
 |nil=>rfl
 |cons j P ih=>
  show look (_::kd P) _=_;rw[yT,ih];by_cases e:j=k
  .subst e;rw[iP rfl,iP mF0]
  .rw[iN (λz=>e (MV.tup.inj z))];by_cases h:k∈P
   .rw[iP h,iP (mO _ h)]
   .rw[iN h,iN λz=>(mC.mp z).elim (λz=>e z.symm) h]
theorem Ux(P:E4)(k:C8):putK (kd P) (.tup k) (.int 1)=kd (PK P k):=by
 unfold putK PK;rw[VJ];by_cases h:k∈P
 .rw[iP h,iP (show(some _).isSome=true from rfl),iP h];unfold kd;rw[Ĳ];refine Ė λj _=>?_;show(if MV.tup j=.tup k then(MV.tup j,MV.int 1)else _)=_;split<;>rfl
 .rw[iN h,iN h];unfold kd;rw[ð];rfl
theorem Eb{l:Nat}{P:E4}(h:S[l]? =#[kd P,7]):bL S #[l,1]=some (l,kd P):=by unfold bL;dsimp only;rw[h];dsimp only;rw[iP];rw[ą];intro p a;obtain⟨r,b,rfl⟩:=mM.mp a;rfl
def kO(xs:Ch)(G:Ev):List MV:=xs.map (rH G)
def VL(xs:Ch)(Gs:List Ev)(P:E4):List (List MV):=Gs.foldl (λP G=>PK P (kO xs G)) P
def Has(xs:Ch)(G:Ev):Prop:=sY G/\ ∀x∈xs,look G (.str x)≠none
def Has.vs{G:Ev}(h:Has xs G): ∀d∈kO xs G,VS d:=λd hd=>by
 obtain⟨x,a,rfl⟩:=mM.mp hd
 cases z:look G _ with
 |none=>exact absurd z (h.2 x a)
 |some c=>rw[fP z];exact LU h.1 z
noncomputable abbrev CU(lf:Nat)(m:MV)(n:Nat)(a b c:C9):Rho:=[#[lf],some m,#[n],a,b,c]
section
variable{B:Sto}{lf n0:Nat}{m:MV}{all:C8}{xs:Ch}
theorem VM(y:B[lf]? =#[all,2])(A:SqM B m #[xs,8])(C:xs.length<1000): ∀(ws:C8)(Gs:List Ev)(P:E4)(a b c:C9),Fts B n0 1 ws Gs->(∀G∈Gs,Has xs G)->P.length+Gs.length<100000->
  ∃r s v,xP (mQ 2 (zB (yA 3) (zB (yA 4) yK))) CZ [(lf,all)] ws (CU lf m B.length a b c) (B++[.dic (kd P)])=#[CU lf m B.length r s v,B++[.dic (kd (VL xs Gs P))],0]
 |[],[],P,a,b,c,_,_,_=>⟨a,b,c,rfl⟩
 |w::ws,G::Gs,P,a,b,c,q,hG,hl=>by
  rw[lC]at hl;obtain⟨⟨e,rfl,_,I⟩,q⟩:=q;have j:=hG G mF0;obtain⟨Z,i⟩: ∃Z,Z=B++[MO.dic (kd P)]:=⟨_,rfl⟩
  have F: ∀{l:Nat}{o:MO},B[l]? =some o->Z[l]? =some o:=λh=>by rw[i,á (gS.mp h).1];exact h
  have hd:Z[B.length]? =#[kd P,7]:=by rw[i];exact zL _ _
  have k:=VH (F I) j.1 (by rw[i];exact A.app) j.2 C;have d:=Eb hd
  have n:uE #[B.length,1] [#[kO xs G,6],#[0,5]] Z=.ok #[if kO xs G∈P then 1 else 0,5] Z:=by
   unfold uE;dsimp only;rw[d];dsimp only;rw[iP (FH j.vs),VJ];by_cases h:kO xs G∈P
   .rw[iP h,iP h]
   .rw[iN h,iN h]
  have z: ∀Y,Ub #[if kO xs G∈P then 1 else 0,5] #[1,5] Y=.ok #[1,5] Y:=λY=>by split<;>rfl
  have u: ∀ρ,HX #[B.length,1] #[kO xs G,6] (.int 1) ρ Z=.ok ρ _:=λρ=>by unfold HX;dsimp only;rw[d];dsimp only;rw[iP ⟨FH j.vs,by unfold kd;rw[lM];lia⟩,Ux,i,bH]
  have p:qB #[B.length,1] Z=true:=by unfold qB;rw[d];rfl
  have J:qV (CU lf m B.length #[e] #[1,0] c) Z=#[CU lf m B.length #[e] #[1,0] #[kO xs G,3],Z,0]:=by unfold qV;exists 7,k
  have E:qW (CU lf m B.length #[e] #[1,0] #[kO xs G,3]) Z=#[CU lf m B.length #[e] #[1,0] #[kO xs G,3],B++[.dic (kd (PK P (kO xs G)))],0]:=by unfold qW;exists 7,p,n,z,LI,u
  have D:=LX P (kO xs G);obtain⟨r,s,v,L⟩:=VM y A C ws Gs (PK P (kO xs G)) #[e] #[1,0] #[kO xs G,3] q (λK H=>hG K (mO _ H)) #[];refine⟨r,s,v,?_⟩;rw[<-i,zX (show mQ 2 _ (.tup [.loc e,.int 1]) (CU lf m B.length a b c) Z=.ok (CU lf m B.length #[e] #[1,0] c) Z from rfl) (by unfold CZ;rw[zC J,E]) (yH (by rw[á (gS.mp y).1];exact y))];exact L
 |[],_::_,_,_,_,_,h,_,_=>h.elim
 |_::_,[],_,_,_,_,h,_,_=>h.elim
end
noncomputable def wI(xs:Ch)(k:C8):Ev:=(xs.map MV.str).zip k
theorem PL: ∀(ps a:Ev),((a++ps).map (·.1)).Nodup->ps.foldl (λa p=>putK a p.1 p.2) a=a++ps
 |[],a,_=>by rw[aN];rfl
 |p::ps,a,h=>by
  have c:look a p.1=none:=by
   cases z:look a p.1 with
   |none=>rfl
   |some d=>
    obtain⟨q,b,e⟩:=Dx z;rw[ð,Ĥ]at h;exact absurd e (h.2.2 q.1 (İ b) p.1 (by rw[å];exact mF0))
  rw[ě,FF c,PL ps _ (by rw[aA];exact h),aA];rfl
def Uy(h:xs.Nodup): ∀k:List MV,((wI xs k).map (·.1)).Nodup:=λk=>by
 have c:(xs.map MV.str).Nodup:=by unfold List.Nodup at h ⊢;rw[pairwise_map];exact h.imp λne e=>ne (MV.str.inj e)
 have: ∀(as bs:C8),as.Nodup->((as.zip bs).map (·.1)).Nodup:=λas=>by
  induction as with
  |nil=>intro bs _;simp
  |cons a as ih=>
   intro bs c
   cases bs with
   |nil=>simp
   |cons b bs=>
    rw[nodup_cons]at c;rw[Ĩ,å,nodup_cons];refine⟨λz=>c.1 ?_,ih bs c.2⟩;obtain⟨p,d,e⟩:=mM.mp z;have:=(of_mem_zip d).1;rw[e]at this;exact this
 exact this _ k c
def Ng{k:C8}(c:SqM Z m #[xs,8])(h:xs.Nodup):Ug [.val m,#[k,6]] Z=.ok #[Z.length,1] (Z++[.dic (wI xs k)]):=by
 have b:(xs.map MV.str).all sT=true:=by rw[ą];intro d hd;obtain⟨x,_,rfl⟩:=mM.mp hd;rfl
 have a:Cd ((xs.map MV.str).zip k)=wI xs k:=by have:=PL _ [] (by rw[ģ];exact Uy h k);exact this
 unfold Ug;rcases c with rfl|⟨l,rfl,hl⟩
 .show(if(xs.map MV.str).all sT=true then R.ok _ _ else .no)=_;rw[iP b,a]
 .have e:srcOf Z #[l,1]=some ⟨true,xs.map MV.str,[(l,xs.map MV.str)]⟩:=by unfold srcOf;dsimp only;rw[hl]
  dsimp only;rw[e];show(if(xs.map MV.str).all sT=true then R.ok _ _ else .no)=_;rw[iP b,a]
theorem PM{m:MV}{xs:Ch}{n:Nat}(c:xs.Nodup): ∀(P:E4)(Z:Sto),SqM Z m #[xs,8]->n<=Z.length-> ∃out T,yD (mQ 2 (zB (yA 0) (zB (yA 1) yK))) AG lX [none,none,some m] [] ((kd P).map λb=>.tup [b.1,b.2]) Z=.ok out (Z++T)/\Fts (Z++T) n 1 out (P.map (wI xs))
 |[],Z,_,_=>⟨[],[],by rw[aN];rfl,trivial⟩
 |k::P,Z,hm,hl=>by
  have d:lX [#[k,3],#[1,0],some m] Z=.ok #[[.loc Z.length,.int 1],6] (Z++[.dic (wI xs k)]):=by unfold lX;exists 7,Ng hm c
  obtain⟨out,T,a,g2⟩:=PM (n:=n) c P (Z++[.dic _]) hm.app (by rw[lA];lia);refine⟨.tup [.loc Z.length,.int 1]::out,.dic (wI xs k)::T,?_,⟨_,rfl,hl,by simp⟩,by rw[aA]at g2;exact g2⟩;rw[aA]at a;exact uN rfl rfl d (dZ _) a
def pI(xs:Ch)(Gs:List Ev):List Ev:=(VL xs Gs []).map (wI xs)
theorem Zu{lf n0:Nat}{ws:C8}(j:B[lf]? =#[ws,2])(o:SqM B m #[xs,8])(z:xs.length<1000)(s:xs.Nodup)(q:Fts B n0 1 ws Gs)(r: ∀G∈Gs,Has xs G)(C:Gs.length<10000):
  ∃out T,IK [.loc lf,m] B=#[out,B++T,2]/\Fts (B++T) B.length 1 out (pI xs Gs):=by
 have u:DA [#[lf],some m,none,none,none,none] B=#[CU lf m B.length none none none,B++[.dic (kd [])],0]:=by unfold DA;exists 7,EG
 obtain⟨a,b,c,h⟩:=VM j o z ws Gs [] none none none q r (by simp only[ú];lia);have i:(B++[MO.dic (kd [])])[lf]? =#[ws,2]:=by rw[á (gS.mp j).1];exact j
 have p:DB (CU lf m B.length none none none) (B++[.dic (kd [])])=#[CU lf m B.length a b c,B++[.dic (kd (VL xs Gs []))],0]:=by unfold DB;exists 7,yW i,h
 obtain⟨P,e⟩: ∃P,P=VL xs Gs []:=⟨_,rfl⟩
 rw[<-e]at p
 have w:P.length<=Gs.length:=by
  rw[e]
  have: ∀(Gs:List Ev)(P:E4),(VL xs Gs P).length<=P.length+Gs.length:=λGs=>by
   induction Gs with
   |nil=>intro P;exact à _
   |cons G Gs ih=>
    intro P;have h1:=ih (PK P (kO xs G));have A:=LX P (kO xs G);show(VL xs Gs (PK P (kO xs G))).length<=_;rw[lC]
    lia
  have:=this Gs [];rw[ú]at this
  lia
 have d:YL #[B.length,1] (B++[.dic (kd P)])=.ok ⟨(kd P).map λk=>.tup [k.1,k.2],[]⟩ (B++[.fdc (kd P)]):=by unfold YL;rw[Eb (zL B (.dic (kd P)))];dsimp only;rw[bH]
 obtain⟨out,T,v,g2⟩:=PM (n:=B.length) s P (B++[.fdc (kd P)]) o.app (by simp);refine⟨out,_,?_,by rw[pI, <-e];rw[aA]at g2;exact g2⟩;have y:DC (CU lf m B.length a b c) (B++[.dic (kd P)])=.ok (.ret (.new out)) (B++.fdc (kd P)::T):=by unfold DC;simp? [d,lM,show(kd P).length<1000000 by unfold kd;rw[lM];lia];rw[show vE 2 [1] _=[none,none,some m]from rfl,v];simp? [];rw[aA];rfl
 show yC (US [#[lf],some m,none,none,none,none] B)=_;unfold US;rw[zC u,zC p,y];rfl
def Uz{l m:Nat}{F:Ev}(h:S[l]? =#[E,7])(c:sY E)(h':S[m]? =#[F,7])(b:sY F)(a:l≠m)(hz:E.length+F.length<1000000):EU #[l,1] [#[m,1]] S=#[.non,S.set l (.dic (wU E F)),1]:=by unfold EU;dsimp only;rw[BO h c,BO h' b];dsimp only;rw[iP ⟨a,hz⟩]
abbrev OD:=MV×Ev
open Classical in
def VN(xs:Ch)(Ds:List OD)(k:C8):List OD:=Ds.filter λD=>decide (kO xs D.2=k)
def mE(xs:Ch)(Ds:List OD)(D:OD)(k:C8):VN xs (Ds++[D]) k=if kO xs D.2=k then VN xs Ds k++[D]else VN xs Ds k:=by
 unfold VN;rw[List.filter_append,List.filter_cons];by_cases e:kO xs D.2=k
 .rw[iP (dT0 e),iP e];rfl
 .rw[iN (by simpa using e),iN e,List.filter_nil,aN]
structure JI(B:Sto)(xs:Ch)(Ds:List OD)(bd:Ev)(Z:Sto):Prop where
 ex: ∃T,Z=B++.dic bd::T
 at': ∀k d,look bd (.tup k)=some d-> ∃l,d=.loc l/\B.length<l/\Z[l]? =#[(VN xs Ds k).map (·.1),2]
 no: ∀k,look bd (.tup k)=none->VN xs Ds k=[]
 inj: ∀k k' l,look bd (.tup k)=#[l]->look bd (.tup k')=#[l]->k=k'
 tk:bd.all (λp=>sM p.1)=true
 ln:bd.length<=Ds.length
section
variable{B Z:Sto}{xs:Ch}{Ds:List OD}{bd:Ev}
def JI.dic(J:JI B xs Ds bd Z):bL Z #[B.length,1]=some (B.length,bd):=by obtain⟨T,rfl⟩:=J.ex;unfold bL;dsimp only;rw[lL];dsimp only;rw[iP J.tk]
def JI.old(J:JI B xs Ds bd Z){l:Nat}(h:B[l]? =some o):Z[l]? =some o:=by obtain⟨T,rfl⟩:=J.ex;rw[á (gS.mp h).1];exact h
theorem JI.put(J:JI B xs Ds bd Z)(D:OD)(U: ∀d∈kO xs D.2,VS d)(Y:Ds.length<10000):
  ∃K S l Z1 ds,Vv #[B.length,1] [#[kO xs D.2,6],.new []] Z=.ok #[l,1] Z1/\Z1[l]? =#[ds,2]/\ds.length<=Ds.length/\Z1.set l (.lst (ds++[D.1]))=S/\JI B xs (Ds++[D]) K S:=by
 obtain⟨k,b⟩: ∃k,k=kO xs D.2:=⟨_,rfl⟩
 have w:keyOk (.tup k)=true:=by rw[b];exact FH U
 have X:=J;obtain⟨T,u⟩:=J.ex;have N:wQ (.new []) Z=.ok (.loc Z.length) (Z++[.lst []]):=rfl;have L:bL (Z++[.lst []]) #[B.length,1]=some (B.length,bd):=by unfold bL;dsimp only;rw[u,aA,Į,lL];dsimp only;rw[iP J.tk]
 have W:=J.ln;have c:Vv #[B.length,1] [#[k,6],.new []] Z=match look bd (.tup k)with |some d=>#[d,Z++[.lst []],1]|none=>.ok #[Z.length,1] ((Z++[MO.lst []]).set B.length (.dic (putK bd (.tup k) (.loc Z.length)))):=by unfold Vv;dsimp only;rw[N,bK];unfold Yq;rw[L];dsimp only;refine(iP ⟨w,by lia⟩).trans ?_;cases look bd (.tup k)<;>rfl
 have m: ∀{j:Nat}{o:MO},Z[j]? =some o->j<Z.length:=λh=>(gS.mp h).1;have H: ∀j,(VN xs Ds j).length<=Ds.length:=λj=>ċ _ _;rw[<-b]
 cases z:look bd (.tup k)with
 |some d=>
  rw[z]at c;obtain⟨l,rfl,h1,E⟩:=J.at' k d z;have C:=m E;refine⟨bd,_,l,_,_,c,by rw[á C];exact E,by rw[lM];exact H k,rfl,?_,λj d a=>?_,λj a=>?_,J.inj,J.tk,by rw[lA];lia⟩
  .refine⟨(T++[MO.lst []]).set (l - B.length - 1) (.lst ((VN xs Ds k).map (·.1)++[D.1])),?_⟩;rw[u,aA,ğ _ _ #[],Į,show l - B.length=(l - B.length - 1)+1 by lia,set_cons_succ];rfl
  .obtain⟨v,rfl,G,g2⟩:=J.at' j d a;refine⟨v,rfl,G,?_⟩;by_cases e:j=k
   .subst e;rw[z]at a;cases a;rw[get_set (by rw[á C];exact E),mE,iP b.symm,ð];rfl
   .have M:l≠v:=λq=>e (J.inj j k v a (q▸z));rw[sU M,á (m g2),g2,mE,iN (λq=>e (q.symm.trans b.symm))]
  .rw[mE,iN (λq=>by rw[<-b]at q;rw[<-q,z]at a;cases a)];exact J.no j a
 |none=>
  rw[z]at c;dsimp only at c;have F:putK bd (.tup k) (.loc Z.length)=bd++[(.tup k,.loc Z.length)]:=FF z;have O:B.length<Z.length:=by rw[u];simp
  have I: ∀q,(Z++[MO.lst []]).set B.length q=B++q::(T++[MO.lst []]):=λq=>by rw[u,aA,Į,ğ _ _ (à _),sub_self];rfl
  rw[F,I]at c;have s:Z.length=B.length+(T.length+1):=by rw[u,lA,lC]
  have y:(B++MO.dic (bd++[(.tup k,.loc Z.length)])::(T++[.lst []]))[Z.length]? =#[[],2]:=by rw[s,æ #[],show B.length+(T.length+1) - B.length=T.length+1 by lia,ē,zL]
  have p:(B++MO.dic (bd++[(.tup k,.loc Z.length)])::(T++[.lst []])).set Z.length (.lst ([]++[D.1]))=B++.dic (bd++[(.tup k,.loc Z.length)])::(T++[.lst [D.1]]):=by rw[s,ğ _ _ #[],show B.length+(T.length+1) - B.length=T.length+1 by lia,set_cons_succ,bH];rfl
  have n: ∀j,look (bd++[(MV.tup k,MV.loc Z.length)]) (.tup j)=(look bd (.tup j)).or (if k=j then #[Z.length]else none):=λj=>by
   rw[aR];congr 1;by_cases e:k=j
   .rw[iP e,iP (by rw[e])]
   .rw[iN e,iN λq=>e (MV.tup.inj q)]
  have r: ∀{j:Nat}{o:MO},Z[j]? =some o->B.length<j->(B++MO.dic (bd++[(.tup k,.loc Z.length)])::(T++[.lst [D.1]]))[j]? =some o:=λ{j o} h a=>by have:=m h;rw[u,æ #[],show j - B.length=(j - B.length - 1)+1 by lia,ē]at h;rw[æ #[],show j - B.length=(j - B.length - 1)+1 by lia,ē,á (gS.mp h).1];exact h
  refine⟨_,_,Z.length,_,[],c,y,zero_le _,p,⟨_,rfl⟩,λj d a=>?_,λj a=>?_,λj Q l h1 E=>?_,by rw[List.all_append,J.tk];rfl,by rw[lA,lA];simp;lia⟩
  .rw[n]at a
   cases A:look bd (.tup j)with
   |some d'=>
    rw[A]at a;cases a;obtain⟨v,rfl,G,g2⟩:=J.at' j _ A;have P: ¬k=j:=λq=>by rw[q,A]at z;cases z
    refine⟨v,rfl,G,?_⟩;rw[r g2 G,mE,iN (by rw[<-b];exact P)]
   |none=>
    rw[A,Option.none_or]at a;by_cases e:k=j
    .rw[iP e]at a;cases a;refine⟨_,rfl,O,?_⟩;rw[mE,iP (by rw[<-b];exact e),J.no j A,s,æ #[],show B.length+(T.length+1) - B.length=T.length+1 by lia,ē,zL];rfl
    .rw[iN e]at a;cases a
  .rw[n]at a;rw[mE, <-b,iN (λe=>by grind)];exact J.no j (by grind)
  .rw[n]at h1 E;have lt: ∀{i:C8},look bd (.tup i)=#[l]->l<Z.length:=λh=>by obtain⟨v,e,G,g2⟩:=J.at' _ _ h;cases e;exact m g2
   have:=J.inj j Q l;have:=@lt j;have:=@lt Q;clear lt m J X U w y p r c I n H
   grind
end
theorem Fts.move{d:Sto}{n:Nat}{mk:Int}(k: ∀(e:Nat)(G:Ev),Z[e]? =some (MO.dic G)->d[e]? =some (MO.dic G)): ∀{ws:C8}{gs:List Ev},Fts Z n mk ws gs->Fts d n mk ws gs
 |[],[],_=>trivial
 |w::ws,G::gs,h=>⟨let ⟨e,a,b,c⟩:=h.1;⟨e,a,b,k e G c⟩,Fts.move k h.2⟩
 |[],_::_,h=>h.elim
 |_::_,[],h=>h.elim
theorem Fts.snoc{n:Nat}{mk:Int}{e:Nat}{G:Ev}(h1:n<=e)(a:Z[e]? =#[G,7]): ∀{ws:C8}{gs:List Ev},Fts Z n mk ws gs->Fts Z n mk (ws++[.tup [.loc e,.int mk]]) (gs++[G])
 |[],[],_=>⟨⟨e,rfl,h1,a⟩,trivial⟩
 |w::ws,G::gs,h=>⟨h.1,Fts.snoc h1 a h.2⟩
 |[],_::_,h=>h.elim
 |_::_,[],h=>h.elim
noncomputable abbrev IP(lf lo':Nat)(m:MV)(n:Nat)(a b:C9)(t v k c:C9):Rho:=[#[lf],#[lo'],some m,#[n],a,b,t,v,k,c]
section
variable{B:Sto}{lf lo' n0:Nat}{m:MV}{all:C8}{xs:Ch}
theorem Ec(ho:B[lo']? =#[all,2])(s:SqM B m #[xs,8])(y:xs.length<1000): ∀(ws:C8)(d:List Ev)(Ds:List OD)(bd:Ev)(Z:Sto)(a b:C9),Fts B n0 1 ws d->(∀M∈d,Has xs M)->JI B xs Ds bd Z->Ds.length+d.length<10000->
  ∃c j F L,JI B xs (Ds++ws.zip d) c j/\xP (mQ 2 (zB (yA 4) (zB (yA 5) yK))) eP [(lo',all)] ws (IP lf lo' m B.length a b none none none none) Z=#[IP lf lo' m B.length F L none none none none,j,0]
 |[],[],Ds,bd,Z,a,b,_,_,J,_=>⟨bd,Z,a,b,by rw[zip_nil_left,aN];exact J,rfl⟩
 |w::ws,M::d,Ds,bd,Z,a,b,r,hM,J,hl=>by
  rw[lC]at hl;obtain⟨⟨e,rfl,_,I⟩,r⟩:=r;have q:=hM M mF0
  have o:SqM Z m #[xs,8]:=by
   rcases s with h|⟨l,h,h'⟩
   .exact .inl h
   .exact .inr ⟨l,h,J.old h'⟩
  have k:=VH (J.old I) q.1 o q.2 y;obtain⟨c,j,l,Z1,ds,p1,p2,N,C,v⟩:=J.put (.tup [.loc e,.int 1],M) q.vs #[];have p:qB #[B.length,1] Z=true:=by unfold qB;rw[J.dic];rfl
  have i:zK 2 yG [.val _,.val m] Z=.ok #[kO xs M,6] Z:=k;have E:eP (IP lf lo' m B.length #[e] #[1,0] none none none none) Z=#[IP lf lo' m B.length #[e] #[1,0] none none none none,j,0]:=by unfold eP mY;simp? [p,i,p1,yN p2,tup2,xX p2 #[]];rw[C]
  obtain⟨n,D,z,A,u,G⟩:=Ec ho s y ws d _ c j _ _ r (λK H=>hM K (mO _ H)) v (by rw[lA,lS];lia);refine⟨n,D,z,A,by rw[aA]at u;exact u,?_⟩;rw[zX rfl E (yH (v.old ho))];exact G
 |[],_::_,_,_,_,_,_,h,_,_,_=>h.elim
 |_::_,[],_,_,_,_,_,h,_,_,_=>h.elim
end
section
variable{Z1:Sto}{lf lo' nb eG:Nat}{m:MV}{mg:Int}{G:Ev}
theorem Nh(hG:Z1[eG]? =#[G,7])(n:sY G)(K:G.length<=1000)(d: ∀Y,BF #[mg,5] #[1,5] Y=.ok #[1,5] Y){gs:E2}(y: ∀q∈gs,Z1[q.1]? =#[q.2,2]): ∀(s:List OD)(ws:C8)(u:List Ev)(T:Sto)(a b c:C9),(∀D∈s, ∃e,D.1=.tup [.loc e,.int 1]/\Z1[e]? =#[D.2,7]/\sY D.2/\D.2.length<=1000)->Fts (Z1++.lst ws::T) Z1.length 1 ws u->ws.length+s.length<100000->
  ∃k A L S X,Fts (Z1++.lst k::A) Z1.length 1 k (u++s.map λD=>wU G D.2)/\k.length=ws.length+s.length/\xP (mQ 2 (zB (yA 4) (zB (yA 5) yK))) eQ gs (s.map (·.1)) (IP lf lo' m nb a b #[Z1.length] #[eG] #[mg,0] c) (Z1++.lst ws::T)=#[IP lf lo' m nb L S #[Z1.length] #[eG] #[mg,0] X,(Z1++.lst k::A),0]
 |[],ws,u,T,a,b,c,_,hF,_=>⟨ws,T,a,b,c,by rw[List.map_nil,aN];exact hF,rfl,rfl⟩
 |D::s,ws,u,T,a,b,c,hD,hF,hl=>by
  rw[lC]at hl;obtain⟨e,he,hM,P,ae⟩:=hD D mF0;obtain⟨Z,B⟩: ∃Z,Z=Z1++MO.lst ws::T:=⟨_,rfl⟩
  have M: ∀{U:Sto}{l:Nat}{o:MO},Z1[l]? =some o->(Z1++U)[l]? =some o:=λh=>by rw[á (gS.mp h).1];exact h
  obtain⟨N,hN⟩: ∃N,N=Z.length:=⟨_,rfl⟩
  have v:N=Z1.length+(T.length+1):=by rw[hN,B,lA,lC]
  have aa:N≠e:=by have:=(gS.mp hM).1;lia
  have ab:Z++[MO.dic G]=Z1++.lst ws::(T++[.dic G]):=by rw[B,aA];rfl
  have r: ∀(vs:C8)(E:Ev),(Z1++MO.lst vs::(T++[.dic E]))[N]? =#[E,7]:=λvs E=>by rw[v,æ #[],show Z1.length+(T.length+1) - Z1.length=T.length+1 by lia,ē,zL]
  have J: ∀(vs:C8)(E O:Ev),(Z1++MO.lst vs::(T++[.dic E])).set N (.dic O)=Z1++MO.lst vs::(T++[.dic O]):=λvs E O=>by rw[v,ğ _ _ #[],show Z1.length+(T.length+1) - Z1.length=T.length+1 by lia,set_cons_succ,bH]
  have w:RV [#[eG,1]] Z=.ok #[N,1] (Z1++.lst ws::(T++[.dic G])):=by rw[Uu (by rw[B];exact M hG) n,ab,hN]
  have H:EU #[N,1] [#[e,1]] (Z1++.lst ws::(T++[.dic G]))=#[.non,(Z1++.lst ws::(T++[.dic (wU G D.2)])),1]:=by rw[Uz (r ws G) n (M hM) P aa #[],J]
  have Q:RU #[N,1] (Z1++.lst ws::(T++[.dic G]))=true:=LV (r ws G) n;have z: ∀(vs:C8)(U:Sto),(Z1++MO.lst vs::U)[Z1.length]? =#[vs,2]:=λvs U=>lL _ _ _;have W:aW #[Z1.length,1] [#[[.loc N,.int 1],6]] (Z1++.lst ws::(T++[.dic (wU G D.2)]))=#[.non,(Z1++.lst (ws++[.tup [.loc N,.int 1]])::(T++[.dic (wU G D.2)])),1]:=by rw[xX (z _ _) (show ws.length<1000000 by lia),UX]
  have hb:eQ (IP lf lo' m nb #[e] #[1,0] #[Z1.length] #[eG] #[mg,0] c) Z=#[IP lf lo' m nb #[e] #[1,0] #[Z1.length] #[eG] #[mg,0] #[N],(Z1++.lst (ws++[.tup [.loc N,.int 1]])::(T++[.dic (wU G D.2)])),0]:=by unfold eQ mZ;unfold iJ;rw[show bJ (dJ BF (vJ 8) (vJ 5)) DY (IP lf lo' m nb #[e] #[1,0] #[Z1.length] #[eG] #[mg,0] c) Z=.ok true Z by simp? [d];rfl,bK,iP rfl];rw[zC (F:=CJ _ 9) (S':=Z1++.lst ws::(T++[.dic G])) (by exists 7,w)];rw[zC (F:=BJ _) (S':=Z1++.lst ws::(T++[.dic (wU G D.2)])) (by exists 7,Q,H)];exists 7,yN (z ws (T++[.dic (wU G D.2)])),d,W
  have C:Fts (Z1++.lst (ws++[.tup [.loc N,.int 1]])::(T++[.dic (wU G D.2)])) Z1.length 1 (ws++[.tup [.loc N,.int 1]]) (u++[wU G D.2]):=by
   refine Fts.snoc #[] (r _ _) (hF.move λj E p=>?_);by_cases e1:j<Z1.length
   .rw[á e1]at p ⊢; exact p
   .rw[æ #[]]at p ⊢
    cases q:j - Z1.length with
    |zero=>rw[q]at p;cases p
    |succ i=>
     rw[q,ē]at p;rw[ē,á (gS.mp p).1];exact p
  obtain⟨k,A,L,S,X,g1,g2,g3⟩:=Nh hG n K d y s (ws++[.tup [.loc N,.int 1]]) (u++[wU G D.2]) (T++[.dic (wU G D.2)]) #[e] #[1,0] #[N] (λq I=>hD q (mO _ I)) C (by rw[lA,lS];lia);refine⟨k,A,L,S,X,by rw[aA]at g1;exact g1,by rw[g2,lA,lS,lC];lia,?_⟩;rw[å,he, <-B,zX rfl hb (λq I=>M (y q I))];exact g3
end
def joinM(xs:Ch)(Gs:List Ev)(Ds:List OD):List Ev:=Gs.flatMap λG=>(VN xs Ds (kO xs G)).map λD=>wU G D.2
section
variable{B Z1:Sto}{lf lo' n0:Nat}{m:MV}{mg:Int}{all:C8}{xs:Ch}{Ds:List OD}{bd:Ev}
theorem Ed(J:JI B xs Ds bd Z1)(y: ∀D∈Ds, ∃e,D.1=.tup [.loc e,.int 1]/\B[e]? =#[D.2,7]/\sY D.2/\D.2.length<=1000)(P:Ds.length<=1000)(Q:B[lf]? =#[all,2])(hm:SqM B m #[xs,8])(hx:xs.length<1000)(i: ∀Y,BF #[mg,5] #[1,5] Y=.ok #[1,5] Y):
  ∀(ws:C8)(Gs:List Ev),Fts B n0 mg ws Gs->(∀G∈Gs,Has xs G/\G.length<=1000)-> ∀(ts:C8)(n:List Ev)(T:Sto)(a b v k c:C9),Fts (Z1++.lst ts::T) Z1.length 1 ts n->ts.length+Ds.length * Gs.length<50000->
  ∃j T' a' b' v' k' c',Fts (Z1++.lst j::T') Z1.length 1 j (n++joinM xs Gs Ds)/\xP (mQ 2 (zB (yA 7) (zB (yA 8) yK))) eR [(lf,all)] ws (IP lf lo' m B.length a b #[Z1.length] v k c) (Z1++.lst ts::T)=#[IP lf lo' m B.length a' b' #[Z1.length] v' k' c',(Z1++.lst j::T'),0]
 |[],[],_,_,ts,n,T,a,b,v,k,c,hF,_=>⟨ts,T,a,b,v,k,c,by show Fts _ _ _ _ (n++[]);rw[aN];exact hF,rfl⟩
 |w::ws,G::Gs,F,hG,ts,n,T,a,b,v,k,c,hF,hl=>by
  rw[lC,Nat.mul_succ]at hl;obtain⟨⟨e,rfl,_,he⟩,F⟩:=F;obtain⟨C,O⟩:=hG G mF0;obtain⟨Z,I⟩: ∃Z,Z=Z1++MO.lst ts::T:=⟨_,rfl⟩
  have A: ∀{l:Nat}{o:MO},Z1[l]? =some o->Z[l]? =some o:=λh=>by rw[I,á (gS.mp h).1];exact h
  have N:SqM Z m #[xs,8]:=by
   rcases hm with h|⟨l,h,h'⟩
   .exact .inl h
   .exact .inr ⟨l,h,A (J.old h')⟩
  have E:zK 2 yG [#[e,1],.val m] Z=.ok #[kO xs G,6] Z:=VH (A (J.old he)) C.1 N C.2 hx;have s:Z[B.length]? =#[bd,7]:=by refine A ?_;obtain⟨T0,h0⟩:=J.ex;rw[h0];exact lL _ _ _
  have p:bL Z #[B.length,1]=some (B.length,bd):=by unfold bL;dsimp only;rw[s];dsimp only;rw[iP J.tk]
  have H:qB #[B.length,1] Z=true:=by unfold qB;rw[p];rfl
  have M: ∃r gs,uE #[B.length,1] [#[kO xs G,6],.new []] Z=.ok r Z/\vM r Z=.ok ⟨(VN xs Ds (kO xs G)).map (·.1),gs⟩ Z/\ ∀q∈gs,Z1[q.1]? =#[q.2,2]:=by
   unfold uE;dsimp only;rw[p];dsimp only;rw[iP (FH C.vs)]
   cases z:look bd _ with
   |none=>
    refine⟨_,[],rfl,?_,by simp⟩;rw[J.no _ z];rfl
   |some d=>
    obtain⟨l,rfl,h1,h2⟩:=J.at' _ _ z;exact⟨_,_,rfl,yW (A h2),λq hq=>by rw[mS.mp hq];exact h2⟩
  obtain⟨r,gs,d1,d2,d3⟩:=M;have aa:(VN xs Ds (kO xs G)).length<=Ds.length:=ċ _ _;obtain⟨u,U,S,X,W,g1,g2,g3⟩:=Nh (J.old he) C.1 O i d3 (VN xs Ds (kO xs G)) ts n T a b c (λD hD=>by obtain⟨e',x1,x2,x3⟩:=y D (Ě.mp hD).1;exact⟨e',x1,J.old x2,x3⟩) hF #[];have hb:eR (IP lf lo' m B.length a b #[Z1.length] #[e] #[mg,0] c) Z=#[IP lf lo' m B.length S X #[Z1.length] #[e] #[mg,0] W,(Z1++.lst u::U),0]:=by unfold eR oA;simp? [H,E,d1,d2];rw[I];exact g3
  obtain⟨L,T2,a2,b2,v2,k2,c2,f1,f2⟩:=Ed J y P Q hm hx i ws Gs F (λK hK=>hG K (mO _ hK)) u _ U S X #[e] #[mg,0] W g1 #[];refine⟨L,T2,a2,b2,v2,k2,c2,by rw[aA]at f1;exact f1,?_⟩;rw[<-I,zX rfl hb (yH (by rw[á (gS.mp (J.old Q)).1];exact J.old Q))];exact f2
 |[],_::_,h,_,_,_,_,_,_,_,_,_,_,_=>h.elim
 |_::_,[],h,_,_,_,_,_,_,_,_,_,_,_=>h.elim
end
theorem LY{B:Sto}{n:Nat}{mk:Int}: ∀{ws:C8}{b:List Ev},Fts B n mk ws b-> ∀D∈ws.zip b,D.2∈b/\ ∃e,D.1=.tup [.loc e,.int mk]/\B[e]? =#[D.2,7]
 |[],[],_=>λD h=>by simp at h
 |w::ws,M::b,h=>λD d=>by
  rcases mC.mp d with rfl|d
  .obtain⟨e,a,_,c⟩:=h.1;exact⟨mF0,e,a,c⟩
  .obtain⟨x,y⟩:=LY h.2 D d;exact⟨mO _ x,y⟩
 |[],_::_,h=>h.elim
 |_::_,[],h=>h.elim
theorem jn_f{lf lo' n0 Q:Nat}{mg:Int}{fs i:C8}{c:List Ev}(r:B[lf]? =#[fs,2])(ho:B[lo']? =#[i,2])(s:SqM B m #[xs,8])(C:xs.length<1000)(L:Fts B n0 mg fs Gs)(A:Fts B Q 1 i c)(E: ∀G∈Gs,Has xs G/\G.length<=1000)(p: ∀M∈c,Has xs M/\M.length<=1000)(Z:c.length<=1000)(o:c.length * Gs.length<50000)
  (hband: ∀Y,BF #[mg,5] #[1,5] Y=.ok #[1,5] Y):
  ∃l T ts,qD [.loc lf,.loc lo',m] B=.ok #[l,1] (B++T)/\B.length<l/\(B++T)[l]? =#[ts,2]/\Fts (B++T) l 1 ts (joinM xs Gs (i.zip c)):=by
 have S:oB [#[lf],#[lo'],some m,none,none,none,none,none,none,none] B=#[IP lf lo' m B.length none none none none none none,B++[.dic []],0]:=by unfold oB;exists 7,EG
 have w:JI B xs [] [] (B++[.dic []]):=⟨⟨[],rfl⟩,(λk d h=>by cases h),(λk _=>rfl),(λk v l h=>by cases h),rfl,à _⟩
 obtain⟨bd,Z1,a,b,J,e⟩:=Ec ho s C i c [] [] (B++[.dic []]) none none A (λM h=>(p M h).1) w (by simp only[ú];lia);rw[ģ]at J;have P:oC (IP lf lo' m B.length none none none none none none) (B++[.dic []])=#[IP lf lo' m B.length a b none none none none,Z1,0]:=by unfold oC;exists 7,yW (w.old ho),e
 have F:oD (IP lf lo' m B.length a b none none none none) Z1=#[IP lf lo' m B.length a b #[Z1.length] none none none,(Z1++.lst []::[]),0]:=by unfold oD;exists 7,rfl
 have j:(i.zip c).length<=c.length:=by rw[Ļ];lia
 obtain⟨ts,T,O,W,H,v,X,U,g2⟩:=Ed J (λD K=>by obtain⟨x,e,y,z⟩:=LY A D K;exact⟨e,y,z,(p _ x).1.1,(p _ x).2⟩) #[] r s C hband fs Gs L E [] [] [] a b none none none trivial (by rw[ú,Ă];exact ň (Nat.mul_le_mul_right _ j) o);have n:(Z1++[MO.lst []])[lf]? =#[fs,2]:=by rw[á (gS.mp (J.old r)).1];exact J.old r
 have I:oE (IP lf lo' m B.length a b #[Z1.length] none none none) (Z1++.lst []::[])=#[IP lf lo' m B.length O W #[Z1.length] H v X,(Z1++.lst ts::T),0]:=by unfold oE;exists 7,yW n,g2
 obtain⟨N,u⟩:=J.ex;have q:Z1++MO.lst ts::T=B++(.dic bd::N++.lst ts::T):=by rw[u,aA]
 refine⟨Z1.length,_,ts,?_,by rw[u];simp,by rw[<-q];exact lL _ _ _,by rw[<-q];exact U⟩;show yC (uF [#[lf],#[lo'],some m,none,none,none,none,none,none,none] B)=_;unfold uF;rw[zC S,zC P,zC F,zC I, <-q];rfl
def SK(σ:List Nat->MV)(t:MV):MV:=match vn t with |some x=>σ x|none=>isv t
def uR(σ:List Nat->MV)(x:Db):SK σ (.tup [.str GP,.str x])=σ x:=by unfold SK;rw[AN]
theorem FK(σ:List Nat->MV)(v:MV):SK σ (.tup [.str IS,v])=v:=by unfold SK;rw[BN];rfl
theorem rE: ∀(ts cs:C8)(F G:Ev),cF ts cs F=some G->ts.length=cs.length->(∀t∈ts,gB t)->(∀x d,look F (.str x)=some d->look G (.str x)=some d)/\cs=ts.map (SK (rH G))
 |[],[],F,G,h,_,_=>by cases h;exact⟨λ_ _ z=>z,rfl⟩
 |[],_::_,_,_,_,hl,_=>by simp at hl
 |_::_,[],_,_,_,hl,_=>by simp at hl
 |t::ts,c::cs,F,G,h,hl,hT=>by
  have b:=by simpa using hl
  have a:=λu k=>hT u (mO _ k);rcases hT t mF0 with⟨x,rfl⟩|⟨v,hv,rfl⟩
  .rw[uQ]at h
   cases z:look F _ with
   |none=>
    rw[z]at h;obtain⟨h1,i⟩:=rE ts cs _ G h b a;have m:look G _=some c:=h1 x c (by rw[aR,z,Option.none_or,iP rfl]);refine⟨λy d j=>h1 y d (by rw[aR,j];rfl),?_⟩;rw[å,uR,fP m, <-i]
   |some d=>
    rw[z]at h;dsimp only at h;split at h
    .rename_i e;subst e;obtain⟨h1,i⟩:=rE ts cs F G h b a;exact⟨h1,by rw[å,uR,fP (h1 x d z), <-i]⟩
    .cases h
  .rw[LT]at h;split at h
   .rename_i e;obtain⟨h1,i⟩:=rE ts cs F G h b a;exact⟨h1,by rw[å,FK,e, <-i]⟩
   .cases h
theorem uT(σ:List Nat->MV): ∀(ts:C8)(F:Ev),(∀x d,look F (.str x)=some d->d=σ x)->(∀t∈ts,gB t)-> ∃G,cF ts (ts.map (SK σ)) F=some G/\ ∀x d,look G (.str x)=some d->d=σ x
 |[],F,hF,_=>⟨F,rfl,hF⟩
 |t::ts,F,hF,hT=>by
  have a:=λu h=>hT u (mO _ h);rcases hT t mF0 with⟨x,rfl⟩|⟨v,hv,rfl⟩
  .rw[å,uR,uQ]
   cases z:look F _ with
   |none=>
    refine uT σ ts _ (λy d b=>?_) a;rw[aR]at b
    cases c:look F _ with
    |some d'=>rw[c]at b;cases b;exact hF y _ c
    |none=>
     rw[c]at b;split at b
     .rename_i e;cases b;cases e;rfl
     .cases b
   |some d=>
    dsimp only;rw[iP (hF x d z)];exact uT σ ts F hF a
  .rw[å,FK,LT,iP rfl];exact uT σ ts F hF a
def Mt(rows:List Rw)(a:Rw)(σ:List Nat->MV):Prop:=(a.1,a.2.map (SK σ))∈rows
theorem Ee{a:Rw}(e: ∀t∈a.2,gB t)(hw: ∀r∈rows,r.1=a.1->a.2.length=r.2.length){G:Ev}(h:G∈bI rows a):Mt rows a (rH G)/\(∀t∈a.2, ∀x,vn t=some x->look G (.str x)≠none):=by obtain⟨r,b,d⟩:=mem_filterMap.mp h;obtain⟨b,c⟩:=Ě.mp b;have c:=Ę c;have j:=hw r b c;obtain⟨_,i⟩:=rE _ _ _ _ d j e;refine⟨?_,(VE _ _ _ _ d #[]).2⟩;unfold Mt;rw[<-i, <-c];exact b
def Ef{a:Rw}(b: ∀t∈a.2,gB t)(h:Mt rows a σ): ∃G∈bI rows a, ∀x d,look G (.str x)=some d->d=σ x:=by obtain⟨G,h1,c⟩:=uT σ a.2 [] (λx d z=>by cases z) b;exact⟨G,mem_filterMap.mpr ⟨_,Ě.mpr ⟨h,dT0 rfl⟩,h1⟩,c⟩
theorem ZC(x:Db)(xs:Ch)(d:MV)(k:C8):wI (x::xs) (d::k)=(.str x,d)::wI xs k:=rfl
theorem mG(f:List Nat->MV): ∀(xs:Ch)(x:Db),look (wI xs (xs.map f)) (.str x)=if x∈xs then some (f x)else none
 |[],x=>rfl
 |y::xs,x=>by
  rw[å,ZC,yT,mG f xs x];by_cases e:y=x
  .subst e;rw[iP rfl,iP mF0]
  .rw[iN (λz=>e (MV.str.inj z))];by_cases h:x∈xs
   .rw[iP h,iP (mO _ h)]
   .rw[iN h,iN λz=>(mC.mp z).elim (λz=>e z.symm) h]
def DI{G:Ev}{x:Db}(h:x∈xs):rH (wI xs (kO xs G)) x=rH G x:=fP (by unfold kO;rw[mG,iP h])
def LZ{G:Ev}(h:Has xs G):sY (wI xs (kO xs G))/\ ∀x,look (wI xs (kO xs G)) (.str x)≠none↔x∈xs:=by
 refine⟨λp b=>?_,λx=>?_⟩
 .have a:_∈(xs.map MV.str).zip _:=b;obtain⟨h1,c⟩:=of_mem_zip a;obtain⟨x,_,e⟩:=mM.mp h1;exact⟨⟨x,e.symm⟩,h.vs _ c⟩
 .unfold kO;rw[mG];by_cases e:x∈xs
  .rw[iP e];exact⟨λ_=>e,λ_ z=>by cases z⟩
  .rw[iN e];exact⟨λz=>absurd rfl z,λz=>absurd z e⟩
theorem uU(xs:Ch): ∀(Gs:List Ev)(P:E4)(k:C8),k∈VL xs Gs P↔k∈P\/ ∃G∈Gs,k=kO xs G
 |[],P,k=>⟨.inl,λh=>h.elim id λ⟨G,h,_⟩=>by simp at h⟩
 |G::Gs,P,k=>by
  show k∈VL xs Gs _↔_;rw[uU xs Gs,Lw];constructor
  .rintro((h|h)|⟨K,a,h⟩)
   .exact .inl h
   .exact .inr ⟨G,mF0,h⟩
   .exact .inr ⟨K,mO _ a,h⟩
  .rintro(h|⟨K,a,h⟩)
   .exact .inl (.inl h)
   .rcases mC.mp a with rfl|a
    .exact .inl (.inr h)
    .exact .inr ⟨K,a,h⟩
def iQ:E∈pI xs Gs↔ ∃G∈Gs,E=wI xs (kO xs G):=by
 unfold pI;rw[mM];constructor
 .rintro⟨k,b,rfl⟩;rcases (uU xs Gs [] k).mp b with h|⟨G,a,rfl⟩
  .simp at h
  .exact⟨G,a,rfl⟩
 .rintro⟨G,a,rfl⟩;exact⟨_,(uU xs Gs [] _).mpr (.inr ⟨G,a,rfl⟩),rfl⟩
theorem PN(E:Ev)(k d j:MV):look (putK E k d) j=if k=j then some d else look E j:=by
 unfold putK;split
 .rename_i hs
  have q: ∀E:Ev, ¬k=j->look (E.map λp=>if p.1=k then(p.1,d)else p) j=look E j:=λE q=>by
   induction E with
   |nil=>rfl
   |cons p E ih=>rw[å,yT,yT];grind
  induction E with
  |nil=>cases hs
  |cons p E ih=>
   rw[å,yT,yT];rw[yT]at hs
   grind
 .rw[aR];cases z:look E j<;>grind
theorem IQ: ∀(M G:Ev)(x:Db),(∀p∈M, ∀d,look G p.1=some d->p.2=d)->(∀p∈M, ∀q∈M,p.1=q.1->p.2=q.2)->look (wU G M) (.str x)=(look G (.str x)).or (look M (.str x))
 |[],G,x,_,_=>by show look G _=_;cases look G _<;>rfl
 |p::M,G,x,h1,h2=>by
  show look (wU _ M) _=_;rw[IQ M _ x (λq a d hd=>?_) (λq a r b=>h2 q (mO _ a) r (mO _ b)),PN,yT]
  .by_cases e:p.1=.str x
   .rw[iP e,iP e]
    cases z:look G _ with
    |none=>rfl
    |some d=>rw[h1 p mF0 d (by rw[e];exact z)];rfl
   .rw[iN e,iN e]
  .rw[PN]at hd;split at hd
   .rename_i e;cases hd;exact(h2 p mF0 q (mO _ a) e).symm
   .exact h1 q (mO _ a) d hd
def PQ{Ds:List OD}:E∈joinM xs Gs Ds↔ ∃G∈Gs, ∃D∈Ds,kO xs D.2=kO xs G/\E=wU G D.2:=by
 unfold joinM;rw[mem_flatMap];constructor
 .rintro⟨G,a,h⟩;obtain⟨D,b,rfl⟩:=mM.mp h;obtain⟨h1,c⟩:=Ě.mp b;exact⟨G,a,D,h1,Ę c,rfl⟩
 .rintro⟨G,a,D,b,h,rfl⟩;exact⟨G,a,mM.mpr ⟨D,Ě.mpr ⟨b,dT0 h⟩,rfl⟩⟩
def Lx{τ:List Nat->MV}{t:MV}(h: ∀x,vn t=some x->σ x=τ x):SK σ t=SK τ t:=by
 unfold SK
 cases z:vn t with
 |none=>rfl
 |some x=>exact h x z
def Eg{a:Rw}{τ:List Nat->MV}(h: ∀t∈a.2, ∀x,vn t=some x->σ x=τ x)(m:Mt rows a σ):Mt rows a τ:=by unfold Mt at *;rw[<-Ė λt b=>Lx (h t b)];exact m
def MA{f:List Nat->MV}{p:MV×MV}(h:p∈wI xs (xs.map f)): ∃x∈xs,p=(.str x,f x):=by
 induction xs with
 |nil=>exact absurd h (by simp[wI])
 |cons y xs ih=>
  rcases mC.mp h with rfl|h
  .exact⟨y,mF0,rfl⟩
  .obtain⟨x,a,e⟩:=ih h;exact⟨x,mO _ a,e⟩
def Ly(h:sY E){p:MV×MV}(c:(∃x,p.1=.str x)/\VS p.2):sY (putK E p.1 p.2):=by
 unfold putK;split
 .intro q a;obtain⟨r,b,rfl⟩:=mM.mp a;split
  .exact⟨(h r b).1,c.2⟩
  .exact h r b
 .intro q a;rcases é.mp a with a|a
  .exact h q a
  .rw[mS.mp a];exact c
theorem PR: ∀(M G:Ev),sY G->sY M->sY (wU G M)
 |[],G,h,_=>h
 |p::M,G,h,hM=>PR M _ (Ly h (hM p mF0)) λq a=>hM q (mO _ a)
structure FI(rows done:List Rw)(kn:Ch)(Gs:List Ev):Prop where
 dom: ∀G∈Gs,sY G/\ ∀x,look G (.str x)≠none↔x∈kn
 snd: ∀G∈Gs, ∃σ,(∀b∈done,Mt rows b σ)/\ ∀x∈kn,rH G x=σ x
 cmp: ∀σ,(∀b∈done,Mt rows b σ)-> ∃G∈Gs, ∀x∈kn,rH G x=σ x
section
variable{rows done:List Rw}{a:Rw}{kn own sh ow kn':Ch}{ask:List Nat->Prop}
def Eh{G F:Ev}(k:sY G/\ ∀x,look G (.str x)≠none↔x∈kn)(s:Has own F)(c: ∀x,x∈sh↔x∈own/\x∈kn)(b: ∀x,x∈ow↔x∈own/\(x∈sh\/ask x))(C: ∀x,x∈kn'↔(x∈kn\/x∈own)/\ask x)(w:kO sh (wI ow (kO ow F))=kO sh G):
  (∀x∈sh,rH F x=rH G x)/\(∀x∈kn,rH (wU G (wI ow (kO ow F))) x=rH G x)/\(∀x∈ow,rH (wU G (wI ow (kO ow F))) x=rH F x)/\Has kn' (wU G (wI ow (kO ow F))):=by
 have o:Has ow F:=⟨s.1,λx a=>s.2 x ((b x).mp a).1⟩
 have hs: ∀x∈sh,rH F x=rH G x:=λx a=>by
  have h1:rH (wI ow (kO ow F)) x=rH G x:=by unfold kO at w;exact List.map_inj_left.mp w x a
  rw[DI ((b x).mpr ⟨((c x).mp a).1,.inl a⟩)]at h1;exact h1
 have i: ∀{E:Ev}{x:Db},look E _≠none->look E _=some (rH E x):=λ{E x} h=>by
  cases z:look E _ with
  |none=>exact absurd z h
  |some d=>rw[fP z]
 have j: ∀x,look (wU G (wI ow (kO ow F))) _=(look G _).or _:=λx=>by
  refine IQ _ _ x (λp r d hd=>?_) λp r q H e=>?_
  .obtain⟨y,v,rfl⟩:=MA r;have n:y∈kn:=(k.2 y).mp (by rw[hd];simp);have m:y∈sh:=(c y).mpr ⟨((b y).mp v).1,n⟩;show rH F y=d;rw[hs y m];exact fP hd
  .obtain⟨y,v,rfl⟩:=MA r;obtain⟨z,I,rfl⟩:=MA H;cases e;rfl
 have h1: ∀x∈kn,look _ _=some _:=λx a=>by rw[j,i ((k.2 x).mpr a)];rfl
 have u: ∀x∈ow,look _ _=some (rH F x):=λx a=>by
  by_cases e:x∈kn
  .rw[h1 x e,hs x ((c x).mpr ⟨((b x).mp a).1,e⟩)]
  .have B:look G (.str x)=none:=by
    cases z:look G _ with
    |none=>rfl
    |some d=>exact absurd ((k.2 x).mp (by rw[z];simp)) e
   rw[j,B,Option.none_or];unfold kO;rw[mG,iP a]
 refine⟨hs,λx a=>fP (h1 x a),λx a=>fP (u x a),PR _ _ k.1 (LZ o).1,λx a=>?_⟩;obtain⟨A,D⟩:=(C x).mp a;by_cases e:x∈kn
 .rw[h1 x e];simp
 .rw[u x ((b x).mpr ⟨A.resolve_left e,.inr D⟩)];simp
def PV(i: ∀t∈a.2,gB t)(hw: ∀r∈rows,r.1=a.1->a.2.length=r.2.length)(m: ∀r∈rows, ∀c∈r.2,VS c)(b: ∀x,x∈own↔ ∃t∈a.2,vn t=some x){F:Ev}(d:F∈bI rows a):Mt rows a (rH F)/\Has own F:=by obtain⟨h1,j⟩:=Ee i hw d;obtain⟨r,o,n⟩:=mem_filterMap.mp d;exact⟨h1,DH _ _ _ _ n (λp h=>by simp at h) (m r (Ě.mp o).1),λx q=>by obtain⟨t,k,e⟩:=(b x).mp q;exact j t k x e⟩
def Lz{Ds:List OD}(I:FI rows done kn Gs)(Q: ∀t∈a.2,gB t)(hw: ∀r∈rows,r.1=a.1->a.2.length=r.2.length)(X: ∀r∈rows, ∀c∈r.2,VS c)(s: ∀x,x∈own↔ ∃t∈a.2,vn t=some x)(k: ∀x,x∈sh↔x∈own/\x∈kn)(n: ∀x,x∈ow↔x∈own/\(x∈sh\/ask x))(C: ∀x,x∈kn'↔(x∈kn\/x∈own)/\ask x)
  (hdn: ∀b∈done, ∀t∈b.2, ∀x,vn t=some x->x∈own->x∈kn) (hDs: ∀M,M∈pI ow (bI rows a)↔ ∃D∈Ds,D.2=M):(∀K∈joinM sh Gs Ds,Has kn' K)/\FI rows (done++[a]) kn' (pI kn' (joinM sh Gs Ds)):=by
 have h: ∀F∈bI rows a,Mt rows a (rH F)/\Has own F:=λF j=>PV Q hw X s j;have un: ∀K∈joinM sh Gs Ds, ∃G∈Gs, ∃F∈bI rows a,kO sh (wI ow (kO ow F))=kO sh G/\K=wU G (wI ow (kO ow F)):=λK u=>by obtain⟨G,m,D,L,e,rfl⟩:=PQ.mp u;obtain⟨F,j,y⟩:=iQ.mp ((hDs D.2).mpr ⟨D,L,rfl⟩);exact⟨G,m,F,j,by rw[<-y];exact e,by rw[y]⟩
 have o: ∀{G F:Ev},G∈Gs->F∈bI rows a->kO sh _=kO sh G-> ∀{σ:List Nat->MV},(∀x∈kn,rH G x=σ x)->(∀x∈own,rH F x=σ x)-> ∀x∈kn',rH _ x=σ x:=λ{G F} m j e {σ} H g2 x i=>by
  obtain⟨N,W,o3,_⟩:=Eh (I.dom G m) (h F j).2 k n C e;rw[DI i];obtain⟨h3,Y⟩:=(C x).mp i;by_cases q:x∈kn
  .rw[W x q,H x q]
  .have w:=h3.resolve_left q;rw[o3 x ((n x).mpr ⟨w,.inr Y⟩),g2 x w]
 have A: ∀K∈joinM sh Gs Ds,Has kn' K:=λK u=>by obtain⟨G,m,F,j,e,rfl⟩:=un K u;exact(Eh (I.dom G m) (h F j).2 k n C e).2.2.2
 refine⟨A,λE O=>?_,λE O=>?_,λσ v=>?_⟩
 .obtain⟨K,u,rfl⟩:=iQ.mp O;exact LZ (A K u)
 .obtain⟨K,u,rfl⟩:=iQ.mp O;obtain⟨G,m,F,j,e,rfl⟩:=un K u;obtain⟨N,_,_,_⟩:=Eh (I.dom G m) (h F j).2 k n C e;obtain⟨P,s1,U⟩:=I.snd G m
  classical
  refine⟨λx=>if x∈own then rH F x else P x,λb p=>?_,o m j e (λx i=>?_) λx i=>by rw[iP i]⟩
  .rcases é.mp p with p|p
   .refine Eg (λt J x i=>?_) (s1 b p);by_cases q:x∈own
    .have B:=hdn b p t J x i q;rw[iP q,N x ((k x).mpr ⟨q,B⟩),U x B]
    .rw[iN q]
   .rw[mS.mp p];exact Eg (λt J x i=>by rw[iP ((s x).mpr ⟨t,J,i⟩)]) (h F j).1
  .by_cases q:x∈own
   .rw[iP q,N x ((k x).mpr ⟨q,i⟩)]
   .rw[iN q];exact U x i
 .obtain⟨G,m,H⟩:=I.cmp σ λb p=>v b (ă _ p);obtain⟨F,j,f1⟩:=Ef Q (v a (ó _ mF0))
  have T: ∀x∈own,rH F x=σ x:=λx i=>by
   cases z:look F (.str x)with
   |none=>exact absurd z ((h F j).2.2 x i)
   |some d=>rw[fP z];exact f1 x d z
  have e:kO sh (wI ow (kO ow F))=kO sh G:=by show sh.map _=sh.map (rH G);refine Ė λx i=>?_;obtain⟨S,Z⟩:=(k x).mp i;rw[DI ((n x).mpr ⟨S,.inl i⟩),T x S,H x Z]
  obtain⟨D,L,y⟩:=(hDs _).mp (iQ.mpr ⟨F,j,rfl⟩);exact⟨_,iQ.mpr ⟨_,PQ.mpr ⟨G,m,D,L,by rw[y];exact e,rfl⟩,rfl⟩,by rw[y];exact o m j e H T⟩
end
noncomputable def rk:MV->MV
 |.str x=>.tup [.int 1,.int 0,.str x]
 |d=>.tup [.int 0,d,.str []]
noncomputable def cd:MV->List Int
 |.int i=>[0,i]
 |.str x=>1::x.map Int.ofNat
 |_=>[]
abbrev QK(t:C8):List (List Int):=t.map cd
theorem Ei: ∀(x y:Db),x.map Int.ofNat<y.map Int.ofNat↔x<y
 |_,[]=>by simp
 |[],_::_=>by simp
 |a::x,b::y=>by rw[å,å,cons_lt_cons_iff,cons_lt_cons_iff,Ei x y];simp;grind
def Ej{d e:MV}(hd:VS d)(a:VS e)(h:cd d=cd e):d=e:=by
 rcases hd with⟨i,rfl⟩|⟨x,rfl⟩<;>rcases a with⟨j,rfl⟩|⟨y,rfl⟩<;>simp[cd]at h
 .rw[h]
 .rw[(List.map_inj_right (λ_ _ e=>Int.ofNat.inj e)).mp h]
theorem VO: ∀{a b:C8},(∀d∈a,VS d)->(∀d∈b,VS d)->QK a=QK b->a=b
 |[],[],_,_,_=>rfl
 |[],_::_,_,_,h=>by cases h
 |_::_,[],_,_,h=>by cases h
 |d::a,e::b,ha,hb,h=>by
  injection h with h1 h2
  rw[Ej (ha d mF0) (hb e mF0) h1,VO (λx c=>ha x (mO _ c)) (λx c=>hb x (mO _ c)) h2]
def IR{d:MV}(h:VS d):pd (rk d)=true/\vF (rk d)<=1/\gM (rk d)=true:=by rcases h with⟨i,rfl⟩|⟨x,rfl⟩<;>simp[rk,pd,QJ,vF,AM,gM,uB]
def Va{d e:MV}(hd:VS d)(a:VS e):rk d=rk e↔d=e:=by rcases hd with⟨i,rfl⟩|⟨x,rfl⟩<;>rcases a with⟨j,rfl⟩|⟨y,rfl⟩<;>simp[rk]
def Zv{d e:MV}(hd:VS d)(a:VS e)(n:Nat):BD S (n+2) (rk d) (rk e)=some (decide (cd d<cd e)):=by
 rcases hd with⟨i,rfl⟩|⟨x,rfl⟩<;>rcases a with⟨j,rfl⟩|⟨y,rfl⟩<;>simp[rk,cd,BD,vO,JX,tX,cons_lt_cons_iff,Ei]
 .by_cases h:i=j<;>simp[h]
 .by_cases h:x=y<;>simp[h]
theorem Ek{S:Sto}(n:Nat): ∀{a b:C8},(∀d∈a,VS d)->(∀d∈b,VS d)->vO (eqv S (n+2)) (BD S (n+2)) (a.map rk) (b.map rk)=some (decide (QK a<QK b))
 |[],[],_,_=>by simp[vO]
 |[],_::_,_,_=>by simp[vO]
 |_::_,[],_,_=>by simp[vO]
 |d::a,e::b,ha,hb=>by
  have h1:=ha d mF0;have c:=hb e mF0;have i:=Ek (S:=S) n (λx h=>ha x (mO _ h)) (λx h=>hb x (mO _ h));rw[å,å];unfold vO;rw[fN _ (IR h1).1 (IR c).1 (by have:=(IR h1).2.1;lia)];show _=_;rw[i,Zv h1 c];show _=some _;by_cases q:d=e
  .subst q;simp[cons_lt_cons_iff]
  .have: ¬cd d=cd e:=λz=>q (Ej h1 c z);simp[Va h1 c,q,cons_lt_cons_iff,this]
def klt{a b:C8}(c: ∀d∈a,VS d)(e: ∀d∈b,VS d):BD S zH (.tup (a.map rk)) (.tup (b.map rk))=some (decide (QK a<QK b)):=Ek 37 c e
def dB(T:E4):List (List MV):=T.mergeSort λa b=>decide (QK a<=QK b)
def xN(T:E4):(dB T).Perm T:=List.mergeSort_perm _ _
def MB(T:E4):(dB T).Pairwise λa b=>QK a<=QK b:=by have:=List.pairwise_mergeSort (le:=λa b:List MV=>decide (QK a<=QK b)) (λa b c h1 d=>dT0 (List.le_trans (Ę h1) (Ę d))) (λa b=>by rw[Bool.or_eq_true,decide_eq_true_iff,decide_eq_true_iff];exact List.le_total _ _) T;exact this.imp λh=>Ę h
def IT{T R:E4}(c: ∀t∈T, ∀d∈t,VS d)(p:R.Perm T)(q:R.Pairwise λa b=>QK a<=QK b):R=dB T:=
 List.Perm.eq_of_pairwise (λa b e h h1 i=>VO (c a (p.mem_iff.mp e)) (c b ((xN T).mem_iff.mp h)) (List.le_antisymm h1 i)) q (MB T) (p.trans (xN T).symm)
def FL{β:Type}(T:List β):(List.range T.length).filterMap (T[·]?)=T:=by
 induction T with
 |nil=>rfl
 |cons t T ih=>rw[lC,List.range_succ_eq_map,Ĭ];simp[Function.comp_def,ih]
theorem VR{l:Bool}{Fd:List MV->Sto->R Er}{w:Nat}{T:E4}(n: ∀t∈T, ∀d∈t,VS d)(hw: ∀t∈T,t.length=w)(N:T.length<128){p:Er}(Q:jD S p=some (T.map .tup))(call: ∀t∈T,zK 1 Fd [#[t,6]] S=.ok (YR l (.tup (t.map rk))) S):
  BH l Fd [p] S=#[(dB T).map .tup,S,2]:=by
 have mem: ∀k∈T.map (λt=>MV.tup (t.map rk)), ∃t∈T,k=.tup (t.map rk):=λk F=>by obtain⟨t,h1,r⟩:=mM.mp F;exact⟨t,h1,r.symm⟩
 have at': ∀{f:List MV->MV}{m:Nat}{k:MV},(T.map f)[m]? =some k-> ∃t,T[m]? =some t/\t∈T/\k=f t:=λh=>by rw[ö]at h;obtain⟨t,h1,r⟩:=Option.map_eq_some_iff.mp h;exact⟨t,h1,è h1,r.symm⟩
 have ok:SrtOkX l Fd S (T.map .tup) (T.map λt=>.tup (t.map rk)) (decide (0<w)):=by
  refine⟨by rw[lM];exact N,by rw[lM,lM],λm d kd h1 r=>?_,λd hd=>?_,λd hd=>?_,⟨λa C b B=>?_,λa C b B c E h1 r=>?_,λa C b B h1=>?_⟩⟩
  .obtain⟨t,z,o,rfl⟩:=at' h1;obtain⟨u,H,_,rfl⟩:=at' r;rw[z]at H;cases H;exact call t o
  .obtain⟨t,o,rfl⟩:=mem d hd;unfold gM;have: ∀ds:List MV,(∀d∈ds,gM d=true)->uB ds=true:=λds=>by induction ds<;>simp_all [uB]
   exact this _ λx U=>by obtain⟨y,O,rfl⟩:=mM.mp U;exact(IR (n t o y O)).2.2
  .obtain⟨t,o,rfl⟩:=mem d hd;unfold Fk;split
   .exact⟨_,rfl⟩
   .have h1:=hw t o
    cases t with
    |nil=>rw[<-h1];exact .e
    |cons x t=>
     rw[dT0 (by rw[<-h1,lC];lia),å];rcases n _ o x mF0 with⟨i,rfl⟩|⟨y,rfl⟩
     .exact .t _ _
     .exact .t _ _
  .obtain⟨t,o,rfl⟩:=mem a C;obtain⟨u,A,rfl⟩:=mem b B;exact⟨_,klt (n t o) (n u A)⟩
  .obtain⟨t,o,rfl⟩:=mem a C;obtain⟨u,A,rfl⟩:=mem b B;obtain⟨v,G,rfl⟩:=mem c E;rw[klt (n _ A) (n _ o)]at h1;rw[klt (n _ G) (n _ A)]at r;rw[klt (n _ G) (n _ o)];have h1:=of_decide_eq_false (ä h1);have r:=of_decide_eq_false (ä r);rw[dF0 (List.not_lt.mpr (List.le_trans (List.not_lt.mp h1) (List.not_lt.mp r)))]
  .obtain⟨t,o,rfl⟩:=mem a C;obtain⟨u,A,rfl⟩:=mem b B;rw[klt (n _ o) (n _ A)]at h1;rw[klt (n _ A) (n _ o),dF0 (List.not_lt.mpr (List.le_of_lt (Ę (ä h1))))]
 refine Kw Q ok (λW h=>?_) ?_ (λM Y D=>?_)
 .obtain⟨idx,p,q,rfl⟩:=h;rw[lM]at p;rw[<-IT (R:=idx.filterMap (T[·]?)) n (by have:=p.filterMap (T[·]?);rwa [FL]at this) (by rw[List.pairwise_filterMap];refine q.imp λ{i j} h b B c E=>?_;have h':=h (.tup (b.map rk)) (.tup (c.map rk)) (by rw[ö,B];rfl) (by rw[ö,E];rfl);rw[klt (n c (è E)) (n b (è B))]at h';exact List.not_lt.mp (of_decide_eq_false (ä h'))),List.map_filterMap];congr 1;funext i;rw[ö]
 .obtain⟨idx,K,J⟩:=HZ (xN T).symm (g:=λi=>(T[i]?).getD []) _ (by rw[EQ λi hi=>mem_range.mp hi,FL]);have P: ∀i,i∈idx->i<T.length:=λi hi=>mem_range.mp (K.mem_iff.mp hi);refine⟨idx,by rw[lM];exact K,?_,?_⟩
  .have I:=MB T;rw[<-J,pairwise_map]at I;refine List.Pairwise.imp_of_mem (λ{i j} hi X h a c C E=>?_) I;obtain⟨t,z,o,rfl⟩:=at' C;obtain⟨u,H,A,rfl⟩:=at' E;rw[z,H]at h;rw[klt (n u A) (n t o),dF0 (List.not_lt.mpr (show QK t<=QK u from h))]
  .rw[<-J,EQ P,List.map_filterMap];congr 1;funext i;rw[ö]
 .refine List.ext_getElem (by rw[D.kl,lM,lM]) λm h1 r=>?_;rw[lM]at r;have s:=D.call m (.tup T[m]) _ (by rw[ö,gE r];rfl) (gE h1);rw[call _ (getElem_mem r)]at s;injection s with s _
  have F:=D.kind _ (getElem_mem h1);rw[List.getElem_map];unfold Fk at F;unfold YR at s;split at F
  .rename_i e;obtain⟨es,L⟩:=F;rw[iP e,iP e,L]at s;rw[L];injection s with s
   rw[s]
  .rename_i e;rw[iN e,iN e]at s;injection s with s
   exact s.symm
theorem Vb{d:MV}(h:VS d)(S:Sto):zK 1 nI [.val d] S=#[rk d,S,1]:=by
 have h1:=(IR h).1;rcases h with⟨i,rfl⟩|⟨x,rfl⟩
 .refine lU rfl ?_ (fO h1) (λl=>by simp[rk]);show yC _=_;unfold nH;rw[zC (by unfold gN;simp? [bK];rfl)];unfold eI;rfl
 .refine lU rfl ?_ (fO h1) (λl=>by simp[rk]);show yC _=_;unfold nH;rw[mT (by unfold gN;simp? [bK];rfl)];rfl
def El{t:C8}(h: ∀d∈t,VS d):QJ (t.map rk)=true:=bG λe a=>by obtain⟨d,hd,rfl⟩:=mM.mp a;exact(IR (h d hd)).1
theorem Ma{t:C8}(h: ∀d∈t,VS d)(b:t.length<1000)(S:Sto):zK 1 nO [#[t,6]] S=.ok #[t.map rk,6] S:=by
 refine lU rfl ?_ (RK (LL (El h))) (λl=>by simp);have a:yD (yA 0) bT kR [none] [] t S=.ok (t.map rk) S:=NW (dZ S) λd hd=>by refine⟨_,rfl,rfl,?_⟩;unfold kR;simp? [Vb (h d hd)]
 show yC (nN [some _] S)=_;unfold nN eK;simp? [FB,show t.length<1000000 by lia];rw[show vE 1 [] [some _]=[none]from rfl,a];rfl
theorem Em{t:C8}(h: ∀d∈t,VS d)(c:t.length<1000)(S:Sto):zK 1 aD [#[t,6]] S=#[t.map rk,S,2]:=by
 have lp: ∀(u:C8)(ks:C8)(x:C9),(∀d∈u,VS d)->ks.length+u.length<2000-> ∃y,xP (yA 2) bC [] u [#[t,3],some _,x] (S++[.lst ks])=#[[#[t,3],#[↑2],y],S++[.lst (ks++u.map rk)],0]:=λu=>by
  induction u with
  |nil=>exact λks x _ _=>⟨x,by rw[List.map_nil,aN];rfl⟩
  |cons d u ih=>
   intro ks x b c;rw[lC]at c;obtain⟨y,a⟩:=ih (ks++[rk d]) (some d) (λe j=>b e (mO _ j)) (by simp;lia);refine⟨y,?_⟩;have hs:=zL S (.lst ks);rw[zX rfl ?_ (dZ _),a,aA]
   .rfl
   .unfold bC cA;rcases b d mF0 with⟨i,rfl⟩|⟨z,rfl⟩
    .simp? [yN hs,xX hs #[],bH];rfl
    .simp? [yN hs,xX hs #[],bH];rfl
 obtain⟨y,a⟩:=lp t [] none h (by simp;lia);refine tW (T:=[.lst (t.map rk)]) rfl ?_ (à _) (by simp) (LL (El h));show yC (aC [#[t,3],none,none] S)=_;unfold aC;rw[zC (show bD [#[t,3],none,none] S=#[[#[t,3],#[↑2],none],S++[.lst []],0] by unfold bD;exists 7,rfl),zC (by unfold fA;simp? [FB];exact a)];unfold fB;exists 7,rfl
theorem Mb{ds:C8}{d:MV}:tE (ds++[d]) (-1)=some d:=by
 unfold tE
 have:JD (ds++[d]).length (-1)=some ds.length:=by
  unfold JD;simp
  lia
 rw[this];simp
theorem fQ{t:C8}(h: ∀d∈t,VS d):pd (.tup t)=true/\vF (.tup t)<3:=by
 refine⟨by rw[xD];exact bG λd hd=>(qL (h d hd)).1,?_⟩;rw[jW];have:AM t<=0:=rB λd hd=>by rcases h d hd with⟨i,rfl⟩|⟨x,rfl⟩<;>simp[vF]
 lia
theorem PX{m:Nat}{a:C9}: ∀(L O:E4)(S:Sto)(x:C9),S[m]? =#[O.map .tup,2]->(O++L).Nodup->(∀t∈O++L, ∀d∈t,VS d)->O.length+L.length<1000->
  ∃y,xP (yA 2) nP [] (L.map .tup) [a,#[m],x] S=#[[a,#[m],y],S.set m (.lst ((O++L).map .tup)),0]
 |[],O,S,x,hS,_,_,_=>⟨x,by obtain⟨h1,i⟩:=gS.mp hS;rw[aN, <-i,List.set_getElem_self h1];rfl⟩
 |t::L,O,S,x,hS,hn,hv,hl=>by
  rw[lC]at hl;have e:O++t::L=O++[t]++L:=by simp
  rw[e]at hn hv ⊢;have j: ∀d∈t,VS d:=hv t (by simp);have app:aW #[m,1] [#[t,6]] S=#[.non,S.set m (.lst ((O++[t]).map .tup)),1]:=by rw[xX hS (by rw[lM];lia),ð];rfl
  obtain⟨y,h⟩:=PX L _ _ #[t,3] (get_set hS) hn hv (by simp;lia);refine⟨y,?_⟩;rw[å,zX rfl ?_ (dZ _),h,List.set_set];unfold nP eM;by_cases c:O=[]
  .subst c;exists 7,UY hS,show(!!(List.map MV.tup ([]:E4)).isEmpty)=true from rfl,yN hS,app
  .obtain⟨P,z,rfl⟩: ∃P z,O=P++[z]:=⟨_,_,(List.dropLast_concat_getLast c).symm⟩
   have k:z≠t:=λe=>by subst e;simp[Ĥ]at hn
   have n:fW _ _ S=.ok _ S:=EF hS (by rw[ð];exact Mb);have b:RE #[z,6] #[t,6] S=#[.bl true,S,1]:=by have q:=fQ (hv z (by simp));rw[VF q.1 (fQ j).1 #[],dF0 (λe=>k (MV.tup.inj e))];rfl
   simp? [UY hS,show(!((P++[z]).map MV.tup).isEmpty)=true by simp,ń,fT,iF,n,b,yN hS,app]
theorem Mc{w:Nat}{T:E4}(e: ∀t∈T, ∀d∈t,VS d)(hw: ∀t∈T,t.length=w)(h:w<1000)(n:T.Nodup)(j:T.length<128)(S:Sto):zK 1 mW [.new (T.map .tup)] S=#[(dB T).map .tup,S,2]:=by
 have p:=xN T;have c: ∀t∈[]++dB T, ∀d∈t,VS d:=λt b=>e t (p.mem_iff.mp b);have q:(S++[MO.lst (T.map .tup)]++[.lst []])[↑2]? =#[T.map .tup,2]:=by simp
 obtain⟨y,k⟩:=PX (m:=↑2+1) (a:=#[↑2]) (dB T) [] (S++[.lst (T.map .tup)]++[.lst []]) none (by rw[aA];exact sX _ _ _) (p.nodup_iff.mpr n) c (by have:=p.length_eq;simp;lia);refine dA rfl rfl (T:=[.lst (T.map .tup),.lst ((dB T).map .tup)]) ?_ (.inr ⟨↑2+1,rfl,by lia,sX _ _ _⟩) (gI λd hd=>by obtain⟨t,b,rfl⟩:=mM.mp hd;exact fO (fQ (c t b)).1);show yC (mV [#[↑2],none,none] (S++[.lst (T.map .tup)]))=_;unfold mV;have o:nQ [#[↑2],none,none] (S++[.lst (T.map .tup)])=#[[#[↑2],#[↑2+1],none],S++[.lst (T.map .tup)]++[.lst []],0]:=by unfold nQ;simp? [bK];simp
 have i:nR [#[↑2],#[↑2+1],none] (S++[.lst (T.map .tup)]++[.lst []])=#[[#[↑2],#[↑2+1],y],S++[.lst (T.map .tup),.lst ((dB T).map .tup)],0]:=by unfold nR;simp? [VR (l:=false) e hw j (p:=#[↑2,1]) (by unfold jD;dsimp only;rw[q]) (λt b=>Ma (e t b) (by rw[hw t b];exact h) _),SH];rw[k,aA];simp
 rw[zC o,zC i];unfold mU;exists 7,rfl
theorem ZD{n:Nat}{F:List MV->Sto->R Er}{S2:Sto}{l:Nat}{kvs:Ev}(b:rs.length=n)(a:F (zF rs S).1 (zF rs S).2=.ok #[l,1] S2)(c:↑2<=l)(h:S2[l]? =#[kvs,7]):zK n F rs S=.ok #[l,1] S2:=by
 unfold zK;rw[iP b,a];show kZ S _ S2=_;unfold kZ;dsimp only;split
 .rw[iN #[],h]
 .rfl
theorem ZE{n:Nat}{F:List MV->Sto->R Er}{l:Nat}{ds:C8}(c:rs.length=n)(b:F (zF rs S).1 (zF rs S).2=.ok #[l,1] (S++T))(d:↑2<=l)(h:(S++T)[l]? =#[ds,2]):
  ∃r a,zK n F rs S=.ok r (S++a)/\(r=#[l,1]/\a=T\/r=.new ds/\a=[]/\tF ↑2 ds):=by
 unfold zK;rw[iP c,b];show∃r a,kZ S _ _=_/\_;unfold kZ;rw[iP pY];dsimp only;rw[iN #[],h];dsimp only;split
 .rename_i h;exact⟨_,[],by rw[aN,List.take_left'];rfl,.inr ⟨rfl,rfl,h⟩⟩
 .exact⟨_,T,rfl,.inl ⟨rfl,rfl⟩⟩
def Ls(Z:Sto)(n:Nat)(r:Er)(Gs:List Ev):Prop:=(∃l ws,r=#[l,1]/\Z[l]? =#[ws,2]/\Fts Z n 1 ws Gs)\/ ∃ws,r=.new ws/\Fts Z n 1 ws Gs
theorem PY{n:Nat}{r q:Er}(h:Ls Z n r Gs)(z:q=.new #[xs,8]\/ ∃l,q=#[l,1]/\Z[l]? =#[xs.map MV.str,2])(A:xs.length<1000)(s:xs.Nodup)(e: ∀G∈Gs,Has xs G)(o:Gs.length<10000):
  ∃out T y,zK 2 IK [r,q] Z=#[out,Z++T,2]/\Fts (Z++T) y 1 out (pI xs Gs):=by
 obtain⟨lf,m,ws,a,u,w,j,d⟩: ∃lf m ws a,zF [r,q] Z=([.loc lf,m],Z++a)/\(Z++a)[lf]? =#[ws,2]/\SqM (Z++a) m _/\Fts (Z++a) n 1 ws Gs:=by
  rcases h with⟨l,ws,rfl,h1,h2⟩|⟨ws,rfl,h2⟩<;>rcases z with rfl|⟨k,rfl,h3⟩
  .exact⟨l,_,ws,_,rfl,zD h1,.inr ⟨_,rfl,zL _ _⟩,h2.grow⟩
  .exact⟨l,_,ws,[],by rw[aN];rfl,zD h1,.inr ⟨k,rfl,zD h3⟩,h2.grow⟩
  .exact⟨_,_,ws,_,by simp[zF],lL _ _ _,.inr ⟨_,rfl,sX _ _ _⟩,h2.grow⟩
  .exact⟨_,_,ws,_,rfl,zL _ _,.inr ⟨k,rfl,zD h3⟩,h2.grow⟩
 obtain⟨out,T,c,b⟩:=Zu w j A s d e o;rw[aA]at c b;obtain⟨i,v,p⟩:=IO rfl (by rw[u];exact c);refine⟨out,i,(Z++a).length,v,?_⟩;rcases p with rfl|⟨rfl,hlo⟩
 .exact b
 .exact b.cut hlo (by rw[lA];lia)
noncomputable def Vy(vs:C8):Nat->List (List MV)
 |0=>[[]]
 |n+1=>vs.flatMap λv=>(Vy vs n).map (v::·)
theorem VT(vs:C8): ∀n,(Vy vs n).length=vs.length ^ n
 |0=>rfl
 |n+1=>by
  have: ∀us:List MV,(us.flatMap λv=>(Vy vs n).map (v::·)).length=us.length * (Vy vs n).length:=λus=>by
   induction us with
   |nil=>simp
   |cons u us ih=>rw[flatMap_cons,lA,ih,lM,lC,Nat.add_mul,Nat.one_mul,Nat.add_comm]
  rw[Vy,this,VT vs n,Nat.pow_succ,Nat.mul_comm]
theorem VU{vs:C8}: ∀{k:C8},(∀d∈k,d∈vs)->k∈Vy vs k.length
 |[],_=>mS.mpr rfl
 |d::k,h=>mem_flatMap.mpr ⟨d,h d mF0,mM.mpr ⟨k,VU λx a=>h x (mO _ a),rfl⟩⟩
def SN{vs:C8}{P:E4}{n:Nat}(c:P.Nodup)(h: ∀k∈P,k.length=n/\ ∀d∈k,d∈vs):P.length<=vs.length ^ n:=by rw[<-VT];exact c.length_le_of_subset λk b=>by obtain⟨rfl,a⟩:=h k b;exact VU a
def kX{as:List Rw}{x:Db}:x∈dX as↔ ∃b∈as, ∃t∈b.2,vn t=some x:=by simp[dX]
def Ni{as:List Rw}{vs:C8}(a: ∀r∈rows, ∀c∈r.2,c∈vs)(m: ∀b∈as,Mt rows b σ){x:Db}(h:x∈dX as):σ x∈vs:=by obtain⟨b,d,t,i,e⟩:=kX.mp h;refine a _ (m b d) (σ x) (mM.mpr ⟨t,i,?_⟩);unfold SK;rw[e]
def uV{l:Nat}{x:Db}{fs:Ch}(a:Bool)(h:S[l]? =#[fs.map MV.str,2]):CO a (.val (.str x)) #[l,1] S=#[.bl (if a=true then !decide (x∈fs)else decide (x∈fs)),S,1]:=by rw[iO a h (sV x) DE,dec_is DF]
def VV{cf:AZ}{ef:AX}{ρb:Rho}{gs:E2}{p:List Nat->Bool}(hs:stay gs Z)(a: ∀x,cf (#[x,4]::ρb) Z=.ok (p x) Z)(b: ∀x,ef (#[x,4]::ρb) Z=#[.str x,Z,1]):yD (yA 0) cf ef (none::ρb) gs #[xs,8] Z=.ok ((xs.filter p).map MV.str) Z:=
 FD hs λx _=>⟨_,rfl,a x,b x⟩
theorem PZ(xs:Ch)(Ds:List OD): ∀Gs:List Ev,(joinM xs Gs Ds).length<=Gs.length * Ds.length
 |[]=>by simp[joinM]
 |G::Gs=>by
  have h1:=PZ xs Ds Gs;have a:(VN xs Ds (kO xs G)).length<=Ds.length:=ċ _ _;show((VN xs Ds _).map _++joinM xs Gs Ds).length<=_;rw[lA,lM,lC,Nat.succ_mul]
  lia
def Md{b:C8}{a:List Ev}(h:b.length=a.length)(N:Ev):N∈a↔ ∃D∈b.zip a,D.2=N:=by rw[<-mM,List.map_snd_zip (le_of_eq h.symm)]
theorem Me(xs:Ch)(Gs:List Ev):(pI xs Gs).length<=Gs.length:=by
 have: ∀(Gs:List Ev)(P:List _),(VL xs Gs P).length<=P.length+Gs.length:=λGs=>by
  induction Gs with
  |nil=>exact λP=>à _
  |cons G Gs ih=>
   intro P;have h1:=ih (PK P (kO xs G));have a:=LX P (kO xs G);show(VL xs Gs (PK P _)).length<=_;rw[lC]
   lia
 rw[pI];simpa using this Gs []
structure QC(rows as:List Rw)(hd:Ch)(vs:C8)(ys:Ch):Prop where
 hv: ∀r∈rows, ∀c∈r.2,c∈vs
 vv: ∀v∈vs,VS v
 v1:1<=vs.length
 rl:rows.length<=90
 ha: ∀b∈as,(∀d∈b.2,gB d)/\b.2.length<=4
 hw: ∀b∈as, ∀r∈rows,r.1=b.1->b.2.length=r.2.length
 al:as.length<=10
 hh: ∀x∈hd,x∈dX as
 hl:hd.length<=10
 hy: ∀x∈dX as,x∈ys
 yl:ys.length<=10
 pw:vs.length ^ ys.length<=100
 ph:vs.length ^ hd.length<128
structure MC(S:Sto)(lr lm:Nat)(rows as:List Rw)(hd:Ch)(vs:C8)(ys:Ch):Prop extends QC rows as hd vs ys where
 hr:S[lr]? =#[rows.map zV,2]
 hm:S[lm]? =some (.lst (rows.map λ_=>.int 1))
noncomputable abbrev MR(lr lm:Nat)(H A:C8)(a lf:Nat)(p b c d e f g:C9):Rho:=[#[lr],#[lm],#[[.tup H,.tup A],3],#[H,3],#[A,3],#[a],#[lf],p,b,c,d,e,f,g]
structure MI(S:Sto)(rows:List Rw)(hd:Ch)(done rest:List Rw)(kn:Ch)(ws:C8)(Gs:List Ev)(n0:Nat)(mk:Int)(lk lf:Nat)(Z:Sto):Prop where
 ex: ∃T,Z=S++T
 k:Z[lk]? =#[kn.map MV.str,2]
 f:Z[lf]? =#[ws,2]
 F:Fts Z n0 mk ws Gs
 b: ∀Y,BF #[mk,5] #[1,5] Y=.ok #[1,5] Y
 I:FI rows done kn Gs
 nd:kn.Nodup
 kk: ∀x,x∈kn↔x∈dX done/\(x∈hd\/x∈dX rest)
 gl:Gs.length<=100
 gL: ∀G∈Gs,G.length<=1000
theorem SO(xs:Ch): ∀(Gs:List Ev){P:E4},P.Nodup->(VL xs Gs P).Nodup
 |[],_,h=>h
 |G::Gs,_,h=>SO xs Gs (Uw h _)
section
variable{S:Sto}{lr lm:Nat}{rows as:List Rw}{hd:Ch}{vs:C8}{ys:Ch}
theorem Mf(C:MC S lr lm rows as hd vs ys){a:Rw}{done rest:List Rw}(ea:as=done++a::rest){kn:Ch}{ws:C8}{n0:Nat}{mk:Int}{lk lf:Nat}(M:MI S rows hd done (a::rest) kn ws Gs n0 mk lk lf Z)(c d e f g:C9):
  ∃kn' E a' a7 ao ax c' d' e' f' g' Z',yR (MR lr lm #[hd,8] #[as,9] lk lf #[(done.length:Nat),0] (some (zV a)) c d e f g) Z=#[MR lr lm #[hd,8] #[as,9] ao ax #[(done.length:Nat),0] (some (zV a)) c' d' e' f' g',Z',0]/\MI S rows hd (done++[a]) rest kn' E a' a7 1 ao ax Z':=by
 obtain⟨T0,aq⟩:=M.ex;have s:a∈as:=by rw[ea];simp
 have ah: ∀b∈rest,b∈as:=λb v=>by rw[ea];simp[v]
 have ay:=C.al;have bl:rest.length<=10:=by rw[ea]at ay;simp at ay;lia
 have vv: ∀r∈rows, ∀c∈r.2,VS c:=λr hr c hc=>C.vv c (C.hv r hr c hc);obtain⟨own,ho⟩: ∃own,own=xM [] (dX [a]):=⟨_,rfl⟩
 have j: ∀x,x∈own↔ ∃t∈a.2,vn t=some x:=λx=>by rw[ho,qI,kX];simp
 have bj:own.length<=4:=by
  have h1:=qK (dX [a]) [];have h2:(dX [a]).length<=a.2.length:=by simp only[dX,flatMap_cons,List.flatMap_nil,aN];exact ī _ _
  have h3:=(C.ha a s).2;rw[ho];simp at h1
  lia
 have ar:own.Nodup:=by rw[ho];exact DG _ nodup_nil
 obtain⟨sh,aa⟩: ∃sh,sh=own.filter λx=>decide (x∈kn):=⟨_,rfl⟩
 obtain⟨ask,P⟩: ∃ask,ask=hd++xM [] (dX rest):=⟨_,rfl⟩
 obtain⟨ow,B⟩: ∃ow,ow=own.filter λx=>if decide (x∈sh)=true then true else decide (x∈ask):=⟨_,rfl⟩
 obtain⟨H,A⟩: ∃H,H=own.filter λx=>!decide (x∈sh):=⟨_,rfl⟩
 obtain⟨kn',W⟩: ∃kn',kn'=(kn++H).filter λx=>decide (x∈ask):=⟨_,rfl⟩
 have D: ∀x,x∈sh↔x∈own/\x∈kn:=λx=>by rw[aa];simp
 have ak: ∀x,x∈ask↔x∈hd\/x∈dX rest:=λx=>by rw[P,é,qI];simp
 have T: ∀x,x∈ow↔x∈own/\(x∈sh\/x∈ask):=λx=>by rw[B];simp
 have ai: ∀x,x∈kn'↔(x∈kn\/x∈own)/\x∈ask:=λx=>by
  rw[W,A];simp only[Ě,é,D]
  grind
 have ab:kn'.Nodup:=by rw[W];refine List.Pairwise.filter _ (Ĥ.mpr ⟨M.nd,A▸List.Pairwise.filter _ ar,λx i y hy e=>?_⟩);rw[A]at hy;simp[D]at hy;exact hy.2.elim (· hy.1) (· (e▸i))
 have af: ∀x,x∈kn'↔x∈dX (done++[a])/\(x∈hd\/x∈dX rest):=λx=>by
  have e1:x∈dX (done++[a])↔x∈dX done\/x∈own:=by rw[j];simp[kX,or_and_right,exists_or]
  have e2:x∈dX (a::rest)↔x∈own\/x∈dX rest:=by rw[j];simp[kX]
  rw[ai,ak,M.kk,e1,e2]
  grind
 have az:kn'.length<=ys.length:=ab.length_le_of_subset λx i=>C.hy x (by obtain⟨b,v,h⟩:=kX.mp ((af x).mp i).1;exact kX.mpr ⟨b,by rw[ea];simp at v ⊢; exact v.imp id .inl,h⟩);have bh:=C.yl;have a0: ∀G∈Gs,Has sh G/\G.length<=1000:=λG J=>⟨⟨(M.I.dom G J).1,λx i=>((M.I.dom G J).2 x).mpr ((D x).mp i).2⟩,M.gL G J⟩
 have au: ∀G∈bI rows a,Has ow G:=λG J=>by have:=(PV (C.ha a s).1 (C.hw a s) vv j J).2;exact⟨this.1,λx i=>this.2 x ((T x).mp i).1⟩
 have bq:=C.rl;have fl:(bI rows a).length<=rows.length:=õ (ī _ _) (ċ _ _);have zl: ∀(xs:Ch)(k:C8),(wI xs k).length<=xs.length:=λxs k=>by unfold wI;rw[Ļ,lM];lia
 have z: ∀{Y:Sto}{l:Nat}{o x:MO},Y[l]? =some o->(Y++[x])[l]? =some o:=λh=>zD h;obtain⟨Z1,q1⟩: ∃Y,Y=Z++[MO.lst #[own,8]]:=⟨_,rfl⟩
 obtain⟨u,q2⟩: ∃Y,Y=Z1++[MO.lst #[sh,8]]:=⟨_,rfl⟩
 obtain⟨w,q3⟩: ∃Y,Y=u++[MO.lst #[ask,8]]:=⟨_,rfl⟩
 have u3: ∀{l:Nat}{o:MO},Z[l]? =some o->w[l]? =some o:=λh=>by rw[q3,q2,q1];exact z (z (z h))
 have a9:Z1[Z.length]? =#[own.map MV.str,2]:=by rw[q1];exact zL _ _
 have aM:u[Z1.length]? =#[sh.map MV.str,2]:=by rw[q2];exact zL _ _
 have av:w[u.length]? =#[ask.map MV.str,2]:=by rw[q3];exact zL _ _
 have b9:w[Z.length]? =#[own.map MV.str,2]:=by rw[q3,q2];exact z (z a9)
 have X:w[Z1.length]? =#[sh.map MV.str,2]:=by rw[q3];exact z aM
 have uS: ∀{l:Nat}{o:MO},S[l]? =some o->w[l]? =some o:=λh=>u3 (by rw[aq];exact zD h);obtain⟨T4,w4,f1,f2⟩:=Zt (uS C.hr) (uS C.hm) vv #[] (C.ha a s);obtain⟨out,T5,n5,c1,c2⟩:=PY (q:=.new #[ow,8]) (.inr ⟨w4,rfl,f2⟩) (.inl rfl) (by have:=ċ (λx=>if decide (x∈sh)=true then true else decide (x∈ask)) own;rw[<-B]at this;lia) (B▸List.Pairwise.filter _ ar) au #[];obtain⟨U,q4⟩: ∃Y,Y=w++T4++T5++[MO.lst out]:=⟨_,rfl⟩
 obtain⟨L,q5⟩: ∃Y,Y=U++[MO.lst #[H,8]]:=⟨_,rfl⟩
 obtain⟨Z6,q6⟩: ∃Y,Y=L++[MO.lst #[kn',8]]:=⟨_,rfl⟩
 have O: ∀{l:Nat}{o:MO},w[l]? =some o->U[l]? =some o:=λh=>by rw[q4];exact zD (zD (zD h))
 have u6: ∀{l:Nat}{o:MO},U[l]? =some o->Z6[l]? =some o:=λh=>by rw[q6,q5];exact z (z h)
 have bb:U[(w++T4++T5).length]? =#[out,2]:=by rw[q4];exact zL _ _
 have a4:L[U.length]? =#[H.map MV.str,2]:=by rw[q5];exact zL _ _
 have a5:Z6[L.length]? =#[kn'.map MV.str,2]:=by rw[q6];exact zL _ _
 have a3: ∀N∈pI ow (bI rows a),Has sh N/\N.length<=1000:=λN hN=>by obtain⟨G,J,rfl⟩:=iQ.mp hN;have:=LZ (au G J);refine⟨⟨this.1,λx i=>(this.2 x).mpr ((T x).mpr ⟨((D x).mp i).1,.inl i⟩)⟩,õ (zl _ _) (by have:=ċ (λx=>if decide (x∈sh)=true then true else decide (x∈ask)) own;rw[<-B]at this;lia)⟩
 have bp:=Me ow (bI rows a);have F6:Fts Z6 n5 1 out (pI ow (bI rows a)):=by rw[q6,q5,q4];exact c2.grow.grow.grow
 have bf:(pI ow (bI rows a)).length * Gs.length<=90 * 100:=mul_le_mul #[] M.gl;obtain⟨l7,T7,ts,j1,j2,j3,j4⟩:=jn_f (m:=.loc Z1.length) (u6 (O (u3 M.f))) (u6 bb) (.inr ⟨_,rfl,u6 (O X)⟩) (by have:=ċ (λx=>decide (x∈kn)) own;rw[<-aa]at this;lia) (Fts.move (λ_ _ h=>u6 (O (u3 h))) M.F) F6 a0 a3 #[] #[] M.b;obtain⟨Q,ae⟩: ∃Q,Q=joinM sh Gs (out.zip (pI ow (bI rows a))):=⟨_,rfl⟩
 rw[<-ae]at j4;have a8:(out.zip (pI ow (bI rows a))).length<=90:=by rw[Ļ];lia
 have bo:Q.length<=9000:=by
  have:=PZ sh (out.zip (pI ow (bI rows a))) Gs;have h2:=mul_le_mul M.gl a8;rw[<-ae]at this
  lia
 obtain⟨aw,ag⟩:=Lz (ask:=λx=>x∈ask) M.I (C.ha a s).1 (C.hw a s) vv j D T ai (λb v t ht x i ho=>(M.kk x).mpr ⟨kX.mpr ⟨b,v,t,ht,i⟩,.inr (kX.mpr (by obtain⟨t',h1,h2⟩:=(j x).mp ho;exact⟨a,mF0,t',h1,h2⟩))⟩) (Md F6.len);rw[<-ae]at aw ag;obtain⟨r,T8,k1,k2⟩:=ZE (n:=3) (F:=qD) (rs:=[#[lf,1],#[(w++T4++T5).length,1],#[Z1.length,1]]) rfl j1 #[] j3
 have ba:Ls (Z6++T8) l7 r Q:=by
  rcases k2 with⟨rfl,rfl⟩|⟨rfl,rfl,hlo⟩
  .exact .inl ⟨l7,ts,rfl,j3,j4⟩
  .exact .inr ⟨ts,rfl,j4.cut hlo #[]⟩
 obtain⟨E,T9,n9,m1,m2⟩:=PY (q:=#[L.length,1]) ba (.inr ⟨_,rfl,zD a5⟩) #[] ab aw #[]
 have bc:(pI kn' Q).length<=100:=by
  refine õ ?_ (õ (Nat.pow_le_pow_right C.v1 az) C.pw);rw[pI,lM];refine SN (SO kn' Q nodup_nil) λk hk=>?_;rcases (uU kn' Q [] k).mp hk with h|⟨K,hK,rfl⟩
  .cases h
  .refine⟨lM _,λd hd=>?_⟩;obtain⟨x,i,rfl⟩:=mM.mp hd;obtain⟨σ,s1,s2⟩:=ag.snd _ (iQ.mpr ⟨K,hK,rfl⟩);rw[<-DI (G:=K) i,s2 x i];exact Ni C.hv s1 ((af x).mp i).1
 have p1:zK 1 xU [.new [zV a]] Z=#[own.map MV.str,Z,2]:=ho▸Uv (as:=[a]) (λb v=>by rw[mS.mp v];exact C.ha a s) (by simp);have p3:zK 1 xU [#[rest.map zV,6]] u=#[(xM [] (dX rest)).map MV.str,u,2]:=Zs (.inl rfl) (λb v=>C.ha b (ah b v)) #[]
 have a6:wH (.new #[hd,8]) (.new ((xM [] (dX rest)).map MV.str)) u=#[ask.map MV.str,u,2]:=by
  rw[P,ð]
  exact RL rfl rfl (fits (by
   have h1:=C.hl;have h2:=DG (dX rest) (ks:=[]) nodup_nil;have h3:=h2.length_le_of_subset (l₂:=ys) λx i=>C.hy x (by rw[qI]at i;rw[kX]at i ⊢; obtain h|⟨b,v,h⟩:=i;cases h;exact⟨b,ah b v,h⟩);simp only[lM]
   lia))
 have aj:fS #[as,9] (some ((done.length:Int)+1)) none=rest.map zV:=by rw[show(done.length:Int)+1=((done.length+1:Nat):Int) by simp,AO,ea,show done++a::rest=(done++[a])++rest by simp,ð,List.drop_left' (by simp)]
 have bg:kn.length+H.length<=14:=by
  have h1:=M.nd.length_le_of_subset (l₂:=ys) λx i=>C.hy x (by have:=((M.kk x).mp i).1;rw[kX]at this ⊢; obtain⟨b,v,h⟩:=this;exact⟨b,by rw[ea];simp[v],h⟩);have h2:H.length<=own.length:=A▸ċ _ _
  lia
 have p6:wH #[lk,1] #[U.length,1] L=#[(kn++H).map MV.str,L,2]:=by rw[ð];exact RL (TX (by rw[q5];exact z (O (u3 M.k)))) (TX a4) (fits (by simp only[lM];lia))
 refine⟨kn',E,pI kn' Q,n9,L.length,(Z6++T8++T9).length,#[Z.length],#[Z1.length],#[u.length],#[(w++T4++T5).length],#[U.length],Z6++T8++T9++[.lst E],?_,⟨?_,zD (zD (zD a5)),zL _ _,m2.grow,λ_=>rfl,ag,ab,af,bc,λG J=>?_⟩⟩
 .unfold yR;apply zE
  .unfold wZ;simp? [p1];rw[<-q1]
  apply zE
  .unfold kC;simp? [yW a9,lM,show own.length<1000000 by lia];rw[show vE 1 [5] _=[none,#[lk]]from rfl,VV (p:=λx=>decide (x∈kn)) (yH a9) (λx=>by unfold wV;exists 7,uV false (show Z1[lk]? =_ by rw[q1];exact z M.k),fT,iF) (λ_=>rfl), <-aa];simp? [<-q2];rfl
  apply zE
  .unfold kD;simp? [show NQ [#[hd.map MV.str,6]] u=#[hd.map MV.str,u,2] from rfl,LM,aj,p3,a6];rw[<-q3]
  apply zE
  .unfold kE;simp? [f1,yW (show(w++T4)[Z.length]? =_ from zD b9),lM,show own.length<1000000 by lia];rw[show vE 1 [10,11] _=[none,#[Z1.length],#[u.length]]from rfl,VV (p:=λx=>if decide (x∈sh)=true then true else decide (x∈ask)) (yH (zD b9)) (λx=>by unfold wW;simp? [uV false (show(w++T4)[Z1.length]? =_ from zD X),uV false (show(w++T4)[u.length]? =_ from zD av),fT,iF];split<;>rfl) (λ_=>rfl), <-B];simp? [c1];rw[<-q4]
  apply zE
  .unfold kG;simp? [yW (O b9),lM,show own.length<1000000 by lia];rw[show vE 1 [10] _=[none,#[Z1.length]]from rfl,VV (p:=λx=>!decide (x∈sh)) (yH (O b9)) (λx=>by unfold wX;exists 7,uV true (O X)) (λ_=>rfl), <-A];simp? [<-q5];rfl
  apply zE
  .unfold kH;simp? [p6,SH,lM,show(kn++H).length<1000000 by rw[lA];lia];rw[show vE 1 [11] _=[none,#[u.length]]from rfl,VV (p:=λx=>decide (x∈ask)) (dZ _) (λx=>by unfold wY;exists 7,uV false (show L[u.length]? =_ by rw[q5];exact z (O av)),fT,iF) (λ_=>rfl), <-W];simp? [<-q6];rfl
  unfold kI;exists 7,k1,m1
 .exact⟨_,by rw[q6,q5,q4,q3,q2,q1,aq];simp only[aA];rfl⟩
 .obtain⟨K,hK,rfl⟩:=iQ.mp J;exact õ (zl _ _) #[]
end
theorem En(E:Ev)(k d:MV):(putK E k d).map (·.1)=if k∈E.map (·.1)then E.map (·.1)else E.map (·.1)++[k]:=by
 unfold putK;by_cases h:k∈E.map (·.1)
 .have hs:(look E k).isSome=true:=by
   cases z:look E k with
   |none=>obtain⟨p,a,e⟩:=mM.mp h;exact absurd e (Lq z p a)
   |some d=>rfl
  rw[iP hs,iP h,Ĳ];exact Ė λp _=>by simp only[Function.comp];split<;>rfl
 .rw[iN (λz=>h (PB z)),iN h,ð];rfl
theorem IU(xs:Ch)(m:MV): ∀(Gs:List Ev)(E:Ev)(P:E4),E.map (·.1)=P.map MV.tup->((Gs.map λG=>(MV.tup (kO xs G),m)).foldl (λa p=>putK a p.1 p.2) E).map (·.1)=(VL xs Gs P).map MV.tup
 |[],_,_,h=>h
 |G::Gs,E,P,h=>IU xs m Gs _ (PK P _) (by
  have:MV.tup _∈P.map MV.tup↔kO xs G∈P:=⟨λz=>by obtain⟨k,b,e⟩:=mM.mp z;exact MV.tup.inj e▸b,λz=>İ z⟩
  show(putK E _ m).map (·.1)=_;rw[En,h];unfold PK;by_cases z:kO xs G∈P
  .rw[iP z,iP (this.mpr z)]
  .rw[iN z,iN λy=>z (this.mp y),ð];rfl)
theorem IV{xs:Ch}{m:MV}: ∀(Gs:List Ev),(∀G∈Gs,Has xs G)->eH (Gs.map λG=>.tup [.tup (kO xs G),m])=some (Gs.map λG=>(.tup (kO xs G),m))
 |[],_=>rfl
 |G::Gs,h=>by show(if keyOk _=true then(eH _).map _ else none)=_;rw[iP (FH (h G mF0).vs),IV Gs λK a=>h K (mO _ a)];rfl
def IW(rows as:List Rw)(hd:Ch)(k:C8):Prop:= ∃σ:List Nat->MV,(∀b∈as,Mt rows b σ)/\k=hd.map σ
section
variable{S:Sto}{lr lm:Nat}{rows as:List Rw}{hd:Ch}{vs:C8}{ys:Ch}
theorem Eo(C:MC S lr lm rows as hd vs ys): ∀(rest done:List Rw),as=done++rest-> ∀{kn:Ch}{ws:C8}{Gs:List Ev}{n0:Nat}{mk:Int}{n lf:Nat}{Z:Sto},MI S rows hd done rest kn ws Gs n0 mk n lf Z-> ∀p b c d e f g:Option MV,
  ∃kn' k j m mk' i h s w y q v r u o,xP (mQ 2 (zB (yA 7) (zB (yA 8) yK))) yR [] (((rest.map zV).zipIdx done.length).map λp=>.tup [.int (p.2:Nat),p.1]) (MR lr lm #[hd,8] #[as,9] n lf p b c d e f g) Z=#[MR lr lm #[hd,8] #[as,9] i h s w y q v r u,o,0]/\MI S rows hd as [] kn' k j m mk' i h o
 |[],done,e0,kn,ws,Gs,n0,mk,n,lf,Z,M,p,b,c,d,e,f,g=>⟨kn,ws,Gs,n0,mk,n,lf,p,b,c,d,e,f,g,Z,rfl,by rw[aN]at e0;rw[e0];exact M⟩
 |a::rest,done,ea,kn,ws,Gs,n0,mk,n,lf,Z,M,p,b,c,d,e,f,g=>by obtain⟨_,_,_,_,E,J,D,B,F,I,G,Z1,h1,A⟩:=Mf C ea M c d e f g;obtain⟨kn',k,j,m,mk',i,h,s,w,y,q,v,r,u,o,z,H⟩:=Eo C rest _ (by rw[ea];simp) A _ _ D B F I G;refine⟨kn',k,j,m,mk',i,h,s,w,y,q,v,r,u,o,?_,H⟩;rw[lA]at z;rw[å,zipIdx_cons,å,zX rfl h1 (dZ _)];exact z
theorem ma_f(C:MC S lr lm rows as hd vs ys): ∃(l:Nat)(T:Sto)(u:E4)(kvs:Ev),xL [.loc lr,.loc lm,.tup [.tup #[hd,8],.tup #[as,9]]] S=.ok #[l,1] (S++T)/\↑2<=l/\bL (S++T) #[l,1]=some (l,kvs)/\(S++T)[l]? =#[kvs,7]/\kvs.map (·.1)=u.map MV.tup/\u.Nodup/\ ∀k,k∈u↔IW rows as hd k:=by
 obtain⟨A,r⟩: ∃Y,Y=S++[MO.lst [],.dic [],.lst [.tup [.loc (↑2+1),.int (-1)]]]:=⟨_,rfl⟩
 obtain⟨kn,ws,Gs,n0,mk,U,lf,p,b,c,d,e,f,g,Z,J,M⟩:=Eo C as [] rfl (kn:=[]) (ws:=[.tup [.loc (↑2+1),.int (-1)]]) (Gs:=[[]]) (n0:=0) (mk:= -1) (Z:=A) ⟨⟨_,r⟩,by rw[r];exact lL _ _ _,by rw[r];exact LN (i:=2) rfl,⟨⟨_,rfl,zero_le _,by rw[r];exact LN (i:=1) rfl⟩,trivial⟩,λ_=>rfl,⟨λG a=>by rw[mS.mp a];exact⟨VG,λx=>⟨λz=>absurd rfl z,λz=>by cases z⟩⟩,λG _=>⟨λ_=>.non,(λb K=>by cases K),λx j=>by cases j⟩,λσ _=>⟨[],mS.mpr rfl,λx j=>by cases j⟩⟩,nodup_nil,λx=>by simp[dX],by simp,λG a=>by rw[mS.mp a];simp⟩ none none none none none none none;obtain⟨T,s⟩:=M.ex;have y: ∀x,x∈kn↔x∈hd:=λx=>by rw[M.kk x];exact⟨λh=>h.2.elim id λz=>by simp[dX]at z,λh=>⟨C.hh x h,.inl h⟩⟩
 have v: ∀G∈Gs,Has hd G:=λG a=>⟨(M.I.dom G a).1,λx j=>((M.I.dom G a).2 x).mpr ((y x).mpr j)⟩
 have m:=M.F.len;have Q:=M.gl
 have L:yD (mQ 2 (zB (yA 0) (zB (yA 1) yK))) yX yM [none,none,#[hd.map MV.str,3]] [(lf,ws)] ws Z=.ok (Gs.map λG=>.tup [.tup (kO hd G),.int mk]) Z:=by
  have:=lZ (f:=Prod.fst) (gf:=mQ 2 (zB (yA 0) (zB (yA 1) yK))) (cf:=yX) (ef:=yM) (ρb:=[none,none,#[hd.map MV.str,3]]) (yH M.f) λD H=>by obtain⟨h1,e,w,N⟩:=LY M.F D H;refine⟨_,by rw[w];rfl,rfl,?_⟩;have B:zK 2 yG [#[e,1],#[hd.map MV.str,6]] Z=.ok #[kO hd D.2,6] Z:=VH N (v _ h1).1 (.inl rfl) (v _ h1).2 (by have:=C.hl;lia);unfold yM;exists 7,B
  rw[List.map_fst_zip (le_of_eq m)]at this;rw[this,show(ws.zip Gs).map (λD=>MV.tup [.tup (kO hd D.2),.int mk])=((ws.zip Gs).map Prod.snd).map λG=>MV.tup [.tup (kO hd G),.int mk] by rw[Ĳ];rfl,List.map_snd_zip (le_of_eq m.symm)]
 obtain⟨kvs,o⟩: ∃kvs,kvs=ON (Gs.map λG=>(MV.tup (kO hd G),MV.int mk)):=⟨_,rfl⟩
 have n:kvs.map (·.1)=(VL hd Gs []).map MV.tup:=by rw[o];exact IU hd _ Gs [] [] rfl
 refine⟨Z.length,_,VL hd Gs [],kvs,?_,by rw[s,lA];lia,?_,by rw[<-aA, <-s];exact zL _ _,n,SO hd Gs nodup_nil,λk=>?_⟩
 .show yC _=_;unfold bU;rw[zC rfl,zC (show jX _ S=#[[#[lr],#[lm],#[[.tup #[hd,8],.tup #[as,9]],3],#[hd.map MV.str,3],#[as.map zV,3],none,none,none,none,none,none,none,none,none],S,0] from rfl)];rw[zC (show xV [#[lr],#[lm],#[[.tup #[hd,8],.tup #[as,9]],3],#[hd.map MV.str,3],#[as.map zV,3],none,none,none,none,none,none,none,none,none] S=#[[#[lr],#[lm],#[[.tup #[hd,8],.tup #[as,9]],3],#[hd.map MV.str,3],#[as.map zV,3],#[↑2],none,none,none,none,none,none,none,none],S++[.lst []],0] by unfold xV;exists 7,rfl)];rw[zC (show xW [#[lr],#[lm],#[[.tup #[hd,8],.tup #[as,9]],3],#[hd.map MV.str,3],#[as.map zV,3],#[↑2],none,none,none,none,none,none,none,none] (S++[.lst []])=#[MR lr lm #[hd,8] #[as,9] ↑2 (↑2+2) none none none none none none none,A,0] by unfold xW;simp? [EG];rw[r];simp)];rw[zC (by unfold jY;simp? [Lg];exact J)];unfold jZ;simp? [yW M.f,show ws.length<1000000 by lia];rw[show vE 2 [3] _=[none,none,#[hd.map MV.str,3]]from rfl,L];simp? [show II [.new _] Z=.ok #[Z.length,1] (Z++[.dic kvs]) by unfold II;dsimp only;rw[show(jD Z _).bind eH=eH _ from rfl,IV Gs v,o]];rw[s,aA];rfl
 .rw[<-aA, <-s];unfold bL;dsimp only;rw[zL];dsimp only;rw[iP];rw[ą];intro q E;have:q.1∈kvs.map (·.1):=İ E;rw[n]at this;obtain⟨k,_,e⟩:=mM.mp this;rw[<-e];rfl
 .rw[uU];constructor
  .rintro(h|⟨G,a,rfl⟩)
   .cases h
   .obtain⟨σ,O,P⟩:=M.I.snd G a;exact⟨σ,O,Ė λx j=>P x ((y x).mpr j)⟩
  .rintro⟨σ,h1,rfl⟩;obtain⟨G,a,w⟩:=M.I.cmp σ h1;exact .inr ⟨G,a,Ė λx j=>(w x ((y x).mpr j)).symm⟩
def sZ(Q:QC rows as hd vs ys){k:C8}(h:IW rows as hd k):k.length=hd.length/\ ∀d∈k,d∈vs:=by obtain⟨σ,h1,rfl⟩:=h;refine⟨lM _,λd hd=>?_⟩;obtain⟨x,a,rfl⟩:=mM.mp hd;exact Ni Q.hv h1 (Q.hh x a)
theorem Nj(Q:QC rows as hd vs ys)(h:S[lr]? =#[rows.map zV,2]): ∃(a:E4)(T:Sto),a.Nodup/\(∀k,k∈a↔IW rows as hd k)/\wF [.loc lr,.tup [.tup #[hd,8],.tup #[as,9]]] S=#[(dB a).map MV.tup,S++T,2]:=by
 obtain⟨l,T,a,kvs,h1,j,p,v,m,b,i⟩:=ma_f ⟨Q,zD h,zL _ _⟩;have u:=Q.rl;have c: ∀k∈a,k.length=hd.length/\ ∀d∈k,d∈vs:=λk o=>sZ Q ((i k).mp o);have q:yD (yA 0) iT iU [none] [_] #[rows,9] S=.ok _ S:=lZ (yH h) λr _=>⟨_,rfl,rfl,rfl⟩
 have n:zK 3 xL [#[lr,1],.new _,.val _] S=.ok _ _:=ZD rfl h1 (by rw[lA]at j;lia) v;have s:AD [#[l,1]] (S++[.lst (rows.map λ_=>.int 1)]++T)=#[a.map MV.tup,S++[.lst (rows.map λ_=>.int 1)]++T,2]:=by unfold AD;dsimp only;rw[p];dsimp only;rw[m]
 have w:=Mc (λt e d hd=>Q.vv d ((c t e).2 d hd)) (λt e=>(c t e).1) (by have:=Q.hl;lia) b (ň (SN b c) Q.ph) (S++[.lst (rows.map λ_=>.int 1)]++T);refine⟨a,[.lst (rows.map λ_=>.int 1)]++T,b,i,?_⟩;show yC (qX [#[lr],some _] S)=_;unfold qX qE;simp? [yW h,lM,show rows.length<1000000 by lia];rw[show vE 1 [] [some (MV.loc lr),some _]=[none]from rfl,q];simp? [n,s,w];rw[aA];rfl
end
theorem Mg{l:Nat}{ds:C8}(a:S[l]? =#[ds,2]):vR [#[l,1],.val (.typ "list")] S=#[.bl true,S,1]:=by unfold vR EC;dsimp only;rw[lV a];rfl
def QC.of{rows' as:List Rw}{hd:Ch}{vs:C8}(Q:QC rows as hd vs ys)(h: ∀r,r∈rows'↔r∈rows)(d:rows'.length<=90):QC rows' as hd vs ys:=
 ⟨λr a=>Q.hv r ((h r).mp a),Q.vv,Q.v1,d,Q.ha,λb c r a=>Q.hw b c r ((h r).mp a),Q.al,Q.hh,Q.hl,Q.hy,Q.yl,Q.pw,Q.ph⟩
section
variable{rows rows' as:List Rw}{hd:Ch}{vs:C8}{ys:Ch}{F:E4}
def an_f(Q:QC rows as hd vs ys)(j:F.Nodup)(a: ∀k,k∈F↔IW rows as hd k)(h: ∀r,r∈rows'↔r∈rows)(e:rows'.length<=90)(i:S[lr]? =#[rows'.map zV,2]): ∃T,wF [.loc lr,.tup [.tup #[hd,8],.tup #[as,9]]] S=#[(dB F).map MV.tup,S++T,2]:=by obtain⟨b,T,h1,c,m⟩:=Nj (Q.of h e) i;refine⟨T,?_⟩;rw[m, <-IT (λt n d hd=>Q.vv d ((sZ Q ((a t).mp n)).2 d hd)) ((xN b).trans ((List.perm_ext_iff_of_nodup h1 j).mpr λk=>by rw[c,a];unfold IW Mt;simp only[h])) (MB b)]
def Ep(Q:QC rows as hd vs ys)(c: ∀k,k∈F↔IW rows as hd k):(∀t∈dB F, ∀d∈t,VS d)/\ ∀n,tF n ((dB F).map MV.tup):=by have b:=λt a d hd=>Q.vv d ((sZ Q ((c t).mp ((xN F).mem_iff.mp a))).2 d hd);exact⟨b,λn=>gI λd hd=>by obtain⟨t,a,rfl⟩:=mM.mp hd;exact fO (fQ (b t a)).1⟩
def Vc(Q:QC rows as hd vs ys)(b:F.Nodup)(a: ∀k,k∈F↔IW rows as hd k)(c:S[lr]? =#[rows.map zV,2]):zK 2 wF [#[lr,1],#[[.tup #[hd,8],.tup #[as,9]],6]] S=#[(dB F).map MV.tup,S,2]:=
 let ⟨_,h⟩:=an_f Q b a (λ_=>Iff.rfl) Q.rl c;tV rfl h ((Ep Q a).2 _)
end
def rK(hd:Ch)(f:List Nat->MV)(t:MV):MV:=match vn t with
 |some x=>if x∈hd then .tup [.str IS,f x]else t
 |none=>t
def pM(hd:Ch)(f:List Nat->MV)(a:Rw):Rw:=(a.1,a.2.map (rK hd f))
noncomputable def Vz(hd:Ch)(f σ:List Nat->MV)(x:Db):MV:=if x∈hd then f x else σ x
def uW(hd:Ch)(f:List Nat->MV)(x:Db):rK hd f (.tup [.str GP,.str x])=if x∈hd then .tup [.str IS,f x]else .tup [.str GP,.str x]:=by unfold rK;rw[AN]
def FM(hd:Ch)(f:List Nat->MV)(v:MV):rK hd f (.tup [.str IS,v])=.tup [.str IS,v]:=by unfold rK;rw[BN]
def Mh{hd:Ch}{f:List Nat->MV}{t:MV}(h:gB t):SK σ (rK hd f t)=SK (Vz hd f σ) t:=by
 rcases h with⟨x,rfl⟩|⟨v,_,rfl⟩
 .rw[uW,uR];unfold Vz;by_cases c:x∈hd
  .rw[iP c,iP c,FK]
  .rw[iN c,iN c,uR]
 .rw[FM,FK,FK]
def Et{hd:Ch}{f:List Nat->MV}{a:Rw}(h: ∀t∈a.2,gB t):Mt rows (pM hd f a) σ↔Mt rows a (Vz hd f σ):=by unfold Mt pM;rw[Ĳ,Ė λt b=>show(SK σ∘rK hd f) t=SK _ t from Mh (h t b)]
section
variable{rows as:List Rw}{hd:Ch}{vs:C8}{ys:Ch}{f:List Nat->MV}
def Mi(Q:QC rows as hd vs ys){k:C8}:IW rows (as.map (pM hd f)) [] k↔k=[]/\IW rows as hd (hd.map f):=by
 have e: ∀σ,(∀b∈as.map (pM hd f),Mt rows b σ)↔ ∀b∈as,Mt rows b _:=λσ=>by
  constructor
  .exact λh b d=>(Et (Q.ha b d).1).mp (h _ (İ d))
  .intro h b d;obtain⟨a,j,rfl⟩:=mM.mp d;exact(Et (Q.ha a j).1).mpr (h a j)
 constructor
 .rintro⟨σ,h1,i⟩;exact⟨i,_,(e σ).mp h1,Ė λx m=>by unfold Vz;rw[iP m]⟩
 .rintro⟨rfl,τ,h1,i⟩
  have:Vz hd f τ=τ:=funext λx=>by
   unfold Vz;by_cases c:x∈hd
   .rw[iP c];exact List.map_inj_left.mp i x c
   .rw[iN c]
  exact⟨τ,(e τ).mpr (by rw[this];exact h1),rfl⟩
def Vd(Q:QC rows as hd vs ys)(n: ∀x∈hd,f x∈vs):QC rows (as.map (pM hd f)) [] vs ys:=by
 refine⟨Q.hv,Q.vv,Q.v1,Q.rl,λb i=>?_,λb i r o e=>?_,by rw[lM];exact Q.al,λx k=>(nomatch k),zero_le _,λx k=>?_,Q.yl,Q.pw,by rw[ú,Nat.pow_zero];decide⟩
 .obtain⟨a,h,rfl⟩:=mM.mp i;obtain⟨h1,m⟩:=Q.ha a h;refine⟨λd hd=>?_,by show(a.2.map _).length<=4;rw[lM];exact m⟩;obtain⟨t,j,rfl⟩:=mM.mp hd;rcases h1 t j with⟨x,rfl⟩|⟨v,hv,rfl⟩
  .rw[uW];split
   .rename_i c;exact .inr ⟨_,Q.vv _ (n x c),rfl⟩
   .exact .inl ⟨x,rfl⟩
  .rw[FM];exact .inr ⟨v,hv,rfl⟩
 .obtain⟨a,h,rfl⟩:=mM.mp i;show(a.2.map _).length=_;rw[lM];exact Q.hw a h r o e
 .obtain⟨b,i,t,j,e⟩:=kX.mp k;obtain⟨a,h,rfl⟩:=mM.mp i;obtain⟨s,hs,rfl⟩:=mM.mp j;rcases (Q.ha a h).1 s hs with⟨y,rfl⟩|⟨v,_,rfl⟩
  .rw[uW]at e;split at e
   .rw[BN]at e;cases e
   .exact Q.hy x (kX.mpr ⟨a,h,_,hs,e⟩)
  .rw[FM,BN]at e;cases e
end
noncomputable abbrev Pu(la:Nat)(H K:C8)(a lf:Nat)(t u p w n:C9):Rho:=[#[la],#[H,3],#[K,3],#[a],#[lf],t,u,p,w,n]
def Eu(S:Sto):vP (.val (.str GP)) (.val (.str [118,97,114])) S=#[.bl true,S,1]:=EE (tX _ _ _)
def Mj(S:Sto):vP (.val (.str IS)) (.val (.str [118,97,114])) S=#[.bl false,S,1]:=EE (tX _ _ _)
section
variable{hd:Ch}{f:List Nat->MV}
def VW(b: ∀x∈hd,VS (f x)):sY (wI hd (hd.map f)):=λp c=>by obtain⟨x,a,rfl⟩:=MA c;exact⟨⟨x,rfl⟩,b x a⟩
theorem Ew(m: ∀x∈hd,VS (f x)){la b lf:Nat}{H K:C8}{t u:C9}{B:Sto}(p:B[b]? =#[wI hd (hd.map f),7]): ∀(ts a:C8)(w n:C9),(∀d∈ts,gB d)->a.length+ts.length<1000->
  ∃q o,xP (mQ 2 (zB (yA 8) (zB (yA 9) yK))) kW [] ts (Pu la H K b lf t u #[B.length] w n) (B++[.lst a])=#[Pu la H K b lf t u #[B.length] q o,B++[.lst (a++ts.map (rK hd f))],0]
 |[],a,w,n,_,_=>⟨w,n,by rw[List.map_nil,aN];rfl⟩
 |d::ts,a,w,n,h,hl=>by
  rw[lC]at hl;have g:=zL B (.lst a);have k: ∀e,aW #[B.length,1] [.val e] (B++[.lst a])=#[.non,B++[.lst (a++[e])],1]:=λe=>by rw[xX g #[]];simp
  have step: ∃j i,mQ 2 (zB (yA 8) (zB (yA 9) yK)) d (Pu la H K b lf t u #[B.length] w n) (B++[.lst a])=.ok (Pu la H K b lf t u #[B.length] (some j) (some i)) (B++[.lst a])/\kW (Pu la H K b lf t u #[B.length] (some j) (some i)) (B++[.lst a])=#[Pu la H K b lf t u #[B.length] (some j) (some i),B++[.lst (a++[rK hd f d])],0]:=by
   rcases h d (.head _)with⟨x,rfl⟩|⟨v,_,rfl⟩
   .refine⟨_,_,rfl,?_⟩;have i1:=Ut (zD (L:=[.lst a]) p) (VW m) x;rw[mG]at i1;unfold kW bE;rw[uW];by_cases c:x∈hd
    .rw[iP c]at i1;simp? [Eu,i1,Option.isSome_some,Dy (zD p) (VW m) (by rw[mG,iP c]),tup2,yN g,k,iP c]
    .rw[iN c]at i1;simp? [Eu,i1,Option.isSome_none,tup2,yN g,k,iN c];rfl
   .refine⟨_,v,rfl,?_⟩;unfold kW bE;rw[FM];exists 7,Mj,fT,iF,yN g,k
  obtain⟨j,i,s,y⟩:=step;obtain⟨q,o,e⟩:=Ew m p ts (a++[rK hd f d]) (some j) (some i) (λe r=>h e (.tail _ r)) (by rw[lA];simp;lia);refine⟨q,o,?_⟩;rw[zX s y (dZ _),e,aA];rfl
theorem VX(C: ∀x∈hd,VS (f x)){la:Nat}{H K:C8}{B:Sto}{A:C8}(j:B[la]? =#[A,2])(z:B[B.length - 1]? =#[wI hd (hd.map f),7]): ∀(as a:List Rw)(T:Sto)(t u p w n:C9),(∀b∈as,(∀d∈b.2,gB d)/\b.2.length<=4)->a.length+as.length<1000->
  ∃o t' v y m k,xP (mQ 2 (zB (yA 5) (zB (yA 6) yK))) aF [(la,A)] #[as,9] (Pu la H K (B.length - 1) B.length t u p w n) (B++.lst #[a,9]::T)=#[Pu la H K (B.length - 1) B.length t' v y m k,(B++.lst ((a++as.map (pM hd f)).map zV)::o),0]
 |[],a,T,t,u,p,w,n,_,_=>⟨T,t,u,p,w,n,by rw[List.map_nil,List.map_nil,aN];rfl⟩
 |b::as,a,T,t,u,p,w,n,h,hl=>by
  rw[lC]at hl;obtain⟨E,D⟩:=h b (.head _);generalize i:B++.lst #[a,9]::T=B2;have s:B2[B.length - 1]? =#[wI hd (hd.map f),7]:=by rw[<-i];exact zD z
  obtain⟨m,k,e⟩:=Ew C s b.2 [] w n E (by simp;lia);rw[ģ]at e;have gf:(B2++[MO.lst (b.2.map (rK hd f))])[B.length]? =#[a.map zV,2]:=by rw[<-i];exact zD (lL _ _ _)
  have I:aW #[B.length,1] [.val (zV (pM hd f b))] (B2++[MO.lst (b.2.map (rK hd f))])=#[.non,(B++.lst ((a++[pM hd f b]).map zV)::(T++[MO.lst (b.2.map (rK hd f))])),1]:=by rw[xX gf (by rw[lM];lia), <-i,aA,Į,UX,ð];rfl
  obtain⟨o,t',v,y,r,q,G⟩:=VX C j z as (a++[pM hd f b]) (T++[MO.lst (b.2.map (rK hd f))]) #[b.1,0] #[b.2,3] #[B2.length] m k (λc F=>h c (.tail _ F)) (by rw[lA];simp;lia);refine⟨o,t',v,y,r,q,?_⟩;rw[å,zX (b:=aF) rfl (zE (ρ':=Pu la H K (B.length - 1) B.length #[b.1,0] #[b.2,3] #[B2.length] w n) (S':=B2++[.lst []]) ?_ (zE (ρ':=Pu la H K (B.length - 1) B.length #[b.1,0] #[b.2,3] #[B2.length] m k) (S':=B2++[.lst (b.2.map (rK hd f))]) ?_ ?_)) (yH (zD j)),G,aA]
  .rfl
  .unfold fC;exists 7,rfl
  .unfold fE;exists 7,FB,e
  .unfold fF;simp? [yN gf,qZ (zL B2 _),tup2,show MV.tup [.int b.1,.tup (b.2.map (rK hd f))]=zV (pM hd f b)from rfl,I]
theorem Ve{as:List Rw}(s:hd.Nodup)(q: ∀x∈hd,VS (f x)){la:Nat}(j:S[la]? =#[as.map zV,2])(o: ∀b∈as,(∀d∈b.2,gB d)/\b.2.length<=4)(z:as.length<=10):
  zK 3 oO [#[la,1],#[hd.map MV.str,6],#[hd.map f,6]] S=.ok #[[.tup [],.tup ((as.map (pM hd f)).map zV)],6] S:=by
 have k:(S++[MO.dic (wI hd (hd.map f))]).length=↑2+1:=by simp
 obtain⟨T,t,u,p,w,n,e⟩:=VX q (zD j) (by rw[k];exact zL _ _) as [] [] none none none none none o (by simp;lia);rw[k,add_sub_cancel,ģ]at e
 have A: ∀b∈as.map (pM hd f),pd (zV b)=true:=λb m=>by
  obtain⟨a,h1,rfl⟩:=mM.mp m;unfold zV pM;rw[xD,yB,yB,SF,xD,uL,Bool.and_true,Bool.true_and]
  exact bG λd h=>by
   obtain⟨t,r,rfl⟩:=mM.mp h;rcases (o a h1).1 t r with⟨x,rfl⟩|⟨v,hv,rfl⟩
   .rw[uW];split
    .rename_i c;rcases q x c with⟨i,e⟩|⟨y,e⟩<;>rw[e]<;>rfl
    .rfl
   .rw[FM];rcases hv with⟨i,rfl⟩|⟨y,rfl⟩<;>rfl
 refine ED (T:=.dic (wI hd (hd.map f))::.lst ((as.map (pM hd f)).map zV)::T) rfl ?_ (fO (by rw[xD,yB,yB,xD,xD,uL,Bool.and_true,Bool.true_and];exact bG λd h=>by obtain⟨b,m,rfl⟩:=mM.mp h;exact A b m)) (λl=>by simp);show yC (oN [#[la],#[hd.map MV.str,3],#[hd.map f,3],none,none,none,none,none,none,none] S)=_;unfold oN;refine dW (zE (ρ':=[#[la],#[hd.map MV.str,3],#[hd.map f,3],#[↑2],none,none,none,none,none,none]) (S':=S++[.dic (wI hd (hd.map f))]) ?_ (zE (ρ':=Pu la #[hd,8] (hd.map f) ↑2 (↑2+1) none none none none none) (S':=S++[.dic (wI hd (hd.map f))]++[.lst []]) ?_ (zE (ρ':=Pu la #[hd,8] (hd.map f) ↑2 (↑2+1) t u p w n) (S':=S++[.dic (wI hd (hd.map f))]++.lst ((as.map (pM hd f)).map zV)::T) ?_ ?_)))
 .unfold oH;simp? [Ng (.inl rfl) s]
 .unfold oI;simp? [XM];rw[k]
 .unfold oK;exists 7,yW (zD (zD j)),e
 .have g:(S++[.dic (wI hd (hd.map f))]++.lst ((as.map (pM hd f)).map zV)::T)[↑2+1]? =#[(as.map (pM hd f)).map zV,2]:=by rw[<-k];exact lL _ _ _
  unfold oM;simp? [qZ g,show∀S,xO [] S=.ok #[[],6] S from λS=>rfl,tup2];rw[aA];rfl
end
noncomputable def tD(vs:C8):Nat->List (List MV)
 |0=>[[]]
 |n+1=>(tD vs n).flatMap λs=>vs.map λv=>s++[v]
theorem oV{vs:C8}: ∀{n:Nat}{k:C8},k∈tD vs n↔k.length=n/\ ∀d∈k,d∈vs
 |0,k=>by
  unfold tD;rw[mS];constructor
  .rintro rfl;exact⟨rfl,λd h=>(nomatch h)⟩
  .exact λh=>Ń.mp h.1
 |n+1,k=>by
  unfold tD;rw[mem_flatMap];constructor
  .rintro⟨s,hs,c⟩;obtain⟨v,e,rfl⟩:=mM.mp c;obtain⟨h1,b⟩:=oV.mp hs;refine⟨by simp[h1],λd hd=>?_⟩;rcases é.mp hd with hd|hd
   .exact b d hd
   .rw[mS.mp hd];exact e
  .rintro⟨h1,b⟩;have a:k≠[]:=λz=>by rw[z]at h1;cases h1
   refine⟨_,oV.mpr ⟨by rw[List.length_dropLast,h1];rfl,λd hd=>b d ((List.dropLast_sublist k).subset hd)⟩,mM.mpr ⟨_,b _ (List.getLast_mem a),List.dropLast_concat_getLast a⟩⟩
theorem VY{vs:C8}(h:vs.length<=4): ∀n,(tD vs n).length<=4 ^ n
 |0=>à 1
 |n+1=>by
  have a:=VY h n
  have: ∀l:List _,(l.flatMap λs=>vs.map λv=>s++[v]).length<=4 * l.length:=λl=>by
   induction l with
   |nil=>simp
   |cons s l a=>rw[flatMap_cons,lA,lM,lC];lia
  have:=this (tD vs n);unfold tD
  lia
noncomputable abbrev AL(lp:Nat)(n:Int)(lf:Nat)(k m s:C9):Rho:=[#[lp],#[n,0],#[lf],k,m,s]
section
variable{vs:C8}{lp:Nat}
theorem Ex(o:vs.length<=4){n:Int}{lf:Nat}{W:C8}{k:C9}{Z:Sto}(h:Z[lp]? =#[vs,2])(d:Z[lf]? =#[W,2]): ∀(b a:E4)(s:C9),(∀t∈b,t.length<=10)->a.length+4 * b.length<=1000->
  ∃s',xP (yA 5) aG [(lf,W)] (b.map .tup) (AL lp n lf k #[Z.length] s) (Z++[.lst (a.map .tup)])=#[AL lp n lf k #[Z.length] s',Z++[.lst ((a++b.flatMap λs=>vs.map λv=>s++[v]).map .tup)],0]
 |[],a,s,_,_=>⟨s,by rw[List.flatMap_nil,aN];rfl⟩
 |t::b,a,s,ht,hl=>by
  rw[lC]at hl;have i:=ht t (.head _);have g:=zL Z (.lst (a.map MV.tup));have c:=zD (L:=[.lst (a.map MV.tup)]) h
  have j:yD (yA 0) bF kN [none,#[t,3]] [(lp,vs)] vs (Z++[.lst (a.map .tup)])=.ok ((vs.map λv=>t++[v]).map .tup) (Z++[.lst (a.map .tup)]):=by
   have:=lZ (f:=id) (g:=λv=>MV.tup (t++[v])) (gf:=yA 0) (cf:=bF) (ef:=kN) (ρb:=[none,#[t,3]]) (yH c) (ds:=vs) λv _=>by refine⟨[some v,#[t,3]],rfl,rfl,?_⟩;unfold kN;simp? [show∀T,xO [.val v] T=.ok #[[v],6] T from λT=>KA (by simp),TU (x:=t) (y:=[v]) (fits (by simp;lia))]
   rw[List.map_id]at this;rw[this,Ĳ];rfl
  obtain⟨s',e⟩:=Ex o h d b (a++vs.map λv=>t++[v]) #[t,3] (λu m=>ht u (.tail _ m)) (by rw[lA,lM];lia);refine⟨s',?_⟩;rw[å,zX rfl ?_ (yH (zD d)),e,flatMap_cons,aA];unfold aG fG;simp? [yN g,yW c,show vs.length<1000000 by lia,show vE 1 [5] (AL lp n lf k #[Z.length] #[t,3])=[none,#[t,3]]from rfl,j,Lh g (show(a.map MV.tup).length+((vs.map λv=>t++[v]).map MV.tup).length<=1000000 by rw[lM,lM,lM];lia)];rw[ð];simp
theorem Vf(u: ∀d∈vs,VS d)(p:vs.length<=4){n:Nat}(v:n<=3)(r:S[lp]? =#[vs,2]):zK 2 oU [#[lp,1],#[(n:Int),5]] S=#[(tD vs n).map .tup,S,2]:=by
 have h: ∀i,i<=3->(tD vs i).length<=64:=λi hi=>õ (VY p i) (õ (Nat.pow_le_pow_right (by decide) hi) (by decide))
 obtain⟨_,Z,e,lf,T,k,m,s,rfl,rfl,o,a⟩:=aL (gf:=yA 3) (body:=aH) (n:=n) (λi ρ Z=> ∃(lf:Nat)(T:Sto)(k m s:C9),ρ=AL lp n lf k m s/\Z=S++T/\↑2<=lf/\Z[lf]? =#[(tD vs i).map .tup,2]) ((List.range n).map aK) 0 (by simp) ⟨↑2,_,none,none,none,rfl,rfl,à _,zL _ _⟩ λd _ i hi ρ Z ⟨lf,T,k,m,s,q,c,o,a⟩=>by
  subst q;have j:Z[lp]? =#[vs,2]:=by rw[c];exact zD r
  have:=h i #[];obtain⟨s',e⟩:=Ex (n:=n) p j a (tD vs i) [] s (λt b=>by rw[(oV.mp b).1];lia) (by simp;lia);refine⟨_,_,Z++[.lst _],rfl,?_,Z.length,_,some d,#[Z.length],s',rfl,by rw[c,aA],by rw[c,lA];lia,zL _ _⟩;unfold aH;refine zE (ρ':=AL lp n lf (some d) #[Z.length] s) (S':=Z++[.lst []]) ?_ (zE (ρ':=AL lp n lf (some d) #[Z.length] s') (S':=Z++[.lst ((tD vs (i+1)).map .tup)]) ?_ ?_)
  .unfold fH;exists 7,rfl
  .unfold fI;exists 7,yW (zD a),e
  .unfold fM;exists 7,rfl
 rw[lM,Ē,Ă]at a;refine tW rfl ?_ o a (gI λd hd=>?_)
 .show yC (oS [#[lp],#[n,0],none,none,none,none] S)=_;unfold oS;refine dW (zE (ρ':=AL lp n ↑2 none none none) (S':=S++[.lst [.tup []]]) ?_ (zE (ρ':=AL lp n lf k m s) (S':=S++T) ?_ ?_))
  .unfold oP;exists 7,show∀S,xO [] S=.ok #[[],6] S from λS=>rfl
  .unfold oQ;simp? [Dl (n:=n) #[]];exact e
  .unfold oR;exists 7,rfl
 .obtain⟨t,b,rfl⟩:=mM.mp hd;exact fO (fQ λd hd=>u d ((oV.mp b).2 d hd)).1
end
noncomputable def lN(j:Nat)(k:List α):List α:=k.take j++k.drop (j+1)
def MD{β:Type}(f:α->β)(j:Nat)(k:List α):(lN j k).map f=lN j (k.map f):=by unfold lN;rw[ð,List.map_take,map_drop]
def ME{k:List α}{x:α}(h:x∈lN j k):x∈k:=by
 rcases é.mp h with h|h
 .exact mem_of_mem_take h
 .exact List.mem_of_mem_drop h
theorem MF{k:List α}(h:j<k.length):(lN j k).length=k.length - 1:=by unfold lN;rw[lA,lT,þ];lia
theorem VZ(ds:C8)(j:Nat)(h:ds.length<=1000)(S:Sto):wH #[fS ds none (some (j:Int)),6] #[fS ds (some ((j:Int)+1)) none,6] S=.ok #[lN j ds,6] S:=by rw[YU,show _+1=((j+1:Nat):Int) by lia,AO,TU (fits (by rw[lT,þ];omega))];rfl
noncomputable abbrev Vg(lt:Nat)(j:Int)(lf:Nat)(a s:C9):Rho:=[#[lt],#[j,0],#[lf],a,s]
theorem WA{lt j:Nat}{W:C8}{B:Sto}(p:B[lt]? =#[W,2]): ∀(ks F:E4)(a s:C9),F.Nodup->(∀k∈ks, ∀d∈k,VS d)->(∀k∈F, ∀d∈k,VS d)->(∀k∈ks,k.length<=10)->F.length+ks.length<1000->
  ∃(i:E4)(o s':C9),xP (yA 3) jH [(lt,W)] (ks.map .tup) (Vg lt j B.length a s) (B++[.lst (F.map .tup)])=#[Vg lt j B.length o s',B++[.lst (i.map .tup)],0]/\i.Nodup/\ ∀q,q∈i↔q∈F\/ ∃k∈ks,q=lN j k
 |[],F,a,s,nd,_,_,_,_=>⟨F,a,s,rfl,nd,λq=>by simp⟩
 |k::ks,F,a,s,nd,hv,hF,h10,hl=>by
  rw[lC]at hl;have w:=hv k (.head _);have hd: ∀d∈lN j k,VS d:=λd hd=>w d (ME hd);have g:=zL B (.lst (F.map MV.tup));have hi:CO true #[lN j k,6] #[B.length,1] (B++[.lst (F.map .tup)])=#[.bl (!decide (lN j k∈F)),B++[.lst (F.map .tup)],1]:=by rw[iO true g (fQ hd).1 (λy m=>by obtain⟨t,n,rfl⟩:=mM.mp m;have:=fQ (hF t n);exact⟨this.1,by lia⟩),iP rfl,dec_is (⟨λz=>by obtain⟨t,n,e⟩:=mM.mp z;exact MV.tup.inj e▸n,λz=>İ z⟩)]
  obtain⟨b,h1,u,A,E,v⟩: ∃b:List (List MV),jH (Vg lt j B.length #[k,3] s) (B++[.lst (F.map .tup)])=#[Vg lt j B.length #[k,3] #[lN j k,3],B++[.lst (b.map .tup)],0]/\b.Nodup/\(∀k∈b, ∀d∈k,VS d)/\b.length<=F.length+1/\ ∀q,q∈b↔q∈F\/q=lN j k:=by
   unfold jH;rw[zC (show jV _ _=#[Vg lt j B.length #[k,3] #[lN j k,3],B++[.lst (F.map .tup)],0] by unfold jV;simp? [LM,VZ k j (by have:=h10 k (.head _);lia)])];unfold dU;by_cases z:lN j k∈F
   .refine⟨F,?_,nd,hF,by lia,λq=>⟨.inl,λy=>y.elim id λy=>y▸z⟩⟩;simp? [hi,dT0 z,ń,fT,iF]
   .refine⟨F++[lN j k],?_,Ĥ.mpr ⟨nd,by simp,λx D y m e=>z (by rw[mS.mp m]at e;exact e▸D)⟩,λq c=>?_,by simp,λq=>by rw[é,mS]⟩
    .simp? [hi,dF0 z,Bool.not_false,yN g,xX g (by rw[lM];lia)];rw[ð];simp
    .rcases é.mp c with h|h
     .exact hF q h
     .rw[mS.mp h];exact hd
  obtain⟨i,o,s',C,g2,r⟩:=WA (j:=j) p ks b #[k,3] #[lN j k,3] u (λq c=>hv q (.tail _ c)) A (λq c=>h10 q (.tail _ c)) #[];refine⟨i,o,s',?_,g2,λq=>by rw[r,v];simp[or_assoc]⟩;rw[å,zX rfl h1 (yH (zD p))];exact C
theorem Mk{lt w:Nat}{R:E4}(r:S[lt]? =#[R.map .tup,2])(u: ∀k∈R, ∀d∈k,VS d)(hw: ∀k∈R,k.length=w)(v:j<w)(n:w<=10)(A:R.length<128):
  ∃F:List (List MV),F.Nodup/\(∀q,q∈F↔ ∃k∈R,q=lN j k)/\zK 2 iM [#[lt,1],#[(j:Int),5]] S=#[(dB F).map .tup,S,2]:=by
 obtain⟨F,a,s,e,o,i⟩:=WA (j:=j) r R [] none none .nil u (λk b=>(nomatch b)) (λk b=>by rw[hw k b];exact n) (by simp;lia);have i: ∀q,q∈F↔ ∃k∈R,q=lN j k:=λq=>by rw[i];simp
 have h: ∀t∈F, ∀d∈t,VS d:=λt c d hd=>by obtain⟨k,b,rfl⟩:=(i t).mp c;exact u k b d (ME hd)
 have m: ∀t∈F,t.length=w - 1:=λt c=>by obtain⟨k,b,rfl⟩:=(i t).mp c;rw[MF (by rw[hw k b];exact v),hw k b]
 have y:F.length<128:=by
  have:=o.length_le_of_subset λq z=>by obtain⟨k,b,rfl⟩:=(i q).mp z;exact İ b
  rw[lM]at this
  lia
 have hs:=VR (l:=true) (p:=#[↑2,1]) (S:=S++[.lst (F.map .tup)]) h m y (by unfold jD;dsimp only;rw[zL]) (λt c=>Em (h t c) (by rw[m t c];lia) _);refine⟨F,o,i,tV (T:=[.lst (F.map .tup)]) rfl ?_ (gI λd hd=>by obtain⟨t,c,rfl⟩:=mM.mp hd;exact fO (fQ (h t ((xN F).mem_iff.mp c))).1)⟩;show yC (iL [#[lt],some _,none,none,none] S)=_;unfold iL;refine dW (zE (ρ':=Vg lt j ↑2 none none) (S':=S++[.lst []]) ?_ (zE (ρ':=Vg lt j ↑2 a s) (S':=S++[.lst (F.map .tup)]) ?_ ?_))
 .unfold lH;exists 7,rfl
 .unfold lI;exists 7,yW (zD r),e
 .unfold lK;exists 7,hs
theorem Nk{vs:C8}{hs:Ch}{as rs:List Rw}(A:Kz ts)(q: ∀d∈vs,VS d)(u:1<=vs.length)(C:vs.length<=4)(j:ys.length=3)(i: ∀a∈as,Zl ts ys vs a)(D:as.length<=4)(w:hs.length<=3)(s: ∀y∈hs,y∈xM [] (dX as))(o: ∀r∈rs,Nf ts vs r)(E:rs.length<=30):QC rs as hs vs ys:=by
 have m: ∀{n:Nat},n<=3->vs.length ^ n<=4 ^ 3:=λh=>õ (Nat.pow_le_pow_left C _) (Nat.pow_le_pow_right (by decide) h);refine⟨λr h=>(o r h).2,q,u,by lia,λb c=>⟨λd hd=>((i b c).2 d hd).ok q,?_⟩,λb c r h e=>by rw[(i b c).1,(o r h).1,e],by lia,λx k=>by have:=s x k;rw[qI]at this;simpa using this,by lia,λx k=>?_,by lia,?_,?_⟩
 .rw[(i b c).1];unfold YX
  cases z:ts[b.1.toNat]? with
  |none=>simp
  |some p=>have:=A.2.2 p (è z);simp;lia
 .obtain⟨b,c,t,B,e⟩:=kX.mp k;rcases (i b c).2 t B with⟨y,j,rfl⟩|⟨v,_,rfl⟩
  .rw[AN]at e;cases e;exact j
  .rw[BN]at e;cases e
 .rw[j];exact õ (m (à 3)) (by decide)
 .exact ň (m w) (by decide)
theorem fn_of: ∀{hd:Ch}{k:C8},hd.Nodup->k.length=hd.length-> ∃f:List Nat->MV,k=hd.map f
 |[],[],_,_=>⟨λ_=>.non,rfl⟩
 |x::hd,d::k,nd,h=>by obtain⟨h1,a⟩:=nodup_cons.mp nd;obtain⟨f,rfl⟩:=fn_of a (Nat.succ.inj h);refine⟨λy=>if y=x then d else f y,?_⟩;rw[å,iP rfl];refine congrArg _ (Ė λy b=>?_);rw[iN λz=>h1 (by rw[<-z];exact b)]
def Ml{ds:C8}(a: ∀d∈ds,pd d=true/\vF d<zH)(S:Sto):vP (.new ds) (.new ds) S=#[.bl true,S,1]:=by
 obtain⟨bs,h1,b⟩:=uM λd hd f c=>fN zH (a d hd).1 (a f c).1 (a d hd).2;rw[dT0 rfl,aE]at b;have:CG S zH (.new ds) (.new ds)=some true:=by show(if ds.length=ds.length then(BC _ ds ds).map λbs=>bs.all id else some false)=_;rw[iP rfl,h1];show some (bs.all id)=_;rw[b.1]
 unfold vP;rw[this]
noncomputable abbrev LQ(q:MV)(H:MV)(o:List (Option MV)):Rho:=some q::#[0]::#[1]::#[2]::#[5]::#[4]::some H::o
theorem WB{l:Nat}{R:E4}{k:C8}(a:Bool)(c:S[l]? =#[R.map .tup,2])(j: ∀t∈R, ∀d∈t,VS d)(h: ∀d∈k,VS d):CO a #[k,6] #[l,1] S=#[.bl (if a=true then !decide (k∈R)else decide (k∈R)),S,1]:=by rw[iO a c (fQ h).1 (λy i=>by obtain⟨t,b,rfl⟩:=mM.mp i;have:=fQ (j t b);exact⟨this.1,by lia⟩),dec_is (⟨λz=>by obtain⟨t,b,e⟩:=mM.mp z;exact MV.tup.inj e▸b,λz=>İ z⟩)]
section
variable{rs as:List Rw}{hs:Ch}{vs:C8}{ys:Ch}{q:MV}{U:E4}{S9:Sto}
def ZF(Q:QC rs as hs vs ys)(n:hs.Nodup)(v:S9[4]? =#[as.map zV,2])(C:S9[6]? =#[rs.map zV,2])(z:S9[7]? =#[U.map .tup,2])(u: ∀k,k∈U↔IW rs as hs k){k:C8}(o:k.length=hs.length/\ ∀d∈k,d∈vs)(T:Sto)(l:C9):
  ∃B y,uH (LQ q (.tup #[hs,8]) [#[6],#[7],#[8],#[k,3],l,none]) (S9++T)=#[LQ q (.tup #[hs,8]) [#[6],#[7],#[8],#[k,3],B,none],S9++y,0]:=by
 classical
 obtain⟨f,rfl⟩:=fn_of n o.1;have r: ∀x∈hs,f x∈vs:=λx h=>o.2 _ (İ h);have e: ∀x∈hs,VS (f x):=λx h=>Q.vv _ (r x h);have w:=Ve n e (zD (L:=T) v) Q.ha Q.al
 have s:zK 2 wF [#[6,1],#[[.tup [],.tup ((as.map (pM hs f)).map zV)],6]] (S9++T)=#[if IW rs as hs (hs.map f)then [.tup []]else [],S9++T,2]:=by
  have:=Vc (F:=if IW rs as hs (hs.map f)then [[]]else []) (Vd Q r) (by split<;>simp) (λk=>by rw[Mi Q];split<;>simp[*]) (zD (L:=T) C)
  rw[show((dB (if IW rs as hs (hs.map f)then [[]]else [])).map MV.tup)=if IW rs as hs (hs.map f)then [.tup []]else [] by
   split
   .have:=xN [([]:C8)];rw[List.perm_singleton.mp this];rfl
   .rw[(xN []).eq_nil];rfl]at this
  exact this
 generalize a:(if IW rs as hs (hs.map f)then [MV.tup []]else [])=D at s;have j:CO false #[hs.map f,6] #[7,1] (S9++T++[.lst D]++[.lst [],.lst [.tup []]])=#[.bl (decide (IW rs as hs (hs.map f))),S9++T++[.lst D]++[.lst [],.lst [.tup []]],1]:=by rw[WB false (zD (zD (zD z))) (λt A d hd=>Q.vv d ((sZ Q ((u t).mp A)).2 d hd)) (λd hd=>by obtain⟨x,h,rfl⟩:=mM.mp hd;exact e x h),iN xF0,dec_is (u _)]
 have m:(S9++T++[MO.lst D]).length=(S9++T).length+1:=by rw[lA];rfl
 have cl:xT [.new [],.new [.tup []]] (S9++T++[.lst D])=#[[.loc ((S9++T).length+1),.loc ((S9++T).length+2)],S9++T++[.lst D]++[.lst [],.lst [.tup []]],2]:=by rw[sI (by simp)];show R.ok (Er.new [.loc (S9++T++[MO.lst D]).length,.loc (S9++T++[MO.lst D]++[MO.lst []]).length]) (S9++T++[MO.lst D]++[MO.lst []]++[MO.lst [.tup []]])=_;rw[lA (bs:=[MO.lst []]),m,aA _ [MO.lst []]];rfl
 have p:(S9++T++[MO.lst D]++[MO.lst [],.lst [.tup []]])[(S9++T).length]? =#[D,2]:=zD (zL _ _);refine⟨#[(S9++T).length],T++[.lst D,.lst [],.lst [.tup []]],?_⟩;unfold uH;refine zE (ρ':=LQ q (.tup #[hs,8]) [#[6],#[7],#[8],#[hs.map f,3],#[(S9++T).length],none]) (S':=S9++T++[.lst D]) ?_ ?_
 .unfold AI;exists 7,w,s
 .unfold AK;by_cases c:IW rs as hs (hs.map f)
  .rw[iP c]at a;rw[dT0 c]at j;have g2:(S9++T++[MO.lst D]++[MO.lst [],.lst [.tup []]])[(S9++T).length+2]? =#[D,2]:=by show(S9++T++[MO.lst D]++_)[(S9++T).length+1+1]? =_;rw[LN m, <-a];rfl
   simp? [show∀S,xO [] S=.ok #[[],6] S from λS=>rfl,XM,lst1,cl,j,show∀b T,Bi [.val (.bl b)] T=.ok #[if b=true then 1 else 0,5] T from λ_ _=>rfl,RN (ds:=[.loc ((S9++T).length+1),.loc ((S9++T).length+2)]) (i:=1) rfl,RM (Dq (k:=zH) p g2 λd hd=>by rw[<-a]at hd;rw[mS.mp hd];exact⟨rfl,by decide⟩)];simp
  .rw[iN c]at a;rw[dF0 c]at j;have g2:(S9++T++[MO.lst D]++[MO.lst [],.lst [.tup []]])[(S9++T).length+1]? =#[D,2]:=by show(S9++T++[MO.lst D]++_)[(S9++T).length+1+0]? =_;rw[LN m, <-a];rfl
   simp? [show∀S,xO [] S=.ok #[[],6] S from λS=>rfl,XM,lst1,cl,j,show∀b T,Bi [.val (.bl b)] T=.ok #[if b=true then 1 else 0,5] T from λ_ _=>rfl,fT,iF,RN (ds:=[.loc ((S9++T).length+1),.loc ((S9++T).length+2)]) (i:=0) (d:=.loc ((S9++T).length+1)) rfl,RM (Dq (k:=zH) p g2 λd hd=>by rw[<-a]at hd;cases hd)];simp
theorem WC(Q:QC rs as hs vs ys)(o:hs.Nodup)(j:S9[4]? =#[as.map zV,2])(p:S9[6]? =#[rs.map zV,2])(n:S9[7]? =#[U.map .tup,2])(r: ∀k,k∈U↔IW rs as hs k){W:C8}(m:S9[8]? =#[W,2]): ∀(E:E4)(T:Sto)(a l:C9),(∀k∈E,k.length=hs.length/\ ∀d∈k,d∈vs)->
  ∃e i b,xP (yA 10) uH [(8,W)] (E.map .tup) (LQ q (.tup #[hs,8]) [#[6],#[7],#[8],a,l,none]) (S9++T)=#[LQ q (.tup #[hs,8]) [#[6],#[7],#[8],e,i,none],S9++b,0]
 |[],T,a,l,_=>⟨a,l,T,rfl⟩
 |k::E,T,a,l,h=>by obtain⟨l1,w,v⟩:=ZF Q o j p n r (h k (.head _)) T l;obtain⟨e,i,b,u⟩:=WC Q o j p n r m E w _ l1 λc s=>h c (.tail _ s);refine⟨e,i,b,?_⟩;rw[å,zX rfl v (yH (zD m)),u]
end
def Ey(o:Za)(a0:o.length<=63): ∃S,IL [.scr (o.map MV.int)] []=#[.bl true,S,1]:=by
 obtain⟨c0,ab⟩:=rD o 0 (by decide) [];obtain⟨t0,au⟩:=cE c0 [];obtain⟨ts,hT,O⟩:=YW t0 [];obtain⟨c1,af⟩:=rD o 1 (by decide) [.lst (ts.map tbl)];obtain⟨t1,aw⟩:=cE c1 [.lst (ts.map tbl)];obtain⟨vs,C,v1,v4,B⟩:=Lj t1 [.lst (ts.map tbl)];obtain⟨c2,X⟩:=rD o 2 (by decide) [.lst (ts.map tbl),.lst vs];obtain⟨t2,ar⟩:=cE c2 [.lst (ts.map tbl),.lst vs];obtain⟨ys,hy,ah⟩:=Du t2 [.lst (ts.map tbl),.lst vs];generalize hP:([.lst (ts.map tbl),.lst vs,.lst #[ys,8]]:Sto)=P;have p0:P[0]? =#[ts.map tbl,2]:=by rw[<-hP];rfl
 have p1:P[1]? =#[vs,2]:=by rw[<-hP];rfl
 have p2:P[2]? =#[ys.map MV.str,2]:=by rw[<-hP];rfl
 have J:P.length=3:=by rw[<-hP];rfl
 obtain⟨c3,ag⟩:=rD o 3 (by decide) P;obtain⟨D,ak⟩:=cE c3 P;have m3:=md (x:=D) (n:=4);have l4:3<(P++[MO.lst []]).length:=by rw[lA,J];decide
 have U:=yS (S:=P++[.lst []]) (l:=3) (x:=D) (n:=4) l4;obtain⟨as,z2,al,hA,H⟩:=Dw (S:=P++[.lst []]) (M:=(1+D % 4).toNat) (l:=3) (p:=1) (q:=2) (lt:=0) l4 (by decide) (by decide) (by decide) (zD p1) (zD p2) (zD p0) C v1 v4 (by omega) (by omega) hT (by omega) (D / 4);rw[show aK (1+D % 4).toNat=.int (1+D % 4) by unfold aK;rw[Int.toNat_of_nonneg (by omega)]]at H;have wi: ∀z,Wl (P++[.lst []]) 3 z=P++[.lst [.int z]]:=λz=>by rw[<-J];exact(pF P z).symm
 rw[wi,wi]at U H;generalize u:P++[.lst [.int z2]]++[.lst #[as,9]]=S5;have q0:S5[0]? =#[ts.map tbl,2]:=by rw[<-u];exact zD (zD p0)
 have q1:S5[1]? =#[vs,2]:=by rw[<-u];exact zD (zD p1)
 have q4:S5[4]? =#[as.map zV,2]:=by rw[<-u,show 4=(P++[MO.lst [.int z2]]).length by rw[lA,J];rfl];exact zL _ _
 have q5:S5.length=5:=by rw[<-u,lA,lA,J];rfl
 obtain⟨c5,ae⟩:=rD o 5 (by decide) S5;obtain⟨t5,aq⟩:=cE c5 S5;have aM: ∀b∈as,(∀d∈b.2,gB d)/\b.2.length<=4:=(Nk (hs:=[]) (rs:=[]) hT C v1 v4 hy hA (by omega) (by simp) (λy h=>by cases h) (λr h=>by cases h) (by simp)).ha;have l6:5<(S5++[MO.lst []]).length:=by rw[lA,q5];decide
 obtain⟨hs,m,h3,hh,az,e⟩:=Ln (S:=S5++[.lst []]) (l:=5) (a:=4) (x:=t5) l6 (by decide) (zD q4) aM (by omega);have wj: ∀z,Wl (S5++[.lst []]) 5 z=S5++[.lst [.int z]]:=λz=>by rw[<-q5];exact(pF S5 z).symm
 rw[wj,wj]at e;generalize v:S5++[.lst [.int m]]=S6 at e;have s0:S6[0]? =#[ts.map tbl,2]:=by rw[<-v];exact zD q0
 have s1:S6[1]? =#[vs,2]:=by rw[<-v];exact zD q1
 have s4:S6[4]? =#[as.map zV,2]:=by rw[<-v];exact zD q4
 have s5:S6[5]? =#[[.int m],2]:=by rw[<-v, <-q5];exact zL _ _
 have E:S6.length=6:=by rw[<-v,lA,q5];rfl
 obtain⟨c4,W⟩:=rD o 4 (by decide) S6;obtain⟨rs,hr,rl,Y⟩:=Lp (S:=S6) (p:=1) (lt:=0) s1 s0 C v1 v4 hT c4 (cs:=o.drop 6) (by rw[þ];omega);have Q:=Nk hT C v1 v4 hy hA (by omega) h3 hh hr rl;obtain⟨F,_,nd,hF,_⟩:=Nj (S:=S6++[.lst #[rs,9]]) (lr:=6) Q (by rw[<-E];exact zL _ _);have hR: ∀k,k∈dB F↔IW rs as hs k:=λk=>by rw[(xN F).mem_iff,hF]
 have ay:=(Ep Q hF).1;have fl:F.length<128:=ň (SN nd λk A=>sZ Q ((hF k).mp A)) Q.ph;have ai:(dB F).length<128:=by rw[(xN F).length_eq];exact fl
 generalize c:S6++[.lst #[rs,9]]++[.lst ((dB F).map .tup)]=S8;have u6:S8[6]? =#[rs.map zV,2]:=by rw[<-c];exact zD (by rw[<-E];exact zL _ _)
 have u1:S8[1]? =#[vs,2]:=by rw[<-c];exact zD (zD s1)
 have u7:S8[7]? =#[(dB F).map .tup,2]:=by rw[<-c,show 7=(S6++[MO.lst #[rs,9]]).length by rw[lA,E];rfl];exact zL _ _
 have u8:S8.length=8:=by rw[<-c,lA,lA,E];rfl
 have call:=Vf C v4 h3 u1;generalize i:S8++[.lst ((tD vs hs.length).map .tup)]=S9;have w4:S9[4]? =#[as.map zV,2]:=by rw[<-i, <-c];exact zD (zD (zD s4))
 have w5:S9[5]? =#[[.int m],2]:=by rw[<-i, <-c];exact zD (zD (zD s5))
 have w6:S9[6]? =#[rs.map zV,2]:=by rw[<-i];exact zD u6
 have w7:S9[7]? =#[(dB F).map .tup,2]:=by rw[<-i];exact zD u7
 have w8:S9[8]? =#[(tD vs hs.length).map .tup,2]:=by rw[<-i, <-u8];exact zL _ _
 obtain⟨q,hq⟩: ∃q,q=MV.scr (o.map MV.int):=⟨_,rfl⟩
 obtain⟨a,l,T,s⟩:=WC (q:=q) Q az w4 w6 w7 hR w8 (tD vs hs.length) [] none none λk A=>oV.mp A;rw[aN]at s;have K:vQ (.val q) (some 6) none S6=#[(o.drop 6).map MV.int,S6,2]:=by rw[hq,map_drop, <-AO];rfl
 have aj:yD (yA 0) qY AH [none,#[8]] [(7,(dB F).map .tup)] ((dB F).map .tup) S9=.ok [] S9:=HV (yH w7) λd hd=>by obtain⟨k,A,rfl⟩:=mM.mp hd;refine⟨[#[k,3],#[8]],rfl,?_⟩;have:=sZ Q ((hR k).mp A);have hi:=WB true w8 (λt ht d hd=>C d ((oV.mp ht).2 d hd)) (λd hd=>C d (this.2 d hd));rw[iP rfl,dT0 (oV.mpr this)]at hi;unfold qY;exists 7,hi
 rw[<-hq]at ab af X ag W ae;have av: ∀{S:Sto},S[6]? =#[rs.map zV,2]->zK 2 wF [#[6,1],#[[.tup #[hs,8],.tup #[as,9]],6]] S=#[(dB F).map .tup,S,2]:=λh=>Vc Q nd hF h
 have fin: ∀{S:Sto},zI qH (zI uI uK) (LQ q (.tup #[hs,8]) [#[6],#[7],#[8],a,l,none]) (S9++T)=.ok (.ret (.val (.bl true))) S-> ∃S,IL [q] []=#[.bl true,S,1]:=λ{S} N=>by
  refine⟨S,?_⟩;show yC (UT [some q,none,none,none,none,none,none,none,none,none,none,none,none] [])=_;refine dW ?_;unfold UT;refine zE (ρ':=[some q,#[0],none,none,none,none,none,none,none,none,none,none,none]) (S':=[.lst (ts.map tbl)]) ?_ ?_
  .unfold KZ;exists 7,ab,au,O
  refine zE (ρ':=[some q,#[0],#[1],none,none,none,none,none,none,none,none,none,none]) (S':=[.lst (ts.map tbl),.lst vs]) ?_ ?_
  .unfold LA;exists 7,af,aw,B
  refine zE (ρ':=[some q,#[0],#[1],#[2],none,none,none,none,none,none,none,none,none]) (S':=P) ?_ ?_
  .unfold LB;simp? [X,ar,ah];rw[<-hP];rfl
  refine zE (ρ':=[some q,#[0],#[1],#[2],#[3],none,none,none,none,none,none,none,none]) (S':=P++[.lst [.int D]]) ?_ ?_
  .unfold LC;simp? [ag,ak];rw[J]
  refine zE (ρ':=[some q,#[0],#[1],#[2],#[3],#[4],none,none,none,none,none,none,none]) (S':=S5) ?_ ?_
  .unfold LD;simp? [U,H];rw[u,lA,J];rfl
  refine zE (ρ':=[some q,#[0],#[1],#[2],#[5],#[4],none,none,none,none,none,none,none]) (S':=S5++[.lst [.int t5]]) ?_ ?_
  .unfold LE;simp? [ae,aq];rw[q5]
  refine zE (ρ':=LQ q (.tup #[hs,8]) [none,none,none,none,none,none]) (S':=S6) ?_ ?_
  .unfold LF;exists 7,e,AQ
  refine zE (ρ':=LQ q (.tup #[hs,8]) [#[6],none,none,none,none,none]) (S':=S6++[.lst #[rs,9]]) ?_ ?_
  .unfold LG;simp? [K,W,Y];rw[E]
  refine zE (ρ':=LQ q (.tup #[hs,8]) [#[6],#[7],none,none,none,none]) (S':=S8) ?_ ?_
  .unfold LH;simp? [qZ (zD (L:=[.lst #[rs,9]]) s4),tup2,av (show(S6++[MO.lst #[rs,9]])[6]? =_ by rw[<-E];exact zL _ _)];rw[c,lA,E];rfl
  refine zE (ρ':=LQ q (.tup #[hs,8]) [#[6],#[7],none,none,none,none]) (S':=S8) ?_ ?_
  .unfold EW;exists 7,Mg u7,ń,fT,iF
  refine zE (ρ':=LQ q (.tup #[hs,8]) [#[6],#[7],#[8],none,none,none]) (S':=S9) ?_ ?_
  .unfold EX;simp? [UU,lM,call];rw[i,u8]
  refine zE (ρ':=LQ q (.tup #[hs,8]) [#[6],#[7],#[8],none,none,none]) (S':=S9) ?_ ?_
  .unfold EY;simp? [yW w7,lM,show(dB F).length<1000000 by omega,show vE 1 [9] (LQ q (.tup #[hs,8]) [#[6],#[7],#[8],none,none,none])=[none,#[8]]from rfl,aj,XM,show RE (.new []) (.new []) S9=#[.bl false,S9,1] from rfl,fT,iF]
  refine zE (ρ':=LQ q (.tup #[hs,8]) [#[6],#[7],#[8],a,l,none]) (S':=S9++T) ?_ N;unfold EZ;simp? [yW w8];exact s
 rw[<-hq];have ao:pd (.tup #[hs,8])=true:=by rw[xD];exact bG λd hd=>by obtain⟨x,_,rfl⟩:=mM.mp hd;exact sV x
 have ax:vF (.tup #[hs,8])<40:=by rw[jW];have:=rB (ds:=hs.map MV.str) (n:=0) (λd hd=>by obtain⟨x,_,rfl⟩:=mM.mp hd;rw[aI];exact à 0);omega
 have de:decide (MV.tup #[hs,8]=.tup [])=decide (hs=[]):=dec_is ⟨λh=>List.map_eq_nil_iff.mp (MV.tup.inj h),λh=>by rw[h];rfl⟩;have ee:vP #[hs.map MV.str,6] #[[],6] (S9++T)=#[.bl (decide (hs=[])),S9++T,1]:=by rw[La ao (by rw[xD];exact uL) ax,de]
 by_cases hn:hs=[]
 .refine fin (S:=S9++T) (mT ?_);unfold qH;simp? [show∀S,xO [] S=.ok #[[],6] S from λS=>rfl,ee,dT0 hn]
 have h0:0<hs.length:=List.length_pos_iff.mpr hn;have r0:=md (x:=m) (n:=(hs.length:Int)) (by omega);obtain⟨j,hj⟩: ∃j:Nat,(j:Int)=m % (hs.length:Int):=⟨(m % (hs.length:Int)).toNat,by omega⟩
 have x5:(S9++T)[5]? =#[[.int m],2]:=zD w5;have I:=yS (S:=S9++T) (l:=5) (x:=m) (n:=(hs.length:Int)) (gS.mp x5).1 (by omega) (by omega);rw[VC x5, <-hj]at I;have y4:=(nA (show 5≠4 by decide) (S:=S9++T) (m / (hs.length:Int))).trans (zD (L:=T) w4);have y6:=(nA (show 5≠6 by decide) (S:=S9++T) (m / (hs.length:Int))).trans (zD (L:=T) w6);have y7:=(nA (show 5≠7 by decide) (S:=S9++T) (m / (hs.length:Int))).trans (zD (L:=T) w7);generalize Wl (S9++T) 5 (m / (hs.length:Int))=Z at I y4 y6 y7;have jl:j<hs.length:=by omega
 obtain⟨G,gn,hG,cl⟩:=Mk (j:=j) (w:=hs.length) y7 ay (λk A=>(sZ Q ((hR k).mp A)).1) jl (by omega) ai;have Q2:QC rs as (lN j hs) vs ys:=⟨Q.hv,Q.vv,Q.v1,Q.rl,Q.ha,Q.hw,Q.al,λx hx=>Q.hh x (ME hx),by rw[MF jl];omega,Q.hy,Q.yl,Q.pw,ň (Nat.pow_le_pow_right v1 (by rw[MF jl];omega)) Q.ph⟩
 have aa: ∀k,k∈G↔IW rs as (lN j hs) k:=λk=>by
  rw[hG];constructor
  .rintro⟨k,A,rfl⟩;obtain⟨σ,h1,rfl⟩:=(hR k).mp A;exact⟨σ,h1,(MD σ j hs).symm⟩
  .rintro⟨σ,h1,rfl⟩;exact⟨hs.map σ,(hR _).mpr ⟨σ,h1,rfl⟩,MD σ j hs⟩
 have ca:=Vc Q2 gn aa y6;rw[MD]at ca;have es:=Ml (ds:=(dB G).map .tup) (λd hd=>by obtain⟨t,ht,rfl⟩:=mM.mp hd;have:=fQ ((Ep Q2 aa).1 t ht);exact⟨this.1,by unfold zH;omega⟩) Z;refine fin (S:=Z) (zE (ρ':=LQ q (.tup #[hs,8]) [#[6],#[7],#[8],a,l,none]) (S':=S9++T) ?_ (zE (ρ':=LQ q (.tup #[hs,8]) [#[6],#[7],#[8],a,l,#[(j:Int),0]]) (S':=Z) ?_ ?_))
 .unfold qH;simp? [show∀S,xO [] S=.ok #[[],6] S from λS=>rfl,ee,dF0 hn,fT,iF]
 .unfold uI;simp? [UU,lM,I]
 .unfold uK;simp? [LM,VZ #[hs,8] j (by rw[lM];omega),qZ y4,tup2,ca,cl,es]
section
variable{P:Ō}{w:World}{K:C6}{mg:B8}{base:Heap}
noncomputable def top(i:Nat):Stmt:=PySem.Challenge.pw_mendsure_k33_answers_put_for_names.main.body.getD i (.Pass ⟨0,0,0,0⟩)
set_option bootstrap.genMatcherCode true in
local macro_rules
 | `(tactic|exists 1,$t)=>`(tactic|with_reducible show $t)
 | `(tactic|exists 7,$t)=>`(tactic|exists 1,zN _ _ _ $t)
 | `(tactic|exists 8,$t)=>`(tactic|exists 1,HL _ _ _ _ (bJ _ $t))
 | `(tactic|exists 3,$t)=>`(tactic|exists 1,zN _ _ (.Call (.Name $t _) _ _ _) _)
 | `(tactic|exists 4,$t)=>`(tactic|exists 1,zN _ _ (.Call (.Attribute _ $t _) _ _ _) _)
 | `(tactic|exists 5,$t)=>`(tactic|exists 1,zN _ _ (.BinOp _ $t _ _) _)
 | `(tactic|exists 6,$t)=>`(tactic|exists 1,zN _ _ (.Compare _ [$t] _ _) _)
 | `(tactic|and_intros)=>`(tactic|repeat' (first |(exists 1,vL _ _ [_] _;refine QY ?_)|(exists 1,vL _ _ (_::_) _;refine JQ ?_ ?_)|(exists 1,vL _ _ [] _;exact Qh)|(exists 1,NH _ _ (.Assign _ (.ListComp _ _ _ _) _) _;refine Dc ‹_› ?_ (λ_ _ _ _ _=>?_) (λ_ _ _ _=>?_) (λ_ _ _ _=>?_))|(exists 1,NH _ _ (.Assign [.Name _ _] _ _) _;refine Ql _ ‹_› ?_)|(exists 1,NH _ _ (.Assign _ _ _) _;refine Qm ?_ ?_)|(exists 1,NH _ _ (.Return _ _) _;refine Qi ?_)|(exists 1,NH _ _ (.For _ _ _ _ _) _;refine Qo PassesOwn.never rfl ?_ ?_ ?_)|(exists 1,NH _ _ (.If _ _ _ _) _;refine Xq ?_ ?_ ?_)|(exists 1,NH _ _ (.Expr _ _) _;refine Hk ?_)|(exists 1,zN _ _ (.Name _ _) _;first |(exists 1,zN _ _ (.Name _ _) (vJ _);exact Pw _)|exact Mu rfl ‹_› Ro|exact Mu rfl ‹_› CP|exact Hf rfl ‹_›)|(exists 1,zN _ _ (.Constant _ _ _) _;first |exact Px|exact Pz _|exact Xm|exact Py)|(exists 1,zN _ _ (.UnaryOp _ _ _) _;exact Qa)|(exists 1,zN _ _ (.List _ _) _;refine Qg ?_)|(exists 1,zN _ _ (.Tuple _ _ _) _;refine Qf ?_)|(exists 1,zN _ _ (.BinOp _ _ _ _) _;first |(exists 5,.Add;refine Ra ?_ ?_)|(exists 5,.Mult;refine Rb ?_ ?_)|(exists 5,.Mod;refine Qx ?_ ?_)|(exists 5,.Sub;refine Qv ?_ ?_)|(exists 5,.BitAnd;refine Kk ?_ ?_)|(exists 5,.FloorDiv;refine Qw ?_ ?_)|(exists 5,.Pow;refine Qz ?_ ?_)|(exists 5,.BitOr;refine Uc ?_ ?_))|(exists 1,zN _ _ (.Compare _ _ _ _) _;first |(exists 6,.In;refine Xx (Room.units ‹_›) ?_ ?_)|(exists 6,.Eq;refine Xr (Room.units ‹_›) ?_ ?_))|(exists 1,zN _ _ (.Subscript _ _ _) _;first |(exists 1,zN _ _ (.Subscript _ _ _) (dJ fW _ _);refine Xw ?_ ?_)|(exists 1,zN _ _ (.Subscript _ _ _) (tJ vQ _ _ _);refine Rh ?_ ?_ ?_)|(exists 1,zN _ _ (.Subscript _ _ _) (dJ OO _ _);refine Ud ?_ ?_))|(exists 1,zN _ _ (.ListComp _ _ _ _) _;refine Da ‹_› ?_ (λ_ _ _ _ _=>?_) (λ_ _ _ _=>?_) (λ_ _ _ _=>?_))|(exists 1,zN _ _ (.Dict _ _ _) _;exact Br)|(exists 1,zN _ _ (.IfExp _ _ _ _) _;refine Xn ?_ ?_ ?_)|(exists 1,zN _ _ (.Call (.Attribute _ _ _) _ _ _) _;first |(exists 4,"append";refine XJ ?_ ?_)|(exists 4,"get";refine Zb (Room.units ‹_›) ?_ ?_)|(exists 4,"setdefault";refine Ua ?_ ?_)|(exists 4,"setdefault";refine Ys (Room.units ‹_›) ?_ ?_)|(exists 4,"update";refine Kj ?_ ?_)|(exists 4,"pop";refine Tp ?_ ?_)|(exists 4,"extend";refine YB ?_ ?_))|(exists 1,zN _ _ (.Call (.Name _ _) _ _ _) _;first |(exists 3,"tuple";refine bQ GA Bg rfl ‹_› Bh ?_)|(exists 3,"len";refine NF XH Rj rfl ‹_› Rl ?_)|(exists 3,"isinstance";refine NF Bf Rk rfl ‹_› GI ?_)|(exists 1,zN _ _ (.Call (.Name "dict" _) _ _ _) (bJ _ Ug);refine Ku rfl rfl ‹_› rfl ‹_› ?_)|(exists 3,"int";refine bQ NS Rp rfl ‹_› Rm ?_)|(exists 3,"sorted";refine BI false ‹_› (Room.mono ‹_› (by decide)) rfl ‹_› rfl ?_)|(exists 1,zN _ _ (.Call (.Name "list" _) _ _ _) (bJ _ vY);refine bQ RS (Cc rfl) rfl ‹_› CP ?_)|(exists 1,zN _ _ (.Call (.Name "dict" _) _ _ _) (bJ _ RV);refine bQ Ce Tv rfl ‹_› KW ?_)|(exists 1,zN _ _ (.Call (.Name "list" _) _ _ _) (bJ _ NQ);refine bQ JL Il rfl ‹_› CP ?_)|(exists 1,zN _ _ (.Call (.Name "dict" _) _ _ _) (bJ _ II);refine bQ (YK (Room.units ‹_›)) (Kl rfl) rfl ‹_› KW ?_)|(exists 1,zN _ _ (.Call (.Name "list" _) _ _ _) (bJ _ AD);refine bQ SD (Cz rfl) rfl ‹_› CP ?_)|(exists 3,"sorted";refine BI true ‹_› (Room.mono ‹_› (by decide)) rfl ‹_› rfl ?_)|refine Cb ‹_› (Room.mono ‹_› (by decide)) rfl ?_)|(exists 1,rO _ _ (.Compare _ _ _ _) _;first |(exists 1,rO _ _ (.Compare _ [.Eq] _ _) _;refine Xs (Room.units ‹_›) ?_ ?_)|(exists 1,rO _ _ (.Compare _ [.NotEq] _ _) _;refine Xt (Room.units ‹_›) ?_ ?_)|(exists 1,rO _ _ (.Compare _ [.NotIn] _ _) _;refine Be (Room.units ‹_›) ?_ ?_)|(exists 1,rO _ _ (.Compare _ [.In] _ _) _;refine Xy (Room.units ‹_›) ?_ ?_)|(exists 1,rO _ _ (.Compare _ [.Lt] _ _) _;refine Xu (Room.units ‹_›) ?_ ?_)|(exists 1,rO _ _ (.Compare _ [.IsNot] _ _) _;refine Bb ?_ ?_)|(exists 1,rO _ _ (.Compare _ [.Gt] _ _) _;refine Xv ?_ ?_)|(exists 1,rO _ _ (.Compare _ [.In] _ _) _;refine Tu ?_ ?_))|(exists 1,rO _ _ (.UnaryOp _ _ _) _;refine Qd ?_)|(exists 1,rO _ _ (.BoolOp _ _ _) _;refine Xp ?_)|(exists 1,rO _ _ _ _;refine An ?_)|(exists 1,Mr _ _ _ _;first |refine Hg ?_|refine Qc ?_ ?_|refine Qb ?_|refine Xo ?_ ?_)|(exists 1,CN _ _ _ _;first |refine Hh ?_ ?_|exact Qe)|(exists 1,Pt _ _ _ _;first |refine Hj ?_|exact Hi)|(exists 1,NI _ _ _ _;first |exact Ht|refine Hu ?_)|(exists 1,HL _ _ _ _ _;first |(exists 8,vM;refine Ho ?_)|(exists 8,dY;refine XC rfl ‹_› ?_)|(exists 8,Hq;refine Qn ?_)|(exists 8,itQ;refine Tl ?_)|(exists 8,Na;refine Rt rfl ‹_› ?_)|(exists 8,YL;refine Co ?_)|(exists 8,Yg;refine Jf rfl ‹_› ?_))|(exists 1,XA _ _ (.Name _ _) _;exact Hl _ ‹_›)|(exists 1,XA _ _ _ _;first |refine Qk rfl ?_|(exists 1,XA _ _ _ (DJ IB _ _);refine Kf ?_ ?_)|(exists 1,XA _ _ _ (DJ HX _ _);refine Jg (Room.units ‹_›) ?_ ?_)|(exists 1,XA _ _ _ (DJ HS _ _);refine Rq ?_ ?_))|(exists 1,Ap _ _ _ _;first |refine Hm ?_ ?_|exact Qj)|(exists 1,Ff _ _ _ (.Name _ _) _;exact Hr _ ‹_›)|(exists 1,Ff _ _ _ _ _;refine Qq rfl ?_)|(exists 1,Aq _ _ _ _ _;first |refine Hs ?_ ?_|exact Qp)))
 | `(tactic|exists 2,$f:ident,$xs:ident,*)=>`(tactic|(refine okA $f ‹_› (λ_ _ _ _ _ _ _ _ _ _=>?_);delta $f $xs*; (first |refine QY ?_|refine JQ ?_ ?_);and_intros))
 | `(tactic|exists 0,$f:ident,$xs:ident,*)=>`(tactic|(refine okL $f ‹_› (λ_ _ _ _ _ _ _ _ _=>?_);delta $f $xs*; (first |refine QY ?_|refine JQ ?_ ?_);and_intros))
def GQ(D:DefM K mg "value_rank" (top 1))(a:mg "str"=none)(b:mg "isinstance"=none):XZ P w K mg base "value_rank" 1 1 ["value"] nI:=by exists 2,nH,gN,eI
def GR(D:DefM K mg "tuple_rank" (top 2))(b:XZ P w K mg base "value_rank" 1 1 ["value"] nI)(a:mg "tuple"=none):XZ P w K mg base "tuple_rank" 2 1 ["values"] nO:=by exists 2,nN,eK,bT,kR
def QA(D:DefM K mg "in_order" (top 3))(a:XZ P w K mg base "tuple_rank" 2 1 ["values"] nO)(b:mg "sorted"=none):XZ P w K mg base "in_order" 5 1 ["some"] mW:=by exists 2,mV,nQ,nR,mU,nP,eM
def QB(D:DefM K mg "names_in" (top 6))(a:mg "list"=none):XZ P w K mg base "names_in" 1 1 ["atoms"] xU:=by exists 2,mX,nS,nT,nU,gQ,eO,gP,gO
def SQ(D:DefM K mg "fitting" (top 7))(a:mg "zip"=none):XZ P w K mg base "fitting" 1 2 ["terms","cells"] aQ:=by exists 2,aP,fZ,iA,BL,xQ,yQ,cG
def SR(D:DefM K mg "fits_of" (top 8))(b:mg "zip"=none)(a:XZ P w K mg base "fitting" 1 2 ["terms","cells"] aQ):XZ P w K mg base "fits_of" 2 3 ["rows","marks","atom"] lW:=by exists 2,qU,iB,iC,jF,xA,xB,jG
def MG(D:DefM K mg "values_at" (top 9))(a:mg "tuple"=none):XZ P w K mg base "values_at" 1 2 ["values","names"] yG:=by exists 2,iD,iS,dG,jI
def Vh(D:DefM K mg "cut" (top 10))(a:XZ P w K mg base "values_at" 1 2 ["values","names"] yG)(c:mg "dict"=none)(b:mg "zip"=none):XZ P w K mg base "cut" 2 2 ["fits","names"] IK:=by exists 2,US,DA,DB,DC,CZ,AG,lX,qV,qW
def ZG(D:DefM K mg "joined" (top 11))(a:XZ P w K mg base "values_at" 1 2 ["values","names"] yG)(b:mg "dict"=none):XZ P w K mg base "joined" 2 3 ["fits","others","shared"] qD:=by exists 2,uF,oB,oC,oD,oE,EV,eP,eR,mY,oA,eQ,mZ
def uZ(D:DefM K mg "marked_answers" (top 12)){b:Tok}(h:mg "EVERYWHERE"=some (.int (-1) b))(d:mg "enumerate"=none)(k:XZ P w K mg base "names_in" 1 1 ["atoms"] xU)(e:mg "list"=none)(a:XZ P w K mg base "cut" 2 2 ["fits","names"] IK)(m:XZ P w K mg base "fits_of" 2 3 ["rows","marks","atom"] lW)(j:XZ P w K mg base "joined" 2 3 ["fits","others","shared"] qD)(i:XZ P w K mg base "values_at" 1 2 ["values","names"] yG)(c:mg "dict"=none):XZ P w K mg base "marked_answers" 3 3 ["rows","marks","question"] xL:=by exists 2,bU,eS,jX,xV,xW,jY,jZ,yR,yX,yM,wZ,kC,kD,kE,kG,kH,kI,wV,cV,wW,cW,wX,cX,wY,cY
def SS(D:DefM K mg "answers" (top 13))(b:XZ P w K mg base "in_order" 5 1 ["some"] mW)(c:XZ P w K mg base "marked_answers" 3 3 ["rows","marks","question"] xL)(a:mg "list"=none):XZ P w K mg base "answers" 6 2 ["rows","question"] wF:=by exists 2,qX,qE,iT,iU
def CK(D:DefM K mg "_law_cell_at" (top 15))(a:mg "len"=none):XZ P w K mg base "_law_cell_at" 1 2 ["_law_script","_law_k"] zR:=by exists 2,gR,kS,lY
def FP(D:DefM K mg "_law_digits" (top 16))(a:mg "range"=none):XZ P w K mg base "_law_digits" 1 1 ["_law_cell"] zY:=by exists 2,cH,jL,jM,dH,pE,dI,dL,jK,gT,gU,gV
def MH(D:DefM K mg "_law_take" (top 17)):XZ P w K mg base "_law_take" 1 2 ["_law_well","_law_many"] zA:=by exists 2,qF,cI,cJ,rQ
def MK(D:DefM K mg "_law_word" (top 18))(b:mg "range"=none)(a:XZ P w K mg base "_law_take" 1 2 ["_law_well","_law_many"] zA):XZ P w K mg base "_law_word" 2 1 ["_law_well"] kL:=by exists 2,qG,rR,rS,iV,rV,cK,dM
def ML(D:DefM K mg "_law_pool" (top 19))(c:mg "range"=none)(a:XZ P w K mg base "_law_take" 1 2 ["_law_well","_law_many"] zA)(b:XZ P w K mg base "_law_word" 2 1 ["_law_well"] kL):XZ P w K mg base "_law_pool" 3 2 ["_law_well","_law_many"] hX:=by exists 2,iE,iW,iY,iZ,cL,dN,dO,jN,jO,jP
def FQ(D:DefM K mg "_law_tables" (top 20))(b:mg "range"=none)(a:XZ P w K mg base "_law_take" 1 2 ["_law_well","_law_many"] zA):XZ P w K mg base "_law_tables" 2 1 ["_law_well"] cM:=by exists 2,lB,dP,dQ,dR,jQ,gW,gX
def QE(D:DefM K mg "_law_row" (top 21))(d:XZ P w K mg base "_law_take" 1 2 ["_law_well","_law_many"] zA)(b:mg "len"=none)(c:mg "range"=none)(a:mg "tuple"=none):XZ P w K mg base "_law_row" 2 3 ["_law_well","_law_tables_here","_law_pool_here"] oG:=by exists 2,oF,nV,nW,eT,gY
def MM(D:DefM K mg "_law_rows" (top 22))(d:XZ P w K mg base "_law_digits" 1 1 ["_law_cell"] zY)(c:XZ P w K mg base "_law_take" 1 2 ["_law_well","_law_many"] zA)(b:XZ P w K mg base "_law_row" 2 3 ["_law_well","_law_tables_here","_law_pool_here"] oG)(a:mg "len"=none):XZ P w K mg base "_law_rows" 3 5 ["_law_cells","_law_extra","_law_tables_here","_law_pool_here","_law_most"] iH:=by exists 2,iG,cN,cO,cP,cQ,rW,jR,wA,xC,jS,wC
def MN(D:DefM K mg "_law_term" (top 23))(b:XZ P w K mg base "_law_take" 1 2 ["_law_well","_law_many"] zA)(a:mg "len"=none):XZ P w K mg base "_law_term" 2 3 qC iI:=by exists 2,gA,wG,cR
def GS(D:DefM K mg "_law_atoms" (top 24))(d:mg "range"=none)(e:XZ P w K mg base "_law_take" 1 2 ["_law_well","_law_many"] zA)(c:mg "len"=none)(a:XZ P w K mg base "_law_term" 2 3 qC iI)(b:mg "tuple"=none):XZ P w K mg base "_law_atoms" 3 5 ["_law_well","_law_tables_here","_law_names_here","_law_pool_here","_law_many"] nZ:=by exists 2,nY,eU,eV,eW,gZ,bW,bX,bV,kT
def AS(D:DefM K mg "_law_names_in" (top 25)):XZ P w K mg base "_law_names_in" 1 1 ["_law_atoms_here"] jU:=by exists 2,jT,wM,wN,wO,wL,jA,yF,xG
def MP(D:DefM K mg "_law_head" (top 26))(b:XZ P w K mg base "_law_names_in" 1 1 ["_law_atoms_here"] jU)(c:mg "range"=none)(d:XZ P w K mg base "_law_take" 1 2 ["_law_well","_law_many"] zA)(a:mg "len"=none):XZ P w K mg base "_law_head" 2 3 ["_law_well","_law_atoms_here","_law_most"] cZ:=by exists 2,iK,lD,lE,lF,lG,cS,dS
def GT(D:DefM K mg "_law_names" (top 27))(b:XZ P w K mg base "_law_word" 2 1 ["_law_well"] kL)(a:XZ P w K mg base "_law_take" 1 2 ["_law_well","_law_many"] zA)(c:mg "range"=none):XZ P w K mg base "_law_names" 3 1 ["_law_well"] aB:=by exists 2,uG,bA,bB,eX,eY,eZ,kM,bY,kU,bZ
def GU(D:DefM K mg "_law_order" (top 28))(a:mg "str"=none)(b:mg "isinstance"=none):XZ P w K mg base "_law_order" 1 1 ["_law_cells"] aD:=by exists 2,aC,bD,fA,fB,bC,cA
def QF(D:DefM K mg "_law_put" (top 29))(c:mg "dict"=none)(b:mg "zip"=none)(a:mg "tuple"=none):XZ P w K mg base "_law_put" 1 3 ["_law_atoms_here","_law_head_here","_law_answer"] oO:=by exists 2,oN,oH,oI,oK,oM,aF,fC,fE,fF,kW,bE
def QG(D:DefM K mg "_law_all" (top 30))(a:mg "range"=none):XZ P w K mg base "_law_all" 1 2 ["_law_pool_here","_law_many"] oU:=by exists 2,oS,oP,oQ,oR,aH,fH,fI,fM,aG,fG,bF,kN
def MQ(D:DefM K mg "_law_less" (top 31))(b:XZ P w K mg base "_law_order" 1 1 ["_law_cells"] aD)(a:mg "sorted"=none):XZ P w K mg base "_law_less" 4 2 ["_law_told","_law_at"] iM:=by exists 2,iL,lH,lI,lK,jH,jV,dU
def Vi{f:Addr}{fd:FuncData}(F:Fun K "law" "law" (top 32) f fd)(s:XZ P w K mg base "_law_tables" 2 1 ["_law_well"] cM)(r:XZ P w K mg base "_law_digits" 1 1 ["_law_cell"] zY)(h:XZ P w K mg base "_law_cell_at" 1 2 ["_law_script","_law_k"] zR)(c:XZ P w K mg base "_law_pool" 3 2 ["_law_well","_law_many"] hX)(u:XZ P w K mg base "_law_names" 3 1 ["_law_well"] aB)(b:XZ P w K mg base "_law_atoms" 3 5 ["_law_well","_law_tables_here","_law_names_here","_law_pool_here","_law_many"] nZ)(d:XZ P w K mg base "_law_take" 1 2 ["_law_well","_law_many"] zA)(p:XZ P w K mg base "_law_head" 2 3 ["_law_well","_law_atoms_here","_law_most"] cZ)(o:mg "tuple"=none)(i:XZ P w K mg base "_law_rows" 3 5 ["_law_cells","_law_extra","_law_tables_here","_law_pool_here","_law_most"] iH)(n:XZ P w K mg base "answers" 6 2 ["rows","question"] wF)(j:mg "list"=none)(v:mg "isinstance"=none)(e:XZ P w K mg base "_law_all" 1 2 ["_law_pool_here","_law_many"] oU)(k:mg "len"=none)(a:XZ P w K mg base "_law_put" 1 3 ["_law_atoms_here","_law_head_here","_law_answer"] oO)(m:mg "int"=none)(q:XZ P w K mg base "_law_less" 4 2 ["_law_told","_law_at"] iM):FnOk P w K mg base DP 7 f fd ["_law_script"] (QZ ⟨K,mg,P,w⟩ 1 IL):=by exists 0,UT,KZ,LA,LB,LC,LD,LE,LF,LG,LH,EW,EX,EY,EZ,qH,uI,uK,qY,AH,uH,AI,AK
end
abbrev mgN:=@PySem.W.mg_none_of
abbrev nNo(K:PySem.W.Frag)(x:Str):Prop:=PySem.W.nsIn K mainGlobals x=some none
def all_mk{l:PySem.W.OpenLaw}{w:World}{K:C6}{h:Heap}{mg:B8}{fa:Addr}(X:K.In h)(p:h.Ns mainGlobals mg)(O:mg "law"=some (.ref fa))(D0:DefM K mg "value_rank" (top 1))(D1:DefM K mg "tuple_rank" (top 2))(D2:DefM K mg "in_order" (top 3))(D3:DefM K mg "names_in" (top 6))(D4:DefM K mg "fitting" (top 7))(D5:DefM K mg "fits_of" (top 8))(D6:DefM K mg "values_at" (top 9))(D7:DefM K mg "cut" (top 10))(D8:DefM K mg "joined" (top 11))(D9:DefM K mg "marked_answers" (top 12))(D10:DefM K mg "answers" (top 13))(D11:DefM K mg "_law_cell_at" (top 15))(D12:DefM K mg "_law_digits" (top 16))(D13:DefM K mg "_law_take" (top 17))(D14:DefM K mg "_law_word" (top 18))(D15:DefM K mg "_law_pool" (top 19))(D16:DefM K mg "_law_tables" (top 20))(D17:DefM K mg "_law_row" (top 21))(D18:DefM K mg "_law_rows" (top 22))(D19:DefM K mg "_law_term" (top 23))(D20:DefM K mg "_law_atoms" (top 24))(D21:DefM K mg "_law_names_in" (top 25))(D22:DefM K mg "_law_head" (top 26))(D23:DefM K mg "_law_names" (top 27))(D24:DefM K mg "_law_order" (top 28))(D25:DefM K mg "_law_put" (top 29))(D26:DefM K mg "_law_all" (top 30))(D27:DefM K mg "_law_less" (top 31))(D28:DefM K mg "law" (top 32))
  {oX:Tok} (vD:PySem.W.nsIn K mainGlobals "EVERYWHERE"=some (some (.int (-1) oX)))
  (FV:nNo K "dict")
  (CD:nNo K "enumerate")
  (Nr:nNo K "int")
  (aM:nNo K "isinstance")
  (CC:nNo K "len")
  (FW:nNo K "list")
  (cT:nNo K "range")
  (FX:nNo K "sorted")
  (Fa:nNo K "str")
  (oW:nNo K "tuple")
  (QI:nNo K "zip")
  : ∃fd:FuncData,(∀(s:ŉ)(v:Ŋ),BindsTo s fd ⟨[v],[]⟩ [("_law_script",v)])/\ ∀base:Heap,K.In base->base.Ns mainGlobals mg->FnOk l.prog w K mg base DP 7 fa fd ["_law_script"] (HU K IL):=by
 have e:=mgN X p FV;have o:=mgN X p CD;have r:=mgN X p Nr;have b:=mgN X p aM;have d:=mgN X p CC;have i:=mgN X p FW;have a:=mgN X p cT;have m:=mgN X p FX;have q:=mgN X p Fa;have c:=mgN X p oW;have n:=mgN X p QI;have j:=PySem.W.mg_of X p vD;refine Tr D28 O (λ_ _ _ _ _ _ s v=>.of_eq rfl) λbase f fd F=>?_;have Z:=GQ (P:=l.prog) (w:=w) (base:=base) D0 q b;have U:=GR (P:=l.prog) (w:=w) (base:=base) D1 Z c;have G2:=QA (P:=l.prog) (w:=w) (base:=base) D2 U m;have G3:=QB (P:=l.prog) (w:=w) (base:=base) D3 i;have Y:=SQ (P:=l.prog) (w:=w) (base:=base) D4 n;have G5:=SR (P:=l.prog) (w:=w) (base:=base) D5 n Y;have N:=MG (P:=l.prog) (w:=w) (base:=base) D6 c;have G7:=Vh (P:=l.prog) (w:=w) (base:=base) D7 N e n;have G8:=ZG (P:=l.prog) (w:=w) (base:=base) D8 N e;have G9:=uZ D9 j o G3 i G7 G5 G8 N e;have H:=SS (P:=l.prog) (w:=w) (base:=base) D10 G2 G9 i;have E:=CK (P:=l.prog) (w:=w) (base:=base) D11 d;have u:=FP (P:=l.prog) (w:=w) (base:=base) D12 a;have k:=MH (P:=l.prog) (w:=w) (base:=base) D13;have y:=MK (P:=l.prog) (w:=w) (base:=base) D14 a k;have D:=ML (P:=l.prog) (w:=w) (base:=base) D15 a k y;have I:=FQ (P:=l.prog) (w:=w) (base:=base) D16 a k;have J:=QE (P:=l.prog) (w:=w) (base:=base) D17 k d a c;have G:=MM (P:=l.prog) (w:=w) (base:=base) D18 u k J d;have B:=MN (P:=l.prog) (w:=w) (base:=base) D19 k d;have M:=GS (P:=l.prog) (w:=w) (base:=base) D20 a k d B c;have A:=AS (P:=l.prog) (w:=w) (base:=base) D21;have T:=MP (P:=l.prog) (w:=w) (base:=base) D22 A a k d;have C:=GT (P:=l.prog) (w:=w) (base:=base) D23 y k a;have z:=GU (P:=l.prog) (w:=w) (base:=base) D24 q b;have S:=QF (P:=l.prog) (w:=w) (base:=base) D25 e n c;have L:=QG (P:=l.prog) (w:=w) (base:=base) D26 a;have Q:=MQ (P:=l.prog) (w:=w) (base:=base) D27 z m;exact Vi (P:=l.prog) (w:=w) (base:=base) F I u E D C M k T c G H i b L d S r Q
def walk{l:PySem.W.OpenLaw}{q:Ō}{b:B7}{m:(Str->Option Ŋ)->Heap->Prop}{e:World->Heap->Prop}{d:DefRec}{K:Params->PySem.W.Frag}(j:l.most=some 63)(c:d.params.defaults=[])
  (hY: ∀(w:World)(h:Heap),e w h->(K w.params).In h)
  (F: ∀(w:World)(mg:B8)(fa:Addr)(h:Heap),(K w.params).In h->h.Ns mainGlobals mg->mg d.name=some (.ref fa)->
   ∃fd:FuncData,(∀(s:ŉ)(u:Ŋ),BindsTo s fd ⟨[u],[]⟩ [("_law_script",u)])/\ ∀base:Heap,(K w.params).In base->base.Ns mainGlobals mg->FnOk l.prog w (K w.params) mg base DP 7 fa fd ["_law_script"] (HU (K w.params) IL)):
  PySem.W.WalkO q b m e l.row.toRowW d [] (λf vs=>PySem.call f vs):=
 L2.walk_of (n:=63) (k:=7) (x:="_law_script") (CX:=λ_=>DP) (sp:=λw=>HU (K w.params) IL) j (by decide) c ⟨rfl,by decide,by decide⟩ hY F
  (λw H a o i r p=>Bm r p (Ey o i)) λ_ _ _ _ _ z=>z
end My
end M
end L2
namespace PySem.W.Fast
def tw6420854339933408896:=0
theorem te6420854339933408896:tw6420854339933408896=0:=rfl
def tw13747082615077497735:=0
theorem te13747082615077497735:tw13747082615077497735=0:=rfl
def tw13083850227824474437:=0
theorem te13083850227824474437:tw13083850227824474437=0:=rfl
def tw12481733889944882949:=0
theorem te12481733889944882949:tw12481733889944882949=0:=rfl
def tw4732203547209403929:=0
theorem te4732203547209403929:tw4732203547209403929=0:=rfl
def tw13794768479939408022:=0
theorem te13794768479939408022:tw13794768479939408022=0:=rfl
def tw1310868941998540649:=0
theorem te1310868941998540649:tw1310868941998540649=0:=rfl
def tw7427838711603562447:=0
theorem te7427838711603562447:tw7427838711603562447=0:=rfl
def tw14753291575360178484:=0
theorem te14753291575360178484:tw14753291575360178484=0:=rfl
def tw13963708048611086575:=0
theorem te13963708048611086575:tw13963708048611086575=0:=rfl
def tw5086452552609617999:=0
theorem te5086452552609617999:tw5086452552609617999=0:=rfl
def tw87497778379831581:=0
theorem te87497778379831581:tw87497778379831581=0:=rfl
def tw2079690720598506252:=0
theorem te2079690720598506252:tw2079690720598506252=0:=rfl
def tw13100077048123566645:=0
theorem te13100077048123566645:tw13100077048123566645=0:=rfl
def tw3462959368371818103:=0
theorem te3462959368371818103:tw3462959368371818103=0:=rfl
def tw1608277230984893866:=0
theorem te1608277230984893866:tw1608277230984893866=0:=rfl
def tw8935720350761261300:=0
theorem te8935720350761261300:tw8935720350761261300=0:=rfl
def tw8796208279984243506:=0
theorem te8796208279984243506:tw8796208279984243506=0:=rfl
def tw12822026680628559177:=0
theorem te12822026680628559177:tw12822026680628559177=0:=rfl
def tw14540188235672797215:=0
theorem te14540188235672797215:tw14540188235672797215=0:=rfl
end PySem.W.Fast
open PySem PySem.W PyProof.Rows
set_option maxRecDepth 100000 in
set_option maxHeartbeats 0 in
theorem PySem.Challenge.cw_mendsure_k33_answers_put_for_names_holds : PySem.Challenge.rw_mendsure_k33_answers_put_for_names.Holds := by
  w_on; o_law; k_head; (case hw => w_witness2)
  k_fill
  refine L2.M.My.walk (l := PySem.Challenge.rw_mendsure_k33_answers_put_for_names) rfl rfl (fun w h Y => PySem.W.kIn_of Y) ?F
  case F =>
    intro w mg fa h KX G a
    refine' L2.M.My.all_mk KX G a ?_ ?_ ?_ ?_ ?_ ?_ ?_ ?_ ?_ ?_ ?_ ?_ ?_ ?_ ?_ ?_ ?_ ?_ ?_ ?_ ?_ ?_ ?_ ?_ ?_ ?_ ?_ ?_ ?_ ?_ ?_ ?_ ?_ ?_ ?_ ?_ ?_ ?_ ?_ ?_ ?_
    any_goals first | (exact L2.M.def_mk (by k_is) (by k_is) (by k_is) (by k_is) KX G) | (k_is) | (show PySem.W.nsIn _ _ _ = _; k_is)
