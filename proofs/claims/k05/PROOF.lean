import PyProof.Rows.All
import Wide.All
import OpenK.AllK
import Wide.FinOn
import Lean
import PyProof.EqAt
import PyProof.EqKinds
import PyProof.TupleCall
import PySem.Challenge.RW_mendsure_k05_texts_of_no_value
set_option Elab.async false
set_option linter.all false
set_option maxRecDepth 100000
noncomputable section
namespace L2
open PySem PySem.Spec PyProof.Rows
abbrev Key := Sum Int Str
noncomputable def zNO : Key → Value → Bool
  | .inl k, v => Value.isInt k v
  | .inr x, v => Value.isStrOf x v
noncomputable def keyH (w : World) : Key → Int
  | .inl k => hashInt k
  | .inr x => hashStr w x
theorem yD : ∀ {k : Key} {v : Value}, zNO k v = true → (∃ i t, k = Sum.inl i ∧ v = Value.int i t) ∨ (∃ x t, k = Sum.inr x ∧ v = Value.str x t)
  | .inl i, v, h => by
    obtain ⟨t, e⟩ := Value.isInt_shape (k := i) (v := v) h
    exact .inl ⟨i, t, rfl, e⟩
  | .inr x, v, h => by
    obtain ⟨t, e⟩ := Value.isStrOf_shape (x := x) (v := v) h
    exact .inr ⟨x, t, rfl, e⟩
theorem zTE (a b : Int) : decide ((Sum.inl a : Key) = Sum.inl b) = (a == b) := by
  by_cases e : a = b
  · subst e; simp
  · have h : ¬ (Sum.inl a : Key) = Sum.inl b := fun q => e (Sum.inl.inj q)
    rw [decide_eq_false h]
    exact (beq_eq_false_iff_ne.mpr e).symm
theorem zTF (a b : Str) : decide ((Sum.inr a : Key) = Sum.inr b) = decide (a = b) := by
  by_cases e : a = b
  · subst e; simp
  · have h : ¬ (Sum.inr a : Key) = Sum.inr b := fun q => e (Sum.inr.inj q)
    rw [decide_eq_false h, decide_eq_false e]
theorem zTG (a : Int) (b : Str) : decide ((Sum.inl a : Key) = Sum.inr b) = false := decide_eq_false (fun q => nomatch q)
theorem zTH (a : Str) (b : Int) : decide ((Sum.inr a : Key) = Sum.inl b) = false := decide_eq_false (fun q => nomatch q)
noncomputable def zCH (prog : Program) (w : World) : PySem.KeyKind prog w Key where
  is := zNO
  hash := keyH w
  inj := fun v a b ha hb => by
    rcases yD ha with ⟨i, t, rfl, rfl⟩ | ⟨x, t, rfl, rfl⟩
    · rcases yD hb with ⟨j, u, rfl, e⟩ | ⟨y, u, rfl, e⟩
      · injection e with e1 _; rw [e1]
      · exact nomatch e
    · rcases yD hb with ⟨j, u, rfl, e⟩ | ⟨y, u, rfl, e⟩
      · exact nomatch e
      · injection e with e1 _; rw [e1]
  byValue := fun k v h => by
    rcases yD h with ⟨i, t, rfl, rfl⟩ | ⟨x, t, rfl, rfl⟩ <;> rfl
  pyHash := fun hv h => by
    rcases yD hv with ⟨i, t, rfl, rfl⟩ | ⟨x, t, rfl, rfl⟩
    · exact wpAny_pyHash_int h
    · exact wpAny_pyHash_str h
  eqBool := fun hu hv h => by
    rcases yD hu with ⟨i, t, rfl, rfl⟩ | ⟨x, t, rfl, rfl⟩
    · rcases yD hv with ⟨j, u, rfl, rfl⟩ | ⟨y, u, rfl, rfl⟩
      · rw [zTE] at h; exact wpAny_eqBool_int h
      · rw [zTG] at h; exact SeqAt.EqAt.int_str i t y u _ _ _ _ h
    · rcases yD hv with ⟨j, u, rfl, rfl⟩ | ⟨y, u, rfl, rfl⟩
      · rw [zTH] at h; exact SeqAt.EqAt.str_int x t j u _ _ _ _ h
      · rw [zTF] at h; exact wpAny_eqBool_str h
  «strs» := fun k x t v h => by
    rcases yD h with ⟨i, u, rfl, e⟩ | ⟨y, u, rfl, e⟩
    · exact nomatch e
    · injection e with e1 _
      subst e1
      cases v <;> rfl
end L2
namespace L2
open PySem PySem.Spec PyProof.Rows
inductive V where
  | non | bl (b : Bool) | int (i : Int) | str (x : Str) | byt (b : Array UInt8) | flt (b : UInt64) | ref (a : Addr) | ty (n : String)
  deriving DecidableEq
noncomputable def RelV : V → Value → Prop
  | .non, u => u = Value.none
  | .bl b, u => u = Value.bool b
  | .int i, u => ∃ t, u = Value.int i t
  | .str x, u => ∃ t, u = Value.str x t
  | .byt b, u => ∃ t, u = Value.bytes b t
  | .flt b, u => ∃ t, u = Value.float b t
  | .ref a, u => u = Value.ref a
  | .ty n, u => u = Value.type n
abbrev Vals : List V → List Value → Prop := Paired RelV
theorem Vals.length {xs : List V} {us : List Value} (r : Vals xs us) : xs.length = us.length := Paired.length r
theorem Vals.get : ∀ {xs : List V} {us : List Value} {i : Nat} {x : V}, Vals xs us → xs[i]? = some x → ∃ u, us[i]? = some u ∧ RelV x u
  | _, _, _, _, .nil, e => by simp at e
  | _, _, 0, _, .cons r _, e => by simp at e; subst e; exact ⟨_, rfl, r⟩
  | _, _, i + 1, x, .cons _ t, e => by
    obtain ⟨u, h1, h2⟩ := Vals.get (i := i) (x := x) t (by simpa using e)
    exact ⟨u, by simpa using h1, h2⟩
theorem Vals.set {x : V} {u : Value} (r : RelV x u) : ∀ {xs : List V} {us : List Value} (i : Nat), Vals xs us → Vals (xs.set i x) (us.set i u)
  | _, _, _, .nil => .nil
  | _, _, 0, .cons _ t => .cons r t
  | _, _, i + 1, .cons q t => .cons q (Vals.set r i t)
theorem Vals.append : ∀ {xs ys : List V} {us ws : List Value}, Vals xs us → Vals ys ws → Vals (xs ++ ys) (us ++ ws)
  | _, _, _, _, .nil, s => s
  | _, _, _, _, .cons r t, s => .cons r (Vals.append t s)
theorem Vals.take : ∀ {xs : List V} {us : List Value} (n : Nat), Vals xs us → Vals (xs.take n) (us.take n)
  | _, _, 0, _ => .nil
  | _, _, _ + 1, .nil => .nil
  | _, _, n + 1, .cons r t => .cons r (Vals.take n t)
theorem Vals.drop : ∀ {xs : List V} {us : List Value} (n : Nat), Vals xs us → Vals (xs.drop n) (us.drop n)
  | _, _, 0, r => r
  | _, _, _ + 1, .nil => .nil
  | _, _, n + 1, .cons _ t => Vals.drop n t
theorem Vals.none_of : ∀ {xs : List V} {us : List Value} {i : Nat}, Vals xs us → xs[i]? = none → us[i]? = none := fun {xs us i} r e => by
  have h1 := r.length
  have h2 : xs.length ≤ i := List.getElem?_eq_none_iff.mp e
  exact List.getElem?_eq_none_iff.mpr (by omega)
noncomputable def RelO : Option V → Option Value → Prop
  | some v, some u => RelV v u
  | none, none => True
  | _, _ => False
noncomputable def KV {κ : Type} : List (κ × V) → List (κ × Value) → Prop := Paired fun (p : κ × V) (q : κ × Value) => p.1 = q.1 ∧ RelV p.2 q.2
noncomputable def kV : Key → V
  | .inl i => .int i
  | .inr x => .str x
inductive HO where
  | lst (xs : List V)
  | tup (xs : List V)
  | dK (kvs : List (Key × V)) | dT (kvs : List (List Key × V))
  | set (S : Int → Bool) (n : Nat)
  | ins (C dx : Addr) (fs : List (Str × V))
  | own (x : Addr)
  | xd (fs : List (Str × V))
  | met (f x : Addr)
  | rng (lo hi : Int)
  | frz (o : Obj) (u : HO)
  | tbl (ps : Array Value)
  | ext (φ : Heap → Prop)
abbrev Hp := Addr → Option HO
noncomputable def upd (H : Hp) (a : Addr) (o : HO) : Hp := fun b => if b = a then some o else H b
theorem jD {H : Hp} {a : Addr} {o : HO} : upd H a o a = some o := by unfold upd; rw [if_pos rfl]
theorem zP {H : Hp} {a b : Addr} {o : HO} (h : b ≠ a) : upd H a o b = H b := by unfold upd; rw [if_neg h]
theorem zN {H : Hp} {a b : Addr} {o : HO} (h : H a = some o) (h' : H b = none) : a ≠ b := by
  intro e; subst e; rw [h] at h'; cases h'
section
variable (P : Program) (w : World)
noncomputable def ObjOk (H : Hp) (h : Heap) (a : Addr) : HO → Prop
  | .lst xs => xs.length ≤ sizeLine ∧ ∃ (its : List Value) (n : Nat), Vals xs its ∧ h.get? a = some { cls := .type "list", data := .seq its.toArray n }
  | .tup xs => xs.length ≤ sizeLine ∧ ∃ its : List Value, Vals xs its ∧ IsTup h a its.toArray
  | .dK kvs => kvs.length ≤ sizeLine ∧ (a == sysModules) = false ∧ ∃ vs, KV kvs vs ∧ h.DictOf (zCH P w) a vs
  | .dT kvs => kvs.length ≤ sizeLine ∧ (a == sysModules) = false ∧ ∃ xs : List (List Key × Addr × Value),
      Paired (fun (p : List Key × V) (q : List Key × Addr × Value) => p.1 = q.1 ∧ H q.2.1 = some (.tup (p.1.map kV)) ∧ RelV p.2 q.2.2) kvs xs ∧
      ∃ o es ep, h.get? a = some o ∧ o.ExactDict ∧ o.data = .dict es ep ∧ es.toList = xs.map (entryOfKey (tupleKind (zCH P w))) ∧ (xs.map (·.1)).Nodup
  | .set S n => h.SetOf (intKind P w) a S n
  | .ins C dx fs => H dx = some (.own a) ∧ fs.length ≤ 1000 ∧ dx ≠ a ∧ h.get? a = some (PySem.W.instObj C dx) ∧
      ∃ mA, h.Ns1 dx mA ∧ (∀ f, RelO (fs.lookup f) (mA f)) ∧ PySem.Within mA (fs.map (·.1))
  | .own _ => ∃ o, h.get? a = some o
  | .xd fs => ∃ mA, h.Ns1 a mA ∧ ∀ f, RelO (fs.lookup f) (mA f)
  | .rng lo hi => ∃ t u v, h.get? a = some { cls := .type "range", data := .fields #[.int lo t, .int hi u, .int 1 v] }
  | .frz o u => h.get? a = some o ∧ ObjOk H h a u
  | .tbl ps => h.get? a = some { cls := .none, data := .fields ps }
  | .met f x => h.get? a = some (PySem.W.methodObj (.ref f) (.ref x))
  | .ext φ => φ h ∧ (∃ o, h.get? a = some o) ∧ ∀ h1 h2 : Heap, φ h1 → (∀ o, h1.get? a = some o → h2.get? a = some o) → φ h2
noncomputable def HOk (H : Hp) (h : Heap) : Prop := ∀ a o, H a = some o → ObjOk P w H h a o
end
section
variable {P : Program} {w : World} {H H' : Hp} {h h' : Heap} {a : Addr} {o : HO}
theorem ObjOk.lt (x : ObjOk P w H h a o) : a < h.objs.size := by
  cases o with
  | lst xs => obtain ⟨_, _, _, _, e⟩ := x; exact Heap.lt_size e
  | tup xs => obtain ⟨_, _, _, p⟩ := x; exact p.lt
  | dK kvs => obtain ⟨_, _, _, _, o, _, _, e, _⟩ := x; exact Heap.lt_size e
  | dT kvs => obtain ⟨_, _, _, _, o, _, _, e, _⟩ := x; exact Heap.lt_size e
  | set S n => obtain ⟨o, _, _, _, e, _⟩ := x; exact Heap.lt_size e
  | ins C dx fs => obtain ⟨_, _, _, e, _⟩ := x; exact Heap.lt_size e
  | own y => obtain ⟨_, e⟩ := x; exact Heap.lt_size e
  | xd fs => obtain ⟨_, ⟨_, _, _, e, _⟩, _⟩ := x; exact Heap.lt_size e
  | rng lo hi => obtain ⟨_, _, _, e⟩ := x; exact Heap.lt_size e
  | frz ob u => obtain ⟨e, _⟩ := x; exact Heap.lt_size e
  | tbl ps => exact Heap.lt_size (show h.get? a = some _ from x)
  | met f y => exact Heap.lt_size (show h.get? a = some _ from x)
  | ext φ => obtain ⟨_, ⟨_, e⟩, _⟩ := x; exact Heap.lt_size e
theorem Paired.mapP {α β : Type} {F G : α → β → Prop} : ∀ {l₁ : List α} {l₂ : List β}, Paired F l₁ l₂ → (∀ a b, F a b → G a b) → Paired G l₁ l₂
  | _, _, .nil, _ => .nil
  | _, _, .cons r t, f => .cons (f _ _ r) (Paired.mapP t f)
theorem ObjOk.stay (x : ObjOk P w H h a o) (k : ∀ b u, (b = a ∨ H b = some (.own a)) → h.get? b = some u → h'.get? b = some u)
    (ho : ∀ b, H b = some (.own a) → H' b = some (.own a)) (ht : ∀ b xs, H b = some (.tup xs) → H' b = some (.tup xs)) : ObjOk P w H' h' a o := by
  induction o with
  | lst xs => obtain ⟨z, its, n, r, e⟩ := x; exact ⟨z, its, n, r, k _ _ (.inl rfl) e⟩
  | tup xs => obtain ⟨z, its, r, ob, e, c⟩ := x; exact ⟨z, its, r, ob, k _ _ (.inl rfl) e, c⟩
  | dK kvs => obtain ⟨z, y, vs, r, ob, es, ep, e, c⟩ := x; exact ⟨z, y, vs, r, ob, es, ep, k _ _ (.inl rfl) e, c⟩
  | dT kvs =>
    obtain ⟨z, y, xs, r, ob, es, ep, e, c⟩ := x
    exact ⟨z, y, xs, Paired.mapP r fun p q z => ⟨z.1, ht _ _ z.2.1, z.2.2⟩, ob, es, ep, k _ _ (.inl rfl) e, c⟩
  | set S n => obtain ⟨ob, es, ep, t, e, c⟩ := x; exact ⟨ob, es, ep, t, k _ _ (.inl rfl) e, c⟩
  | ins C dx fs =>
    obtain ⟨d, z, ne, e, mA, ⟨od, es, ep, e2, c⟩, r⟩ := x
    exact ⟨ho _ d, z, ne, k _ _ (.inl rfl) e, mA, ⟨od, es, ep, k _ _ (.inr d) e2, c⟩, r⟩
  | own y => obtain ⟨ob, e⟩ := x; exact ⟨ob, k _ _ (.inl rfl) e⟩
  | xd fs => obtain ⟨mA, ⟨od, es, ep, e, c⟩, r⟩ := x; exact ⟨mA, ⟨od, es, ep, k _ _ (.inl rfl) e, c⟩, r⟩
  | rng lo hi => obtain ⟨t, u, v, e⟩ := x; exact ⟨t, u, v, k _ _ (.inl rfl) e⟩
  | frz ob u ih => obtain ⟨e, q⟩ := x; exact ⟨k _ _ (.inl rfl) e, ih q⟩
  | tbl ps =>
    have e : h.get? a = some { cls := .none, data := .fields ps } := x
    show h'.get? a = some { cls := .none, data := .fields ps }
    exact k a _ (.inl rfl) e
  | met f y =>
    have e : h.get? a = some (PySem.W.methodObj (.ref f) (.ref y)) := x
    show h'.get? a = some (PySem.W.methodObj (.ref f) (.ref y))
    exact k a _ (.inl rfl) e
  | ext φ => obtain ⟨p, ⟨o, e⟩, st⟩ := x; exact ⟨st _ _ p fun o q => k _ _ (.inl rfl) q, ⟨o, k _ _ (.inl rfl) e⟩, st⟩
theorem HOk.lt (x : HOk P w H h) (e : H a = some o) : a < h.objs.size := (x a o e).lt
theorem HOk.fresh (x : HOk P w H h) (e : h.objs.size ≤ a) : H a = none := by
  cases q : H a with
  | none => rfl
  | some u => exact absurd (Nat.lt_of_lt_of_le (x.lt q) e) (Nat.lt_irrefl _)
theorem HOk.kept (x : HOk P w H h) (k : ∀ b u, h.get? b = some u → h'.get? b = some u) : HOk P w H h' := fun a o e =>
  (x a o e).stay (fun b u _ q => k b u q) (fun _ q => q) fun _ _ q => q
theorem HOk.laid (x : HOk P w H h) (k : ∀ b u, h.get? b = some u → h'.get? b = some u) (hp : h.objs.size ≤ a) (new : ObjOk P w (upd H a o) h' a o) : HOk P w (upd H a o) h' := fun b u e => by
  have hn := x.fresh hp
  by_cases hb : b = a
  · subst hb; rw [jD] at e; cases e; exact new
  · rw [zP hb] at e
    exact (x b u e).stay (fun c v _ q => k c v q) (fun c q => by rw [zP (zN q hn)]; exact q) fun c xs q => by rw [zP (zN q hn)]; exact q
end
noncomputable def Rd (H : Hp) (a : Addr) (u : HO) : Prop := H a = some u ∨ ∃ o, H a = some (.frz o u)
theorem Rd.ok {P : Program} {w : World} {H : Hp} {h : Heap} {a : Addr} {u : HO} (r : Rd H a u) (x : HOk P w H h) : ObjOk P w H h a u := by
  rcases r with r | ⟨o, r⟩
  · exact x a u r
  · obtain ⟨_, q⟩ := x a _ r
    exact q
structure Un (fs ex : List Addr) (H H' : Hp) (h h' : Heap) : Prop where
  keep : ∀ b o, h.get? b = some o → H b = none → b ∉ fs → b ∉ ex → h'.get? b = some o
  slot : ∀ b o, h.get? b = some o → H b = none → b ∈ fs → b ∉ ex → ∃ sl, h'.get? b = some { o with slots := sl }
  free : ∀ b o, h.get? b = some o → H b = none → b ∉ ex → H' b = none
  there : ∀ b o, h.get? b = some o → b ∉ ex → ∃ o', h'.get? b = some o'
  tups : ∀ b xs, H b = some (.tup xs) → H' b = some (.tup xs)
  frzs : ∀ b o u, H b = some (.frz o u) → H' b = some (.frz o u)
  tbls : ∀ b ps, H b = some (.tbl ps) → ∃ more, H' b = some (.tbl (ps ++ more))
section
variable {fs fs' ex ex' : List Addr} {H H1 H2 : Hp} {h h1 h2 h' : Heap} {a x e : Addr} {o : HO}
theorem Un.any (u : Un fs ex H H1 h h1) {b : Addr} {ob : Obj} (q : h.get? b = some ob) (n : H b = none) (hx : b ∉ ex) : ∃ sl, h1.get? b = some { ob with slots := sl } := by
  by_cases hb : b ∈ fs
  · exact u.slot b ob q n hb hx
  · exact ⟨ob.slots, u.keep b ob q n hb hx⟩
theorem Un.kept (k : ∀ b u, h.get? b = some u → h'.get? b = some u) : Un fs ex H H h h' :=
  ⟨fun b ob q _ _ _ => k b ob q, fun b ob q _ _ _ => ⟨ob.slots, k b ob q⟩, fun _ _ _ n _ => n, fun b ob q _ => ⟨ob, k b ob q⟩, fun _ _ q => q, fun _ _ _ q => q, fun _ ps q => ⟨#[], by rw [q]; simp⟩⟩
theorem Un.refl : Un fs ex H H h h := Un.kept fun _ _ q => q
theorem Un.laid (k : ∀ b u, h.get? b = some u → h'.get? b = some u) (hp : h.objs.size ≤ a) (hn : H a = none) : Un fs ex H (upd H a o) h h' where
  keep := fun b u q _ _ _ => k b u q
  slot := fun b u q _ _ _ => ⟨u.slots, k b u q⟩
  free := fun b u q n _ => by rw [zP (Nat.ne_of_lt (Nat.lt_of_lt_of_le (Heap.lt_size q) hp))]; exact n
  there := fun b u q _ => ⟨u, k b u q⟩
  tups := fun b xs q => by rw [zP (zN q hn)]; exact q
  frzs := fun b u xs q => by rw [zP (zN q hn)]; exact q
  tbls := fun b ps q => ⟨#[], by rw [zP (zN q hn), q]; simp⟩
end
noncomputable def trk (h : Heap) (H : Hp) : List Addr := (List.range h.objs.size).filter fun a => (H a).isSome
noncomputable def zFX (h : Heap) (H : Hp) : Heap := PySem.W.hideAll h (trk h H)
theorem zME (h : Heap) (H : Hp) : (zFX h H).objs.size = h.objs.size := PySem.W.hideAll_size _ _
theorem zNP {h : Heap} {H : Hp} {b : Addr} {o : Obj} (e : h.get? b = some o) (n : H b = none) : (zFX h H).get? b = some o :=
  PySem.W.hideAll_get _ e fun hm => by
    have q : (H b).isSome = true := (List.mem_filter.mp hm).2
    rw [n] at q; simp at q
theorem zQM {h : Heap} {H : Hp} {b : Addr} {o : Obj} (e : (zFX h H).get? b = some o) : h.get? b = some o ∧ H b = none := by
  have e' : h.get? b = some o := PySem.W.of_hideAll (trk h H) e
  refine ⟨e', ?_⟩
  cases q : H b with
  | none => rfl
  | some x =>
    have hm : b ∈ trk h H := List.mem_filter.mpr ⟨List.mem_range.mpr (Heap.lt_size e'), by simp [q]⟩
    have z : (zFX h H).get? b = none := PySem.W.hideAll_none (trk h H) hm
    rw [z] at e; cases e
noncomputable def zQN (g h : Heap) (L : Addr) : List (Addr × Obj) := (List.range h.objs.size).filterMap fun a => if a = L ∨ (g.get? a).isSome = true then none else (h.get? a).map fun o => (a, o)
noncomputable def rest (g h : Heap) (L d : Addr) : List (Addr × Obj) := (zQN g h L).filter fun p => decide (p.1 ≠ d)
end L2
namespace L2
open PySem PySem.Spec PyProof.Rows
structure Mod (K : PySem.W.Frag) (mg : Str → Option Value) (base : Heap) : Prop where
  kin : K.In base
  glob : base.Ns mainGlobals mg
  blt : ∃ mb, base.Ns builtinsNs mb ∧ ∀ x : Str, x ≠ "__name__" → mb x = bootBuiltins x
  nolimit : base.NoLimit
structure Cx where
  prog : Program
  w : World
  K : PySem.W.Frag
  mg : Str → Option Value
  base : Heap
  A : Around
  N : List Str
  s₀ : Shared
  H₀ : Hp
  env : Env
  outer : List Env
  stack : List Env
  ex : List Addr
  fn : Str → Bool
  calm : Bool
  pn : List (Addr × Obj)
  xe : Value → Shared → Prop
noncomputable def frs (l : List Env) : List Addr := l.filterMap (·.frame)
abbrev Cx.fs (X : Cx) : List Addr := frs X.outer
noncomputable def Vis (sc : Scope) (x : Str) : Prop := sc.names.lookup x = some .local ∨ sc.names.lookup x = some .cell ∨ sc.names.lookup x = some .free
noncomputable def Loc (sc : Scope) (x : Str) : Prop := sc.names.lookup x = some .local ∨ sc.names.lookup x = some .cell
noncomputable def Look (env : Env) (h : Heap) (m : Str → Option Value) (x : Str) (u : Value) : Prop :=
  (env.kindOf x = some .local ∧ m x = some u) ∨ ((env.kindOf x = some .cell ∨ env.kindOf x = some .free) ∧ ∃ c, env.cells.lookup x = some c ∧ h.IsCell c (some u))
structure Cx.Ok (X : Cx) : Prop where
  mod : Mod X.K X.mg X.base
  kind : X.env.scope.kind = .function
  glob : X.env.globals = mainGlobals
  blt : X.env.builtins = builtinsNs
  above : X.s₀.heap.objs.size ≤ X.env.locals
  inj : ∀ x y c, X.env.cells.lookup x = some c → X.env.cells.lookup y = some c → x = y
  has : ∀ x, (X.env.kindOf x = some .cell ∨ X.env.kindOf x = some .free) → ∃ c, X.env.cells.lookup x = some c
  cab : ∀ x c, X.fn x = true → X.env.cells.lookup x = some c → X.s₀.heap.objs.size ≤ c
  hd : X.calm = true → X.A.handled = none
  frames : X.A.frames = some X.stack
  stk : X.stack = X.outer ∨ (X.stack = X.env :: X.outer ∧ X.env.frame = some X.env.locals)
  exf : ∀ b ∈ X.ex, b ≠ X.env.locals ∧ ∀ x c, X.env.cells.lookup x = some c → c ≠ b
  bs : ∀ b o, X.base.get? b = some o → X.s₀.heap.get? b = some o ∧ X.H₀ b = none
  bsz : X.base.objs.size ≤ X.s₀.heap.objs.size
  noex : ∀ b o, X.base.get? b = some o → b ∉ X.ex
  exfs : ∀ b ∈ X.ex, b ∉ X.fs
  funs : X.s₀.heap.FunFrames X.base X.outer
  frf : ∀ b ∈ X.fs, X.H₀ b = none
structure Inv (X : Cx) (pins : List (Addr × Obj)) (σ : List (Option V)) (H : Hp) (s : Shared) : Prop where
  ok : X.Ok
  os : s.os = X.s₀.os
  bare : AllBare s.gens
  base : Un X.fs X.ex X.H₀ H X.s₀.heap s.heap
  loc : ∃ m, s.heap.Ns X.env.locals m ∧ ∀ (i : Nat) (x : Str) (v : V), X.N[i]? = some x → σ[i]? = some (some v) → Vis X.env.scope x → ∃ u, RelV v u ∧ Look X.env s.heap m x u
  cell : ∀ x c, X.env.cells.lookup x = some c → ∃ v, s.heap.IsCell c v
  free : H X.env.locals = none
  freeC : ∀ x c, X.env.cells.lookup x = some c → H c = none
  pin : ∀ p ∈ X.pn ++ pins, s.heap.get? p.1 = some p.2 ∧ H p.1 = none ∧ p.1 ≠ X.env.locals ∧ p.1 ∉ X.fs ∧ ∀ v, p.2.data ≠ .cell v
  hok : HOk X.prog X.w H s.heap
  len : σ.length = X.N.length
section
variable {X : Cx} {pins : List (Addr × Obj)} {σ : List (Option V)} {H H' : Hp} {s : Shared} {h' : Heap}
theorem Cx.Ok.nofr (ok : X.Ok) {b : Addr} {o : Obj} (e : X.base.get? b = some o) : b ∉ X.fs := fun hb => by
  have := (ok.funs.mem hb).1
  rw [e] at this; cases this
theorem Inv.bs (I : Inv X pins σ H s) : ∀ b o, X.base.get? b = some o → s.heap.get? b = some o ∧ H b = none := fun b o e =>
  ⟨I.base.keep b o (I.ok.bs b o e).1 (I.ok.bs b o e).2 (I.ok.nofr e) (I.ok.noex b o e), I.base.free b o (I.ok.bs b o e).1 (I.ok.bs b o e).2 (I.ok.noex b o e)⟩
theorem Inv.bk (I : Inv X pins σ H s) : ∀ b o, X.base.get? b = some o → s.heap.get? b = some o := fun b o e => (I.bs b o e).1
theorem Inv.mod (I : Inv X pins σ H s) : Mod X.K X.mg X.base := I.ok.mod
theorem Inv.kIn (I : Inv X pins σ H s) : X.K.In s.heap := I.ok.mod.kin.keeps I.bk
theorem Inv.lt (I : Inv X pins σ H s) : X.env.locals < s.heap.objs.size := let ⟨_, hn, _⟩ := I.loc; hn.lt
theorem Inv.sz (I : Inv X pins σ H s) : X.s₀.heap.objs.size ≤ s.heap.objs.size := Nat.le_trans I.ok.above (Nat.le_of_lt I.lt)
theorem Inv.nofs (I : Inv X pins σ H s) {a : Addr} (h : s.heap.objs.size ≤ a) : a ∉ X.fs := fun hb => by
  obtain ⟨_, o, ho, _⟩ := I.ok.funs.mem hb
  exact absurd (Nat.lt_of_lt_of_le (Heap.lt_size ho) (Nat.le_trans I.sz h)) (Nat.lt_irrefl _)
theorem Inv.cne (I : Inv X pins σ H s) : ∀ x c, X.env.cells.lookup x = some c → c ≠ X.env.locals := fun x c e z => by
  obtain ⟨v, o, ho, hd⟩ := I.cell x c e
  obtain ⟨m, ⟨o', es, ep, ho', hd', _⟩, _⟩ := I.loc
  rw [z, ho'] at ho; cases ho; rw [hd'] at hd; cases hd
theorem Inv.funs (I : Inv X pins σ H s) : s.heap.FunFrames X.base X.outer := by
  have all : ∀ (l : List Env), (∀ b ∈ frs l, b ∈ X.fs) → X.s₀.heap.FunFrames X.base l → s.heap.FunFrames X.base l := by
    intro l
    induction l with
    | nil => intro _ _; trivial
    | cons env r ih =>
      intro hs hl
      obtain ⟨hk, ⟨L, o, hf, hn, ho, hd⟩, hr⟩ := hl
      have hL : L ∈ X.fs := hs L (by unfold frs; rw [List.filterMap_cons, hf]; exact List.mem_cons_self)
      obtain ⟨sl, e⟩ := I.base.slot L o ho (I.ok.frf L hL) hL fun z => I.ok.exfs L z hL
      exact ⟨hk, ⟨L, _, hf, hn, e, hd⟩, ih (fun b hb => hs b (by unfold frs; rw [List.filterMap_cons, hf]; exact List.mem_cons_of_mem _ hb)) hr⟩
  exact all X.outer (fun _ hb => hb) I.ok.funs
theorem Inv.stack (I : Inv X pins σ H s) : s.heap.FunFrames X.base X.stack := by
  rcases I.ok.stk with e | ⟨e, hf⟩
  · rw [e]; exact I.funs
  · rw [e]
    obtain ⟨m, hn, _⟩ := I.loc
    refine .cons (by rw [I.ok.kind]; decide) hf hn ?_ I.funs
    exact Heap.get?_none_of_le (Nat.le_trans I.ok.bsz I.ok.above)
theorem Inv.stkSub (I : Inv X pins σ H s) : ∀ b ∈ frs X.stack, b ∈ X.env.locals :: X.fs := fun b hb => by
  rcases I.ok.stk with e | ⟨e, hf⟩
  · rw [e] at hb; exact List.mem_cons_of_mem _ hb
  · rw [e] at hb
    unfold frs at hb
    rw [List.filterMap_cons, hf] at hb
    exact hb
theorem Inv.stkFree (I : Inv X pins σ H s) : ∀ b ∈ frs X.stack, H b = none := fun b hb => by
  rcases List.mem_cons.mp (I.stkSub b hb) with e | hb
  · rw [e]; exact I.free
  · obtain ⟨_, o, ho, _⟩ := I.ok.funs.mem hb
    exact I.base.free b o ho (I.ok.frf b hb) fun z => I.ok.exfs b z hb
theorem Inv.step {g' : Array GenState} {t' : Nat} {d' : Drawn} {ch : List Addr} (I : Inv X pins σ H s)
    (hch : ∀ b ∈ ch, (b ∈ X.ex ∨ X.s₀.heap.objs.size ≤ b) ∧ b ≠ X.env.locals ∧ (∀ x c, X.env.cells.lookup x = some c → c ≠ b) ∧ ∀ p ∈ X.pn ++ pins, p.1 ≠ b)
    (keep : ∀ b o, b ≠ X.env.locals → b ∉ X.fs → b ∉ ch → s.heap.get? b = some o → H b = none → h'.get? b = some o)
    (slot : ∀ b o, b ≠ X.env.locals → b ∈ X.fs → b ∉ ch → s.heap.get? b = some o → H b = none → ∃ sl, h'.get? b = some { o with slots := sl }) (free : ∀ b o, b ∉ ch → s.heap.get? b = some o → H b = none → H' b = none)
    (there : ∀ b o, b ∉ ch → s.heap.get? b = some o → ∃ o', h'.get? b = some o')
    (tups : ∀ b xs, H b = some (.tup xs) → H' b = some (.tup xs)) (frzs : ∀ b o u, H b = some (.frz o u) → H' b = some (.frz o u)) (tbls : ∀ b ps, H b = some (.tbl ps) → ∃ more, H' b = some (.tbl (ps ++ more)))
    (ns : ∀ m, s.heap.Ns X.env.locals m → h'.Ns X.env.locals m) (hok : HOk X.prog X.w H' h') (hg : AllBare g') :
    Inv X pins σ H' { s with heap := h', gens := g', drawn := d', toks := t' } := by
  have neL : ∀ b o, X.s₀.heap.get? b = some o → b ≠ X.env.locals := fun b o e => Nat.ne_of_lt (Nat.lt_of_lt_of_le (Heap.lt_size e) I.ok.above)
  have neC : ∀ b o, X.s₀.heap.get? b = some o → b ∉ X.ex → b ∉ ch := fun b o e hx hb => by
    rcases (hch b hb).1 with z | z
    · exact hx z
    · exact absurd (Nat.lt_of_lt_of_le (Heap.lt_size e) z) (Nat.lt_irrefl _)
  have cellK : ∀ x c, X.env.cells.lookup x = some c → ∀ v, s.heap.IsCell c v → h'.IsCell c v := fun x c e v ⟨o, ho, hd⟩ => by
    have nch : c ∉ ch := fun z => (hch c z).2.2.1 x c e rfl
    by_cases hc : c ∈ X.fs
    · obtain ⟨sl, q⟩ := slot c o (I.cne x c e) hc nch ho (I.freeC x c e)
      exact ⟨_, q, hd⟩
    · exact ⟨o, keep c o (I.cne x c e) hc nch ho (I.freeC x c e), hd⟩
  refine ⟨I.ok, I.os, hg, ⟨fun b o e n hb hx => ?_, fun b o e n hb hx => ?_, fun b o e n hx => ?_, fun b o e hx => ?_, fun b xs e => tups b xs (I.base.tups b xs e), fun b o xs e => frzs b o xs (I.base.frzs b o xs e), fun b ps e => ?_⟩, ?_, fun x c e => ?_, ?_, fun x c e => ?_, fun p hp => ?_, hok, I.len⟩
  · exact keep b o (neL b o e) hb (neC b o e hx) (I.base.keep b o e n hb hx) (I.base.free b o e n hx)
  · obtain ⟨sl, e1⟩ := I.base.slot b o e n hb hx
    obtain ⟨sl', e2⟩ := slot b _ (neL b o e) hb (neC b o e hx) e1 (I.base.free b o e n hx)
    exact ⟨sl', e2⟩
  · obtain ⟨o', e1⟩ := I.base.there b o e hx
    exact free b o' (neC b o e hx) e1 (I.base.free b o e n hx)
  · obtain ⟨o', e1⟩ := I.base.there b o e hx
    exact there b o' (neC b o e hx) e1
  · obtain ⟨m1, e1⟩ := I.base.tbls b ps e
    obtain ⟨m2, e2⟩ := tbls b _ e1
    exact ⟨m1 ++ m2, by rw [e2, Array.append_assoc]⟩
  · obtain ⟨m, hn, hl⟩ := I.loc
    refine ⟨m, ns m hn, fun i x v e1 e2 e3 => ?_⟩
    obtain ⟨u, r, l⟩ := hl i x v e1 e2 e3
    refine ⟨u, r, ?_⟩
    rcases l with l | ⟨k, c, e, z⟩
    · exact .inl l
    · exact .inr ⟨k, c, e, cellK x c e _ z⟩
  · obtain ⟨v, z⟩ := I.cell x c e
    exact ⟨v, cellK x c e v z⟩
  · obtain ⟨m, ⟨o, _, _, ho, _⟩, _⟩ := I.loc
    exact free _ o (fun z => (hch _ z).2.1 rfl) ho I.free
  · obtain ⟨v, o, ho, hd⟩ := I.cell x c e
    exact free c o (fun z => (hch c z).2.2.1 x c e rfl) ho (I.freeC x c e)
  · obtain ⟨e, n, ne, nf, d⟩ := I.pin p hp
    have nch : p.1 ∉ ch := fun z => (hch p.1 z).2.2.2 p hp rfl
    exact ⟨keep p.1 p.2 ne nf nch e n, free p.1 p.2 nch e n, ne, nf, d⟩
theorem Inv.un {t' : Nat} (I : Inv X pins σ H s) (u : Un X.fs [] H H' s.heap h') (hok : HOk X.prog X.w H' h') : Inv X pins σ H' { s with heap := h', toks := t' } := by
  obtain ⟨m, ⟨o, es, ep, ho, r⟩, _⟩ := id I.loc
  obtain ⟨sl, hL⟩ := u.any ho I.free (by simp)
  exact I.step (g' := s.gens) (d' := s.drawn) (ch := []) (fun _ z => nomatch z) (fun b o _ hb _ e n => u.keep b o e n hb (by simp)) (fun b o _ hb _ e n => u.slot b o e n hb (by simp)) (fun b o _ e n => u.free b o e n (by simp)) (fun b o _ e => u.there b o e (by simp)) u.tups u.frzs u.tbls (fun m' hm => by
    obtain ⟨o', es', ep', ho', r'⟩ := hm
    rw [ho] at ho'; cases ho'
    exact ⟨_, es', ep', hL, r'⟩) hok I.bare
theorem Inv.call {g' : Array GenState} {t' : Nat} {d' : Drawn} {ch : List Addr} (I : Inv X pins σ H s) (u : Un (frs X.stack) ch H H' s.heap h') (hok : HOk X.prog X.w H' h') (hg : AllBare g')
    (hch : ∀ b ∈ ch, (b ∈ X.ex ∨ X.s₀.heap.objs.size ≤ b) ∧ b ≠ X.env.locals ∧ (∀ x c, X.env.cells.lookup x = some c → c ≠ b) ∧ ∀ p ∈ X.pn ++ pins, p.1 ≠ b) :
    Inv X pins σ H' { s with heap := h', gens := g', drawn := d', toks := t' } := by
  obtain ⟨m, ⟨o, es, ep, ho, r⟩, _⟩ := id I.loc
  obtain ⟨sl, hL⟩ := u.any ho I.free fun z => (hch _ z).2.1 rfl
  exact I.step (ch := ch) hch (fun b o hL hb hc e n => u.keep b o e n (fun z => (List.mem_cons.mp (I.stkSub b z)).elim hL hb) hc) (fun b o _ _ hc e n => u.any e n hc) (fun b o hc e n => u.free b o e n hc) (fun b o hc e => u.there b o e hc) u.tups u.frzs u.tbls (fun m' hm => by
    obtain ⟨o', es', ep', ho', r'⟩ := hm
    rw [ho] at ho'; cases ho'
    exact ⟨_, es', ep', hL, r'⟩) hok hg
theorem Inv.turned {t' : Nat} {it : Addr} (I : Inv X pins σ H s) (k : ∀ b o, b ≠ it → s.heap.get? b = some o → h'.get? b = some o) (hn : H it = none) (hL : it ≠ X.env.locals)
    (h1 : it ∈ X.ex ∨ X.s₀.heap.objs.size ≤ it) (h2 : ∀ x c, X.env.cells.lookup x = some c → c ≠ it) (h3 : ∀ p ∈ X.pn ++ pins, p.1 ≠ it) : Inv X pins σ H { s with heap := h', toks := t' } := by
  have nit : ∀ b u, H b = some u → b ≠ it := fun b u e z => by rw [z, hn] at e; cases e
  refine I.step (g' := s.gens) (d' := s.drawn) (ch := [it]) (fun b hb => ?_) (fun b o _ _ hc e _ => k b o (fun z => hc (by simp [z])) e) (fun b o _ _ hc e _ => ⟨o.slots, k b o (fun z => hc (by simp [z])) e⟩) (fun _ _ _ _ n => n)
    (fun b o hc e => ⟨o, k b o (fun z => hc (by simp [z])) e⟩) (fun _ _ e => e) (fun _ _ _ e => e) (fun b ps e => ⟨#[], by rw [e]; simp⟩) (fun m hm => ?_) (fun b u e => ?_) I.bare
  · have e : b = it := by simpa using hb
    subst e
    exact ⟨h1, hL, h2, h3⟩
  · obtain ⟨o, es, ep, ho, r⟩ := hm
    exact ⟨o, es, ep, k _ o (Ne.symm hL) ho, r⟩
  · refine (I.hok b u e).stay (fun c v hc q => k c v ?_ q) (fun _ q => q) fun _ _ q => q
    rcases hc with z | z
    · rw [z]; exact nit b u e
    · exact nit c _ z
theorem Inv.tok (I : Inv X pins σ H s) (t : Nat) : Inv X pins σ H { s with toks := t } := I.un (h' := s.heap) (t' := t) Un.refl I.hok
theorem Inv.kept {t' : Nat} (I : Inv X pins σ H s) (k : ∀ b u, s.heap.get? b = some u → h'.get? b = some u) : Inv X pins σ H { s with heap := h', toks := t' } := I.un (Un.kept k) (I.hok.kept k)
theorem Inv.laid {a : Addr} {o : HO} {t' : Nat} (I : Inv X pins σ H s) (k : ∀ b u, s.heap.get? b = some u → h'.get? b = some u) (hp : s.heap.objs.size ≤ a) (new : ObjOk X.prog X.w (upd H a o) h' a o) :
    Inv X pins σ (upd H a o) { s with heap := h', toks := t' } := I.un (Un.laid k hp (I.hok.fresh hp)) (I.hok.laid k hp new)
theorem Inv.pins_of {pins' : List (Addr × Obj)} (I : Inv X pins σ H s) (h : ∀ p ∈ pins', s.heap.get? p.1 = some p.2 ∧ H p.1 = none ∧ p.1 ≠ X.env.locals ∧ p.1 ∉ X.fs ∧ ∀ v, p.2.data ≠ .cell v) : Inv X pins' σ H s :=
  ⟨I.ok, I.os, I.bare, I.base, I.loc, I.cell, I.free, I.freeC, fun p hp => (List.mem_append.mp hp).elim (fun z => I.pin p (List.mem_append_left _ z)) (h p), I.hok, I.len⟩
theorem zCQ {N : List Str} (hN : N.Nodup) {i j : Nat} {x : Str} (a : N[i]? = some x) (b : N[j]? = some x) : i = j := by
  obtain ⟨h1, e1⟩ := List.getElem?_eq_some_iff.mp a
  obtain ⟨h2, e2⟩ := List.getElem?_eq_some_iff.mp b
  exact (List.getElem_inj hN).mp (e1.trans e2.symm)
theorem zFC {M : Model} {A : Around} {E : Value → Shared → Prop} {i : Nat} {x : Str} {v : V} {u : Value} {Q : Unit → Shared → Prop} (I : Inv X pins σ H s) (hN : X.N.Nodup) (hi : X.N[i]? = some x) (hx : Loc X.env.scope x) (r : RelV v u)
    (h : ∀ s', Inv X pins (σ.set i (some v)) H s' → (∃ a, Heap.SameBut a s.heap s'.heap ∧ (a = X.env.locals ∨ X.env.cells.lookup x = some a)) → Q () s') (hf : X.fn x = true ∨ X.env.scope.names.lookup x = some .local := by first | exact .inl rfl | exact .inr rfl | assumption) : wpAny M A (storeName X.env x u) Q E s := by
  obtain ⟨m, hn, hl⟩ := id I.loc
  have hcls : (X.env.scope.kind == .class || (X.env.scope.kind == .module && X.env.locals != X.env.globals)) = false := by rw [I.ok.kind]; rfl
  have hiσ : i < σ.length := by rw [I.len]; exact (List.getElem?_eq_some_iff.mp hi).1
  have cne := I.cne
  have tracked : ∀ {a : Addr} {h' : Heap}, (∃ o, s.heap.get? a = some o ∧ H a = none) → Heap.SameBut a s.heap h' → HOk X.prog X.w H h' := fun {a h'} ha hs b ob e => by
    obtain ⟨_, _, hfree⟩ := ha
    refine (I.hok b ob e).stay (fun c w' hc q => (hs.2 c ?_).trans q) (fun _ q => q) fun _ _ q => q
    rintro rfl
    rcases hc with rfl | hc
    · rw [hfree] at e; cases e
    · rw [hfree] at hc; cases hc
  rcases hx with hk | hk
  · refine wpAny_storeName_local hk hn (fun h' hn' hs => ?_) hcls
    obtain ⟨oL, _, _, hoL, _⟩ := id hn
    refine h _ ⟨I.ok, I.os, I.bare, ⟨fun b o e n hb hx => ?_, fun b o e n hb hx => ?_, I.base.free, fun b o e hx => ?_, I.base.tups, I.base.frzs, I.base.tbls⟩, ⟨_, hn', fun j y v' e1 e2 e3 => ?_⟩, fun y c e => ?_, I.free, I.freeC, fun p hp => ?_, tracked ⟨oL, hoL, I.free⟩ hs, by simpa using I.len⟩ ⟨_, hs, .inl rfl⟩
    · exact (hs.2 b (Nat.ne_of_lt (Nat.lt_of_lt_of_le (Heap.lt_size e) I.ok.above))).trans (I.base.keep b o e n hb hx)
    · obtain ⟨sl, e1⟩ := I.base.slot b o e n hb hx
      exact ⟨sl, (hs.2 b (Nat.ne_of_lt (Nat.lt_of_lt_of_le (Heap.lt_size e) I.ok.above))).trans e1⟩
    · obtain ⟨o', e1⟩ := I.base.there b o e hx
      exact ⟨o', (hs.2 b (Nat.ne_of_lt (Nat.lt_of_lt_of_le (Heap.lt_size e) I.ok.above))).trans e1⟩
    · by_cases hj : j = i
      · subst hj
        rw [hi] at e1; cases e1
        rw [List.getElem?_set_self hiσ] at e2
        cases e2
        exact ⟨u, r, .inl ⟨hk, by simp⟩⟩
      · rw [List.getElem?_set_ne (Ne.symm hj)] at e2
        obtain ⟨u', r', q⟩ := hl j y v' e1 e2 e3
        refine ⟨u', r', ?_⟩
        rcases q with ⟨k, e⟩ | ⟨k, c, e, z⟩
        · refine .inl ⟨k, ?_⟩
          have : y ≠ x := fun e => hj (zCQ hN e1 (e ▸ hi))
          simp [this, e]
        · exact .inr ⟨k, c, e, z.sameBut hs (cne y c e)⟩
    · obtain ⟨w', z⟩ := I.cell y c e
      exact ⟨w', z.sameBut hs (cne y c e)⟩
    · obtain ⟨e, n, ne, nf, d⟩ := I.pin p hp
      exact ⟨(hs.2 p.1 ne).trans e, n, ne, nf, d⟩
  · have hfn : X.fn x = true := by
      rcases hf with z | z
      · exact z
      · rw [z] at hk; cases hk
    obtain ⟨c, hc⟩ := I.ok.has x (.inl hk)
    obtain ⟨w', z⟩ := I.cell x c hc
    refine wpAny_storeName_cell I.ok.kind hk hc z (fun h' hc' hs => ?_)
    obtain ⟨oc, hoc, hocd⟩ := id z
    refine h { s with heap := h' } ⟨I.ok, I.os, I.bare, ⟨fun b o e n hb hx => ?_, fun b o e n hb hx => ?_, I.base.free, fun b o e hx => ?_, I.base.tups, I.base.frzs, I.base.tbls⟩, ⟨m, hn.sameBut hs (Ne.symm (cne x c hc)), fun j y v' e1 e2 e3 => ?_⟩, fun y c' e => ?_, I.free, I.freeC, fun p hp => ?_, tracked ⟨oc, hoc, I.freeC x c hc⟩ hs, by simpa using I.len⟩ ⟨c, hs, .inr hc⟩
    · exact (hs.2 b (Nat.ne_of_lt (Nat.lt_of_lt_of_le (Heap.lt_size e) (I.ok.cab x c hfn hc)))).trans (I.base.keep b o e n hb hx)
    · obtain ⟨sl, e1⟩ := I.base.slot b o e n hb hx
      exact ⟨sl, (hs.2 b (Nat.ne_of_lt (Nat.lt_of_lt_of_le (Heap.lt_size e) (I.ok.cab x c hfn hc)))).trans e1⟩
    · obtain ⟨o', e1⟩ := I.base.there b o e hx
      exact ⟨o', (hs.2 b (Nat.ne_of_lt (Nat.lt_of_lt_of_le (Heap.lt_size e) (I.ok.cab x c hfn hc)))).trans e1⟩
    · by_cases hj : j = i
      · subst hj
        rw [hi] at e1; cases e1
        rw [List.getElem?_set_self hiσ] at e2
        cases e2
        exact ⟨u, r, .inr ⟨.inl hk, c, hc, hc'⟩⟩
      · rw [List.getElem?_set_ne (Ne.symm hj)] at e2
        obtain ⟨u', r', q⟩ := hl j y v' e1 e2 e3
        refine ⟨u', r', ?_⟩
        rcases q with q | ⟨k, c', e, z'⟩
        · exact .inl q
        · refine .inr ⟨k, c', e, z'.sameBut hs ?_⟩
          rintro rfl
          exact hj (zCQ hN e1 (I.ok.inj _ _ _ e hc ▸ hi))
    · by_cases hcc : c' = c
      · subst hcc; exact ⟨_, hc'⟩
      · obtain ⟨w2, z2⟩ := I.cell y c' e
        exact ⟨w2, z2.sameBut hs hcc⟩
    · obtain ⟨e, n, ne, nf, d⟩ := I.pin p hp
      refine ⟨(hs.2 p.1 ?_).trans e, n, ne, nf, d⟩
      intro q
      rw [q, hoc] at e
      have q' : oc = p.2 := Option.some.inj e
      exact d w' (by rw [← q']; exact hocd)
theorem zCR {M : Model} {A : Around} {E : Value → Shared → Prop} {i : Nat} {x : Str} {v : V} {u : Value} {Q : Unit → Shared → Prop} (I : Inv X pins σ H s) (hN : X.N.Nodup) (hi : X.N[i]? = some x) (hx : Loc X.env.scope x) (r : RelV v u)
    (h : ∀ s', Inv X pins (σ.set i (some v)) H s' → Q () s') (hf : X.fn x = true ∨ X.env.scope.names.lookup x = some .local := by first | exact .inl rfl | exact .inr rfl | assumption) : wpAny M A (storeName X.env x u) Q E s :=
  zFC I hN hi hx r (fun s' I' _ => h s' I') hf
theorem Inv.call' {s' : Shared} {ch : List Addr} (I : Inv X pins σ H s) (ho : s'.os = s.os) (u : Un (frs X.stack) ch H H' s.heap s'.heap) (hok : HOk X.prog X.w H' s'.heap) (hg : AllBare s'.gens)
    (hch : ∀ b ∈ ch, (b ∈ X.ex ∨ X.s₀.heap.objs.size ≤ b) ∧ b ≠ X.env.locals ∧ (∀ x c, X.env.cells.lookup x = some c → c ≠ b) ∧ ∀ p ∈ X.pn ++ pins, p.1 ≠ b) : Inv X pins σ H' s' := by
  obtain ⟨h', g', d', t', o'⟩ := s'
  have e : o' = s.os := ho
  subst e
  exact I.call (g' := g') (t' := t') (d' := d') u hok hg hch
end
abbrev XK := Value → Option Addr → Hp → Prop
abbrev St := List (Option V)
abbrev VK := V → Hp → Prop
abbrev TE := St → Hp → VK → Prop
abbrev TT := St → Hp → (Bool → Hp → Prop) → Prop
abbrev TA := St → Hp → (List V → Hp → Prop) → Prop
structure Ends where
  nx : St → Hp → Prop
  rt : VK
  bk : St → Hp → Prop := fun _ _ => False
  ct : St → Hp → Prop := fun _ _ => False
abbrev TS := Ends → St → Hp → Prop
noncomputable def EP (X : Cx) (pins : List (Addr × Obj)) (σ : St) (Q : VK) (u : Value) (s' : Shared) : Prop := ∃ v H', Inv X pins σ H' s' ∧ RelV v u ∧ Q v H'
noncomputable def TP (X : Cx) (pins : List (Addr × Obj)) (σ : St) (Q : Bool → Hp → Prop) (b : Bool) (s' : Shared) : Prop := ∃ H', Inv X pins σ H' s' ∧ Q b H'
noncomputable def AP (X : Cx) (pins : List (Addr × Obj)) (σ : St) (Q : List V → Hp → Prop) (us : List Value) (s' : Shared) : Prop := ∃ vs H', Inv X pins σ H' s' ∧ Vals vs us ∧ Q vs H'
noncomputable def SP (X : Cx) (pins : List (Addr × Obj)) (D : Ends) (f : Flow) (s' : Shared) : Prop :=
  match f with
  | .next => ∃ σ' H', Inv X pins σ' H' s' ∧ D.nx σ' H'
  | .brk => ∃ σ' H', Inv X pins σ' H' s' ∧ D.bk σ' H'
  | .cont => ∃ σ' H', Inv X pins σ' H' s' ∧ D.ct σ' H'
  | .ret u => ∃ v σ' H', Inv X pins σ' H' s' ∧ RelV v u ∧ D.rt v H'
noncomputable def PE (X : Cx) (e : Expr) (t : TE) : Prop :=
  ∀ (pins : List (Addr × Obj)) (s : Shared) (σ : St) (H : Hp) (Q : VK), Inv X pins σ H s → t σ H Q → wpAny (model X.prog X.w) X.A (eval e X.env) (EP X pins σ Q) X.xe s
noncomputable def PT (X : Cx) (e : Expr) (t : TT) : Prop :=
  ∀ (pins : List (Addr × Obj)) (s : Shared) (σ : St) (H : Hp) (Q : Bool → Hp → Prop), Inv X pins σ H s → t σ H Q → wpAny (model X.prog X.w) X.A (isTrue e X.env (eval e X.env)) (TP X pins σ Q) X.xe s
noncomputable def PW (X : Cx) (e : Expr) (t : TT) : Prop :=
  ∀ (whole : Sem Value) (pins : List (Addr × Obj)) (s : Shared) (σ : St) (H : Hp) (Q : Bool → Hp → Prop), Inv X pins σ H s → t σ H Q → wpAny (model X.prog X.w) X.A (isTrue e X.env whole) (TP X pins σ Q) X.xe s
theorem PW.pt {X : Cx} {e : Expr} {t : TT} (h : PW X e t) : PT X e t := h _
noncomputable def PA (X : Cx) (es : List Expr) (t : TA) : Prop :=
  ∀ (pos : Pos) (pins : List (Addr × Obj)) (s : Shared) (σ : St) (H : Hp) (Q : List V → Hp → Prop), Inv X pins σ H s → t σ H Q → wpAny (model X.prog X.w) X.A (spliced (backTo pos (starEach es X.env))) (AP X pins σ Q) X.xe s
noncomputable def PS (X : Cx) (st : Stmt) (t : TS) : Prop :=
  ∀ (pins : List (Addr × Obj)) (s : Shared) (σ : St) (H : Hp) (D : Ends), Inv X pins σ H s → t D σ H → wpAny (model X.prog X.w) X.A (exec st X.env) (SP X pins D) X.xe s
noncomputable def PSs (X : Cx) (st : List Stmt) (t : TS) : Prop :=
  ∀ (pins : List (Addr × Obj)) (s : Shared) (σ : St) (H : Hp) (D : Ends), Inv X pins σ H s → t D σ H → wpAny (model X.prog X.w) X.A (execs st X.env) (SP X pins D) X.xe s
theorem thn {α : Type} {t : Sem α} {Q Q' : α → Shared → Prop} {M : Model} {A : Around} {E : Value → Shared → Prop} {s : Shared} (h : wpAny M A t Q E s) (hQ : ∀ a s, Q a s → Q' a s) : wpAny M A t Q' E s := wpAny_mono h hQ fun _ _ x => x
end L2
namespace L2
open PySem PySem.Spec PyProof.Rows
section
variable {X : Cx}
noncomputable def tVar (i : Nat) : TE := fun σ H Q => ∃ v, σ[i]? = some (some v) ∧ Q v H
noncomputable def tC (v : V) : TE := fun _ H Q => Q v H
theorem zTI {i : Nat} {x : Str} {pos : Pos} (hN : X.N[i]? = some x) (hv : Vis X.env.scope x) (hd : (x == ("__debug__" : Str)) = false := by decide) (hcd : (x == ("__classdict__" : Str)) = false := by decide) : PE X (.Name x pos) (tVar i) := by
  intro pins s σ H Q I h
  obtain ⟨v, e, h⟩ := h
  obtain ⟨m, hn, hl⟩ := I.loc
  obtain ⟨u, r, l⟩ := hl i x v hN e hv
  have fin : EP X pins σ Q u s := ⟨v, H, I, r, h⟩
  rcases l with ⟨hk, hm⟩ | ⟨hk, c, hc, hcell⟩
  · exact wpAny_Name (wpAny_loadName_local I.ok.kind hk hn hm fin) hd
  · rcases hk with hk | hk
    · exact wpAny_Name (wpAny_loadName_cell I.ok.kind hk hc hcell fin) hd
    · exact wpAny_Name (wpAny_loadName_free I.ok.kind hk hc hcell fin hcd) hd
theorem zJK {i j pos} : PE X (.Constant (.int i) j pos) (tC (.int i)) := fun _ _ _ H _ I h => wpAny_Constant_int ⟨.int i, H, I.tok _, ⟨_, rfl⟩, h⟩
theorem pe_bl {b j pos} : PE X (.Constant (.bool b) j pos) (tC (.bl b)) := fun _ _ _ H _ I h => Constant_bool ⟨.bl b, H, I, rfl, h⟩
theorem zTJ {j pos} : PE X (.Constant .none j pos) (tC .non) := fun _ _ _ H _ I h => Constant_none ⟨.non, H, I, rfl, h⟩
theorem zTK {x j pos} : PE X (.Constant (.str x) j pos) (tC (.str x)) := fun _ _ _ H _ I h => Calls.Constant_str ⟨.str x, H, I.tok _, ⟨_, rfl⟩, h⟩
noncomputable def Gl (X : Cx) (x : Str) : Prop := X.env.kindOf x = some .globalImplicit
theorem zAF {E : Value → Shared → Prop} {pins : List (Addr × Obj)} {s : Shared} {σ : St} {H : Hp} {x : Str} {u : Value} {pos : Pos} {Q : Value → Shared → Prop} (I : Inv X pins σ H s) (hg : Gl X x) (hm : X.mg x = some u) (h : Q u s)
    (hd : (x == ("__debug__" : Str)) = false := by decide) : wpAny (model X.prog X.w) X.A (eval (.Name x pos) X.env) Q E s :=
  Calls.Name_function_global I.ok.kind hg (Calls.loadGlobal_global (by rw [I.ok.glob]; exact I.mod.glob.keeps I.bk) hm h) hd
theorem zCS {E : Value → Shared → Prop} {pins : List (Addr × Obj)} {s : Shared} {σ : St} {H : Hp} {x : Str} {u : Value} {pos : Pos} {Q : Value → Shared → Prop} (I : Inv X pins σ H s) (hg : Gl X x) (hm : X.mg x = none) (hv : bootBuiltins x = some u) (h : Q u s)
    (hn : x ≠ "__name__" := by decide) (hd : (x == ("__debug__" : Str)) = false := by decide) : wpAny (model X.prog X.w) X.A (eval (.Name x pos) X.env) Q E s := by
  obtain ⟨mb, h1, h2⟩ := I.mod.blt
  exact Calls.Name_function_global I.ok.kind hg (Calls.loadGlobal_builtin (by rw [I.ok.glob]; exact I.mod.glob.keeps I.bk) hm (by rw [I.ok.blt]; exact h1.keeps I.bk) ((h2 x hn).trans hv) h) hd
theorem zFY {x : Str} {v : V} {u : Value} {pos : Pos} (hg : Gl X x) (hm : X.mg x = some u) (r : RelV v u) (hd : (x == ("__debug__" : Str)) = false := by decide) : PE X (.Name x pos) (tC v) :=
  fun _ _ _ H _ I h => zAF I hg hm ⟨v, H, I, r, h⟩ hd
theorem zKX {x : Str} {v : V} {u : Value} {pos : Pos} (hg : Gl X x) (hm : X.mg x = none) (hv : bootBuiltins x = some u) (r : RelV v u) (hn : x ≠ "__name__" := by decide) (hd : (x == ("__debug__" : Str)) = false := by decide) : PE X (.Name x pos) (tC v) :=
  fun _ _ _ H _ I h => zCS I hg hm hv ⟨v, H, I, r, h⟩ hn hd
variable {a b : Expr} {ta tb : TE} {pos : Pos}
variable {tA tB' : TT} {rest : List Expr}
noncomputable def tAnd (t u : TT) : TT := fun σ H Q => t σ H fun c H1 => if c = true then u σ H1 Q else Q false H1
noncomputable def tOr (t u : TT) : TT := fun σ H Q => t σ H fun c H1 => if c = true then Q true H1 else u σ H1 Q
noncomputable def tNot (t : TT) : TT := fun σ H Q => t σ H fun c H1 => Q (!c) H1
theorem zQO (ha : PT X a tA) : PW X (.BoolOp .And [a] pos) tA := by
  intro wh pins s σ H Q I h
  refine isTrue_and (thn (ha pins s σ H Q I h) fun c s1 e => ?_)
  cases c with
  | true => exact isTrue_and_nil e
  | false => exact e
theorem zTL (ha : PT X a tA) : PW X (.BoolOp .Or [a] pos) tA := by
  intro wh pins s σ H Q I h
  refine isTrue_or (thn (ha pins s σ H Q I h) fun c s1 e => ?_)
  cases c with
  | false => exact isTrue_or_nil e
  | true => exact e
theorem zTM (ha : PT X a tA) (hb : PW X (.BoolOp .And (b :: rest) pos) tB') : PW X (.BoolOp .And (a :: b :: rest) pos) (tAnd tA tB') := by
  intro wh pins s σ H Q I h
  refine isTrue_and (thn (ha pins s σ H _ I h) fun c s1 ⟨H1, I1, q1⟩ => ?_)
  cases c with
  | true => exact hb wh pins s1 σ H1 Q I1 q1
  | false => exact ⟨H1, I1, q1⟩
theorem pw_or (ha : PT X a tA) (hb : PW X (.BoolOp .Or (b :: rest) pos) tB') : PW X (.BoolOp .Or (a :: b :: rest) pos) (tOr tA tB') := by
  intro wh pins s σ H Q I h
  refine isTrue_or (thn (ha pins s σ H _ I h) fun c s1 ⟨H1, I1, q1⟩ => ?_)
  cases c with
  | true => exact ⟨H1, I1, q1⟩
  | false => exact hb wh pins s1 σ H1 Q I1 q1
theorem zTN (ha : PT X a tA) : PT X (.UnaryOp .Not a pos) (tNot tA) := by
  intro pins s σ H Q I h
  exact isTrue_not (ha pins s σ H (fun c H1 => Q (!c) H1) I h)
noncomputable def tAndV (ta tb : TE) : TE := fun σ H Q => ta σ H fun x H1 => ∃ c, x = .bl c ∧ if c = true then tb σ H1 Q else Q (.bl false) H1
noncomputable def tOrV (ta tb : TE) : TE := fun σ H Q => ta σ H fun x H1 => ∃ c, x = .bl c ∧ if c = true then Q (.bl true) H1 else tb σ H1 Q
noncomputable def tNotV (ta : TE) : TE := fun σ H Q => ta σ H fun x H1 => ∃ c, x = .bl c ∧ Q (.bl (!c)) H1
theorem zTO {op} {t : TE} (h : PE X a t) : PE X (.BoolOp op [a] pos) t := fun pins s σ H Q I hw => BoolOp_one (h pins s σ H Q I hw)
theorem zTP (ha : PE X a ta) (hb : PE X (.BoolOp .And (b :: rest) pos) tb) : PE X (.BoolOp .And (a :: b :: rest) pos) (tAndV ta tb) := by
  intro pins s σ H Q I h
  refine BoolOp_and (thn (ha pins s σ H _ I h) fun v s1 ⟨x, H1, I1, r1, q1⟩ => ?_)
  obtain ⟨c, rfl, q1⟩ := q1
  cases r1
  refine wpAny_truthy_bool ?_
  cases c with
  | true => exact hb pins s1 σ H1 Q I1 q1
  | false => exact ⟨.bl false, H1, I1, rfl, q1⟩
theorem pe_or (ha : PE X a ta) (hb : PE X (.BoolOp .Or (b :: rest) pos) tb) : PE X (.BoolOp .Or (a :: b :: rest) pos) (tOrV ta tb) := by
  intro pins s σ H Q I h
  refine BoolOp_or (thn (ha pins s σ H _ I h) fun v s1 ⟨x, H1, I1, r1, q1⟩ => ?_)
  obtain ⟨c, rfl, q1⟩ := q1
  cases r1
  refine wpAny_truthy_bool ?_
  cases c with
  | false => exact hb pins s1 σ H1 Q I1 q1
  | true => exact ⟨.bl true, H1, I1, rfl, q1⟩
theorem zTQ (ha : PE X a ta) : PE X (.UnaryOp .Not a pos) (tNotV ta) := by
  intro pins s σ H Q I h
  refine UnaryOp_ (thn (ha pins s σ H _ I h) fun v s1 ⟨x, H1, I1, r1, q1⟩ => ?_)
  obtain ⟨c, rfl, q1⟩ := q1
  cases r1
  exact not_of (wpAny_truthy_bool ⟨.bl (!c), H1, I1, rfl, q1⟩)
noncomputable def tIf (t : TT) (ta tb : TE) : TE := fun σ H Q => t σ H fun c H1 => if c = true then ta σ H1 Q else tb σ H1 Q
theorem zNQ {c : Expr} (hc : PT X c tA) (ha : PE X a ta) (hb : PE X b tb) : PE X (.IfExp c a b pos) (tIf tA ta tb) := by
  intro pins s σ H Q I h
  refine wpAny_IfExp (thn (hc pins s σ H _ I h) fun d s1 ⟨H1, I1, q1⟩ => ?_)
  cases d with
  | true => exact ha pins s1 σ H1 Q I1 q1
  | false => exact hb pins s1 σ H1 Q I1 q1
end
end L2
namespace L2
open PySem PySem.Spec PyProof.Rows
noncomputable def SqL (K : PySem.W.Frag) (H : Hp) (a : Addr) (xs : List V) : Prop :=
  Rd H a (.lst xs) ∨
    ∃ (o : Obj) (its : Array Value) (n : Nat), K.lookup a = some o ∧ o.cls = .type "list" ∧ o.dict = none ∧ o.data = .seq its n ∧ its.size ≤ sizeLine ∧ Vals xs its.toList
noncomputable def SqT (K : PySem.W.Frag) (H : Hp) (a : Addr) (xs : List V) : Prop :=
  Rd H a (.tup xs) ∨
    ∃ (o : Obj) (its : Array Value) (n : Nat), K.lookup a = some o ∧ o.cls = .type "tuple" ∧ o.data = .seq its n ∧ its.size ≤ sizeLine ∧ Vals xs its.toList
noncomputable def absV : Value → Option V
  | .none => some .non
  | .bool b => some (.bl b)
  | .int i _ => some (.int i)
  | .str x _ => some (.str x)
  | .bytes b _ => some (.byt b)
  | .float b _ => some (.flt b)
  | .ref a => some (.ref a)
  | .type n => some (.ty n)
  | _ => none
theorem RelV.abs {x : V} {u : Value} (r : RelV x u) : absV u = some x := by
  cases x with
  | non => cases r; rfl
  | bl _ => cases r; rfl
  | int _ => obtain ⟨t, rfl⟩ := r; rfl
  | str _ => obtain ⟨t, rfl⟩ := r; rfl
  | byt _ => obtain ⟨t, rfl⟩ := r; rfl
  | flt _ => obtain ⟨t, rfl⟩ := r; rfl
  | ref _ => cases r; rfl
  | ty _ => cases r; rfl
theorem RelV.inj {x y : V} {u : Value} (r : RelV x u) (q : RelV y u) : x = y := Option.some.inj (r.abs.symm.trans q.abs)
theorem Vals.inj : ∀ {xs ys : List V} {us : List Value}, Vals xs us → Vals ys us → xs = ys
  | _, _, _, .nil, .nil => rfl
  | _, _, _, .cons r t, .cons r' t' => by rw [r.inj r', Vals.inj t t']
section
variable {X : Cx} {pins : List (Addr × Obj)} {σ : St} {H : Hp} {s : Shared} {a : Addr} {xs ys : List V}
theorem SqL.of {K : PySem.W.Frag} (h : H a = some (.lst xs)) : SqL K H a xs := .inl (.inl h)
theorem SqT.of {K : PySem.W.Frag} (h : H a = some (.tup xs)) : SqT K H a xs := .inl (.inl h)
theorem Inv.list (I : Inv X pins σ H s) (h : SqL X.K H a xs) : ∃ its : List Value, Vals xs its ∧ PlainL s.heap a its.toArray ∧ xs.length ≤ sizeLine := by
  rcases h with h | ⟨o, its, n, hk, hc, hd, hs, hz, r⟩
  · obtain ⟨z, its, n, r, e⟩ := h.ok I.hok
    exact ⟨its, r, ⟨_, n, e, rfl, rfl, rfl⟩, z⟩
  · refine ⟨its.toList, r, ⟨o, n, I.kIn a o hk, hc, hd, by simpa using hs⟩, ?_⟩
    have e := r.length
    simp only [Array.length_toList] at e
    omega
theorem Inv.tuple (I : Inv X pins σ H s) (h : SqT X.K H a xs) : ∃ its : List Value, Vals xs its ∧ IsTup s.heap a its.toArray ∧ xs.length ≤ sizeLine := by
  rcases h with h | ⟨o, its, n, hk, hc, hs, hz, r⟩
  · obtain ⟨z, its, r, p⟩ := h.ok I.hok
    exact ⟨its, r, p, z⟩
  · refine ⟨its.toList, r, ⟨o, I.kIn a o hk, hc, n, by simpa using hs⟩, ?_⟩
    have e := r.length
    simp only [Array.length_toList] at e
    omega
theorem Inv.list_inj (I : Inv X pins σ H s) (h : SqL X.K H a xs) (h' : SqL X.K H a ys) : xs = ys := by
  obtain ⟨its, r, ⟨o, n, e, _, _, d⟩, _⟩ := I.list h
  obtain ⟨its', r', ⟨o', n', e', _, _, d'⟩, _⟩ := I.list h'
  rw [e] at e'; cases e'
  rw [d] at d'
  injection d' with d1 _
  have : its = its' := by simpa using congrArg Array.toList d1
  subst this
  exact r.inj r'
theorem Inv.tuple_inj (I : Inv X pins σ H s) (h : SqT X.K H a xs) (h' : SqT X.K H a ys) : xs = ys := by
  obtain ⟨its, r, ⟨o, e, _, n, d⟩, _⟩ := I.tuple h
  obtain ⟨its', r', ⟨o', e', _, n', d'⟩, _⟩ := I.tuple h'
  rw [e] at e'; cases e'
  rw [d] at d'
  injection d' with d1 _
  have : its = its' := by simpa using congrArg Array.toList d1
  subst this
  exact r.inj r'
end
abbrev Cx.wish (X : Cx) (E : Value → Shared → Prop) : Cx := { X with xe := E }
abbrev Cx.nox (X : Cx) : Cx := X.wish fun _ _ => False
theorem Cx.Ok.wish {X : Cx} (ok : X.Ok) (E : Value → Shared → Prop) : (X.wish E).Ok :=
  ⟨ok.mod, ok.kind, ok.glob, ok.blt, ok.above, ok.inj, ok.has, ok.cab, ok.hd, ok.frames, ok.stk, ok.exf, ok.bs, ok.bsz, ok.noex, ok.exfs, ok.funs, ok.frf⟩
theorem Cx.Ok.unwish {X : Cx} {E : Value → Shared → Prop} (ok : (X.wish E).Ok) : X.Ok :=
  ⟨ok.mod, ok.kind, ok.glob, ok.blt, ok.above, ok.inj, ok.has, ok.cab, ok.hd, ok.frames, ok.stk, ok.exf, ok.bs, ok.bsz, ok.noex, ok.exfs, ok.funs, ok.frf⟩
section
variable {X : Cx} {pins : List (Addr × Obj)} {σ : St} {H : Hp} {s : Shared} {E : Value → Shared → Prop}
theorem Inv.wish (I : Inv X pins σ H s) (E : Value → Shared → Prop) : Inv (X.wish E) pins σ H s := ⟨I.ok.wish E, I.os, I.bare, I.base, I.loc, I.cell, I.free, I.freeC, I.pin, I.hok, I.len⟩
theorem Inv.unwish (I : Inv (X.wish E) pins σ H s) : Inv X pins σ H s := ⟨I.ok.unwish, I.os, I.bare, I.base, I.loc, I.cell, I.free, I.freeC, I.pin, I.hok, I.len⟩
theorem SP.unwish {D : Ends} {f : Flow} {s' : Shared} (h : SP (X.wish E) pins D f s') : SP X pins D f s' := by
  cases f with
  | next => obtain ⟨σ', H', I, q⟩ := h; exact ⟨σ', H', I.unwish, q⟩
  | brk => obtain ⟨σ', H', I, q⟩ := h; exact ⟨σ', H', I.unwish, q⟩
  | cont => obtain ⟨σ', H', I, q⟩ := h; exact ⟨σ', H', I.unwish, q⟩
  | ret u => obtain ⟨v, σ', H', I, r, q⟩ := h; exact ⟨v, σ', H', I.unwish, r, q⟩
theorem PSs.nox {st : List Stmt} {t : TS} (h : PSs X.nox st t) : PSs X st t := fun pins s σ H D I hw =>
  wpAny_mono (h pins s σ H D (I.wish _) hw) (fun _ _ q => q.unwish) fun _ _ z => False.elim z
end
section
variable {X : Cx} {st : Stmt} {rest : List Stmt} {t u : TS} {e : Expr} {te : TE} {pos : Pos}
noncomputable def tNext : TS := fun D σ H => D.nx σ H
noncomputable def tSeq (t u : TS) : TS := fun D σ H => t { D with nx := u D } σ H
theorem zQP : PSs X [] tNext := fun _ _ σ H _ I h => wpAny_execs_nil ⟨σ, H, I, h⟩
theorem zNR (h1 : PS X st t) (h2 : PSs X rest u) : PSs X (st :: rest) (tSeq t u) := by
  intro pins s σ H D I h
  refine wpAny_execs_cons (thn (h1 pins s σ H { D with nx := u D } I h) fun f s1 q => ?_)
  cases f with
  | next =>
    obtain ⟨σ', H', I', q⟩ := q
    exact h2 pins s1 σ' H' D I' q
  | ret v => exact q
  | brk => exact q
  | cont => exact q
theorem zQQ (h1 : PS X st t) : PSs X [st] t := by
  intro pins s σ H D I h
  refine wpAny_execs_cons (thn (h1 pins s σ H D I h) fun f s1 q => ?_)
  cases f with
  | next => exact wpAny_execs_nil q
  | ret v => exact q
  | brk => exact q
  | cont => exact q
theorem Inv.quiet {pins : List (Addr × Obj)} {σ : St} {H : Hp} {s : Shared} (I : Inv X pins σ H s) : interactive X.env = false := by simp [interactive, I.ok.kind]
noncomputable def tRet (te : TE) : TS := fun D σ H => te σ H D.rt
theorem zTR (he : PE X e te) : PS X (.Return (some e) pos) (tRet te) := by
  intro pins s σ H D I h
  exact wpAny_Return_some (thn (he pins s σ H _ I h) fun v s1 ⟨x, H1, I1, r1, q1⟩ => ⟨x, σ, H1, I1, r1, q1⟩)
noncomputable def tIfS (c : TT) (t u : TS) : TS := fun D σ H => c σ H fun b H1 => if b = true then t D σ H1 else u D σ H1
theorem ps_if {c : Expr} {a b : List Stmt} {tc : TT} (hc : PT X c tc) (ha : PSs X a t) (hb : PSs X b u) : PS X (.If c a b pos) (tIfS tc t u) := by
  intro pins s σ H D I h
  refine wpAny_If (thn (hc pins s σ H _ I h) fun d s1 ⟨H1, I1, q1⟩ => ?_)
  cases d with
  | true => exact ha pins s1 σ H1 D I1 q1
  | false => exact hb pins s1 σ H1 D I1 q1
end
abbrev TG := V → St → Hp → (St → Hp → Prop) → Prop
abbrev TGs := List V → St → Hp → (St → Hp → Prop) → Prop
noncomputable def PG (X : Cx) (target : Expr) (t : TG) : Prop :=
  ∀ (pins : List (Addr × Obj)) (s : Shared) (σ : St) (H : Hp) (v : V) (u : Value) (Q : St → Hp → Prop), Inv X pins σ H s → RelV v u → t v σ H Q →
    wpAny (model X.prog X.w) X.A (assign target X.env u) (fun _ s' => ∃ σ' H', Inv X pins σ' H' s' ∧ Q σ' H') X.xe s
noncomputable def PGs (X : Cx) (ts : List Expr) (t : TGs) : Prop :=
  ∀ (pins : List (Addr × Obj)) (s : Shared) (σ : St) (H : Hp) (vs : List V) (us : List Value) (Q : St → Hp → Prop), Inv X pins σ H s → Vals vs us → t vs σ H Q →
    wpAny (model X.prog X.w) X.A (assignInOrder ((assignEach ts X.env).map (·.2)) us) (fun _ s' => ∃ σ' H', Inv X pins σ' H' s' ∧ Q σ' H') X.xe s
section
variable {X : Cx} {pos : Pos}
noncomputable def zNS (i : Nat) : TG := fun v σ H Q => Q (σ.set i (some v)) H
theorem zKY {i : Nat} {x : Str} (hN : X.N.Nodup) (hi : X.N[i]? = some x) (hx : Loc X.env.scope x) (hf : X.fn x = true ∨ X.env.scope.names.lookup x = some .local := by first | exact .inl rfl | exact .inr rfl | assumption) : PG X (.Name x pos) (zNS i) := by
  intro pins s σ H v u Q I r h
  exact wpAny_assign_Name (zCR I hN hi hx r (fun s' I' => ⟨_, H, I', h⟩) hf)
noncomputable def gNil : TGs := fun vs σ H Q => vs = [] ∧ Q σ H
noncomputable def gCons (t : TG) (u : TGs) : TGs := fun vs σ H Q => ∃ v r, vs = v :: r ∧ t v σ H fun σ' H' => u r σ' H' Q
theorem zQR : PGs X [] gNil := by
  intro pins s σ H vs us Q I r h
  obtain ⟨e, h⟩ := h
  subst e
  cases r
  exact assignInOrder_nil ⟨σ, H, I, h⟩
theorem zNT {e : Expr} {es : List Expr} {t : TG} {u : TGs} (h1 : PG X e t) (h2 : PGs X es u)
    (hs : (assignEach (e :: es) X.env).map (·.2) = assign e X.env :: (assignEach es X.env).map (·.2) := by rfl) : PGs X (e :: es) (gCons t u) := by
  intro pins s σ H vs us Q I r h
  obtain ⟨v, vr, e1, h⟩ := h
  subst e1
  cases r with
  | cons r rr =>
    rw [hs]
    refine assignInOrder_cons (thn (h1 pins s σ H _ _ _ I r h) fun _ s1 ⟨σ1, H1, I1, q1⟩ => ?_)
    exact h2 pins s1 σ1 H1 _ _ Q I1 rr q1
noncomputable def gTup (K : PySem.W.Frag) (n : Nat) (t : TGs) : TG := fun v σ H Q => ∃ a xs, v = .ref a ∧ SqT K H a xs ∧ xs.length = n ∧ t xs σ H Q
theorem zTS {es : List Expr} {k : Nat} {t : TGs} {n : Nat} (hc : X.calm = true) (h : PGs X es t)
    (hn : (assignEach es X.env).length = n := by rfl) (hst : (assignEach es X.env).findIdx? (·.1) = none := by rfl) : PG X (.Tuple es k pos) (gTup X.K n t) := by
  intro pins s σ H v u Q I r hw
  obtain ⟨a, xs, e1, hq, hl, hw⟩ := hw
  subst e1
  cases r
  obtain ⟨its, rv, ht, hz⟩ := I.tuple hq
  refine assign_Tuple_tuple (I.ok.hd hc) ht (by simp [hn, ← hl, rv.length]) hst fun h' hx => ?_
  have I1 : Inv X pins σ H { s with heap := h' } := I.kept (t' := s.toks) fun b o e => hx b o (Nat.ne_of_lt (Heap.lt_size e)) e
  exact h pins _ σ H xs _ Q I1 (by simpa using rv) hw
noncomputable def tAsg (te : TE) (g : TG) : TS := fun D σ H => te σ H fun x H1 => g x σ H1 D.nx
theorem zTT {i : Nat} {x : Str} {e : Expr} {te : TE} {pos' : Pos} (hN : X.N.Nodup) (hi : X.N[i]? = some x) (hx : Loc X.env.scope x) (he : PE X e te) (hs : swapsWith e (some (.Name x pos')) pos.line X.env = pure false := by rfl) (hf : X.fn x = true ∨ X.env.scope.names.lookup x = some .local := by first | exact .inl rfl | exact .inr rfl | assumption) :
    PS X (.Assign [.Name x pos'] e pos) (tAsg te (zNS i)) := by
  intro pins s σ H D I h
  refine wpAny_Assign_Name (thn (he pins s σ H _ I h) fun v s1 ⟨y, H1, I1, r1, q1⟩ => ?_) hs
  exact zCR I1 hN hi hx r1 (fun s2 I2 => ⟨_, H1, I2, q1⟩) hf
end
structure It where
  go : Nat → Hp → Prop
  yld : Nat → Hp → V → Hp → Prop
  stop : Nat → Hp → Prop
noncomputable def nW (X : Cx) (pins : List (Addr × Obj)) (H : Hp) (b : Addr) : Prop :=
  H b = none ∧ b ≠ X.env.locals ∧ b ∉ X.fs ∧ (b ∈ X.ex ∨ X.s₀.heap.objs.size ≤ b) ∧ (∀ x c, X.env.cells.lookup x = some c → c ≠ b) ∧ ∀ p ∈ X.pn ++ pins, p.1 ≠ b
theorem Inv.fpOk {X : Cx} {pins : List (Addr × Obj)} {σ : St} {H H' : Hp} {s : Shared} {b : Addr} (I : Inv X pins σ H s) (hb : s.heap.objs.size ≤ b) (hn : H' b = none) : nW X pins H' b := by
  refine ⟨hn, Nat.ne_of_gt (Nat.lt_of_lt_of_le I.lt hb), I.nofs hb, .inr (Nat.le_trans I.sz hb), fun x c e z => ?_, fun p hp z => ?_⟩
  · obtain ⟨v, q⟩ := I.cell x c e
    exact absurd (Nat.lt_of_lt_of_le q.lt (by rw [z]; exact hb)) (Nat.lt_irrefl _)
  · exact absurd (Nat.lt_of_lt_of_le (Heap.lt_size (I.pin p hp).1) (by rw [z]; exact hb)) (Nat.lt_irrefl _)
structure Turn (P : Program) (w : World) (K : PySem.W.Frag) (tg : Expr) (J : It) (fp : List Addr) (it : Addr) (tn : Nat → Heap → Prop) : Prop where
  mem : it ∈ fp
  obj : ∀ i h, tn i h → ∀ b ∈ fp, ∃ o, h.get? b = some o ∧ ∀ v, o.data ≠ .cell v
  keep : ∀ i h h', tn i h → (∀ b ∈ fp, ∀ o, h.get? b = some o → h'.get? b = some o) → tn i h'
  item : ∀ (X : Cx), X.prog = P → X.w = w → X.K = K → X.calm = true → ∀ (i : Nat) (pins : List (Addr × Obj)) (s : Shared) (σ : St) (H : Hp) (E : Value → Shared → Prop), Inv X pins σ H s → (∀ b ∈ fp, nW X pins H b) → tn i s.heap → J.go i H →
    wpAny (model P w) X.A (pyNext (.ref it)) (fun r s1 => ∃ u, r = some u ∧
      wpAny (model P w) X.A (letOwnedTupleGo tg (.ref it) u) (fun _ s2 => ∃ x H', Inv X pins σ H' s2 ∧ RelV x u ∧ J.yld i H x H' ∧ tn (i + 1) s2.heap ∧ ∀ b ∈ fp, H' b = none) E s1) E s
  done : ∀ (X : Cx), X.prog = P → X.w = w → X.K = K → X.calm = true → ∀ (i : Nat) (pins : List (Addr × Obj)) (s : Shared) (σ : St) (H : Hp) (E : Value → Shared → Prop), Inv X pins σ H s → (∀ b ∈ fp, nW X pins H b) → tn i s.heap → J.stop i H →
    wpAny (model P w) X.A (pyNext (.ref it)) (fun r s1 => r = none ∧ Inv X pins σ H s1) E s
  self : ∀ (A : Around) (i : Nat) (s : Shared) (Q : Value → Shared → Prop) (E : Value → Shared → Prop), tn i s.heap → Q (.ref it) s → wpAny (model P w) A (pyIter (.ref it)) Q E s
abbrev TI := St → Hp → (It → Hp → Prop) → Prop
noncomputable def PIE (X : Cx) (pins : List (Addr × Obj)) (σ : St) (tg : Expr) (R : It → Hp → Prop) (itv : Value) (s2 : Shared) : Prop :=
  ∃ (it : Addr) (fp : List Addr) (tn : Nat → Heap → Prop) (J : It) (H' : Hp), itv = .ref it ∧ Inv X pins σ H' s2 ∧ Turn X.prog X.w X.K tg J fp it tn ∧ tn 0 s2.heap ∧ (∀ b ∈ fp, nW X pins H' b) ∧ R J H'
noncomputable def PI (X : Cx) (tg iter : Expr) (wi : TI) : Prop :=
  ∀ (pins : List (Addr × Obj)) (s : Shared) (σ : St) (H : Hp) (R : It → Hp → Prop), Inv X pins σ H s → wi σ H R →
    wpAny (model X.prog X.w) X.A (eval iter X.env) (fun v s1 => wpAny (model X.prog X.w) X.A (pyIter v) (PIE X pins σ tg R) X.xe s1) X.xe s
theorem zNU {M : Model} {A : Around} {E : Value → Shared → Prop} {s : Shared} {tg : Expr} {it : Addr} {u : Value} {o : Obj} {n : String} {vs : Array Value} {Q : Unit → Shared → Prop} (ho : s.heap.get? it = some o) (hc : o.cls = .type n) (hd : o.data = .fields vs)
    (hn : ["enumerate", "zip", "dict_itemiterator", "dict_reverseitemiterator", "odict_iterator", "itertools.zip_longest", "itertools.pairwise"].contains n = false) (hQ : Q () s) : wpAny M A (letOwnedTupleGo tg (.ref it) u) Q E s := by
  unfold letOwnedTupleGo
  cases tg <;> first
    | exact wpAny_pure hQ
    | (cases u <;> first
        | exact wpAny_pure hQ
        | (refine wpAny_bind (wpAny_load ho ?_)
           rw [hc, hd]
           show wpAny M A (if (["enumerate", "zip", "dict_itemiterator", "dict_reverseitemiterator", "odict_iterator", "itertools.zip_longest", "itertools.pairwise"].contains n && vs[0]? == some (rawInt _)) = true then _ else _) Q E s
           rw [if_neg (by intro h; rw [hn, Bool.false_and] at h; cases h)]
           exact wpAny_pure hQ))
noncomputable def Itl (K : PySem.W.Frag) (a : Addr) : It :=
  ⟨fun i H => ∃ xs x, SqL K H a xs ∧ xs[i]? = some x, fun i H x H' => H' = H ∧ ∀ xs, SqL K H a xs → xs[i]? = some x, fun i H => ∃ xs, SqL K H a xs ∧ xs.length ≤ i⟩
noncomputable def Itr (lo : Int) (n : Nat) : It := ⟨fun i _ => i < n, fun i H x H' => H' = H ∧ x = .int (lo + i), fun i _ => n ≤ i⟩
theorem zMF {P : Program} {w : World} {K : PySem.W.Frag} {tg : Expr} (a it : Addr) : Turn P w K tg (Itl K a) [it] it (fun i h => h.IsListIter it a i) where
  mem := by simp
  obj := fun i h st b hb => by
    have e : b = it := by simpa using hb
    subst e
    obtain ⟨o, e, c, d⟩ := st
    exact ⟨o, e, fun v z => by rw [d] at z; cases z⟩
  keep := fun i h h' st k => st.at fun o e => k it (by simp) o e
  item := by
    intro X hP hw hK hc i pins s σ H E I hf st hg
    subst hP hw hK
    obtain ⟨xs, x, hq, hx⟩ := hg
    obtain ⟨its, rv, p, hz⟩ := I.list hq
    obtain ⟨u, hu, ru⟩ := rv.get hx
    obtain ⟨f0, f1, f2, f3, f4, f5⟩ := hf it (by simp)
    refine wpAny_pyNext_list_item st p.isList (x := u) (by simpa using hu) fun h' st' sb => ?_
    have I1 : Inv X pins σ H { s with heap := h' } := I.turned (t' := s.toks) (fun b o hb e => (sb.2 b hb).trans e) f0 f1 f3 f4 f5
    obtain ⟨o, e, c, d⟩ := id st'
    exact ⟨u, rfl, zNU (s := { s with heap := h' }) e c d (by decide) ⟨x, H, I1, ru, ⟨rfl, fun ys hy => by rw [I.list_inj hy hq]; exact hx⟩, st', fun b hb => (hf b hb).1⟩⟩
  done := by
    intro X hP hw hK hc i pins s σ H E I hf st hg
    subst hP hw hK
    obtain ⟨xs, hq, hx⟩ := hg
    obtain ⟨its, rv, p, hz⟩ := I.list hq
    obtain ⟨f0, f1, f2, f3, f4, f5⟩ := hf it (by simp)
    have hl := rv.length
    exact wpAny_pyNext_list_end (I.ok.hd hc) st p.isList (by simp; omega) fun h' eb => ⟨rfl, I.turned (t' := s.toks) (fun b o hb e => eb b o hb e) f0 f1 f3 f4 f5⟩
  self := fun _ _ _ _ _ st h => wpAny_pyIter_listiter st h
theorem zJL {P : Program} {w : World} {K : PySem.W.Frag} {tg : Expr} (it : Addr) (lo : Int) (n : Nat) : Turn P w K tg (Itr lo n) [it] it (fun i h => IsRangeIter h it (lo + (i : Nat) * 1) ((n : Int) - (i : Nat)) 1) where
  mem := by simp
  obj := fun i h st b hb => by
    have e : b = it := by simpa using hb
    subst e
    exact ⟨_, st, fun v z => by
      have z' : Data.fields _ = Data.cell v := z
      cases z'⟩
  keep := fun i h h' st k => k it (by simp) _ st
  item := by
    intro X hP hw hK hc i pins s σ H E I hf st hg
    subst hP hw hK
    obtain ⟨f0, f1, f2, f3, f4, f5⟩ := hf it (by simp)
    have W := Walks.range (prog := X.prog) (w := X.w) (I.ok.hd hc) it lo 1 n
    refine W.item i s _ _ hg st fun v h' tk hv st' kk => ?_
    obtain ⟨t, rfl⟩ := hv
    have I1 : Inv X pins σ H { s with heap := h', toks := tk } := I.turned (fun b o hb e => kk b o (by simpa using hb) e) f0 f1 f3 f4 f5
    refine ⟨_, rfl, zNU (s := { s with heap := h', toks := tk }) (n := "range_iterator") st' rfl rfl (by decide) ⟨.int (lo + i), H, I1, ⟨t, ?_⟩, ⟨rfl, rfl⟩, st', fun b hb => (hf b hb).1⟩⟩
    rw [Int.mul_one]
  done := by
    intro X hP hw hK hc i pins s σ H E I hf st hg
    subst hP hw hK
    obtain ⟨f0, f1, f2, f3, f4, f5⟩ := hf it (by simp)
    exact wpAny_pyNext_range_end (I.ok.hd hc) st (by have : n ≤ i := hg; omega) fun h' eb => ⟨rfl, I.turned (t' := s.toks) (fun b o hb e => eb b o hb e) f0 f1 f3 f4 f5⟩
  self := fun _ _ _ _ _ st h => wpAny_pyIter_rangeiter st h
end L2
namespace L2
open PySem PySem.Spec PyProof.Rows
section
variable {X : Cx} {tg : Expr}
noncomputable def iList (K : PySem.W.Frag) (tl : TE) : TI := fun σ H R => tl σ H fun x H1 => ∃ a, x = .ref a ∧ (∃ xs, SqL K H1 a xs) ∧ R (Itl K a) H1
theorem zQS {l : Expr} {tl : TE} (hl : PE X l tl) : PI X tg l (iList X.K tl) := by
  intro pins s σ H R I h
  refine thn (hl pins s σ H _ I h) fun v s1 ⟨x, H1, I1, r1, q1⟩ => ?_
  obtain ⟨a, e, ⟨xs, hq⟩, q⟩ := q1
  subst e
  cases r1
  obtain ⟨its, rv, p, hz⟩ := I1.list hq
  refine wpAny_pyIter_list p.isList ?_
  refine ⟨s1.heap.objs.size, [s1.heap.objs.size], _, _, H1, rfl, I1.kept (t' := s1.toks) fun b o e => Heap.get?_push_of_some _ e, zMF a _, ⟨_, Heap.get?_push_size _ rfl, rfl, rfl⟩, fun b hb => ?_, q⟩
  have e : b = s1.heap.objs.size := by simpa using hb
  subst e
  exact I1.fpOk (Nat.le_refl _) (I1.hok.fresh (Nat.le_refl _))
theorem zNV {pins : List (Addr × Obj)} {σ : St} {H : Hp} {s : Shared} {R : It → Hp → Prop} {E : Value → Shared → Prop} {lo hi : Int} {t u v : Tok} {tk : Nat} (I : Inv X pins σ H s) (h1 : -(2 ^ 62) ≤ lo) (h2 : lo < 2 ^ 62) (h3 : -(2 ^ 62) ≤ hi) (h4 : hi < 2 ^ 62)
    (q : R (Itr lo (hi - lo).toNat) H) : wpAny (model X.prog X.w) X.A (pyIter (.ref s.heap.objs.size)) (PIE X pins σ tg R) E { s with heap := s.heap.push { cls := .type "range", data := .fields #[.int lo t, .int hi u, .int 1 v] }, toks := tk } := by
  refine wpAny_pyIter_range (IsRange.new ..) (small_one h1 h2 h3 h4) ?_
  have I1 : Inv X pins σ H { s with heap := s.heap.push { cls := .type "range", data := .fields #[.int lo t, .int hi u, .int 1 v] }, toks := tk } := I.kept fun b o e => Heap.get?_push_of_some _ e
  refine ⟨(s.heap.push { cls := .type "range", data := .fields #[.int lo t, .int hi u, .int 1 v] }).objs.size, [(s.heap.push { cls := .type "range", data := .fields #[.int lo t, .int hi u, .int 1 v] }).objs.size], _, _, H, rfl,
    I1.kept (t' := tk) fun b o e => Heap.get?_push_of_some _ e, zJL _ lo (hi - lo).toNat, ?_, fun b hb => ?_, q⟩
  · have e1 : lo + ((0 : Nat) : Int) * 1 = lo := by simp
    have e2 : (((hi - lo).toNat : Nat) : Int) - ((0 : Nat) : Int) = Builtin.Range.rangeSize lo hi 1 := by rw [rangeSize_one]; split <;> omega
    show IsRangeIter _ _ (lo + ((0 : Nat) : Int) * 1) ((((hi - lo).toNat : Nat) : Int) - ((0 : Nat) : Int)) 1
    rw [e1, e2]
    exact Heap.get?_push_size _ rfl
  · have e : b = (s.heap.push { cls := .type "range", data := .fields #[.int lo t, .int hi u, .int 1 v] }).objs.size := by simpa using hb
    subst e
    exact I1.fpOk (Nat.le_refl _) (I1.hok.fresh (Nat.le_refl _))
noncomputable def iRng1 (ta : TA) : TI := fun σ H R => ta σ H fun vs H1 => ∃ j : Int, vs = [.int j] ∧ -(2 ^ 62) ≤ j ∧ j < 2 ^ 62 ∧ R (Itr 0 j.toNat) H1
theorem zMG {a : Expr} {ta : TA} {p pos : Pos} (hg : Gl X "range") (hm : X.mg "range" = none) (ha : PA X [a] ta) (hs : starEach [a] X.env = [(false, eval a X.env)] := by rfl) : PI X tg (.Call (.Name "range" p) [a] [] pos) (iRng1 ta) := by
  intro pins s σ H R I h
  refine Call_ (zCS I hg hm boot_range (PyProof.Rows.callWith_type1 (thn (ha pos pins s σ H _ I h) fun us s1 ⟨vs, H1, I1, r1, q1⟩ => ?_) hs rfl))
  obtain ⟨j, e, q1, q2, q⟩ := q1
  subst e
  cases r1 with
  | cons r rr =>
    cases rr
    obtain ⟨t, rfl⟩ := r
    exact call_range_1 (zNV I1 (by omega) (by omega) q1 q2 (by simpa using q))
noncomputable def tFor (wi : TI) (g : TG) (tb : TS) : TS := fun D σ H => wi σ H fun J H1 => ∃ W : Nat → Nat → St → Hp → Prop, (∃ m, W 0 m σ H1) ∧ ∀ i m σ H, W i m σ H →
  (J.stop i H ∧ D.nx σ H) ∨ (J.go i H ∧ ∃ N : St → Hp → Prop, (∀ σ' H', N σ' H' → ∃ m', m' < m ∧ W (i + 1) m' σ' H') ∧ ∀ x H', J.yld i H x H' → g x σ H' fun σ2 H2 => tb { D with nx := N, ct := N, bk := D.nx } σ2 H2)
noncomputable def cT (fp : List Addr) (h : Heap) : List (Addr × Obj) := fp.filterMap fun b => (h.get? b).map fun o => (b, o)
theorem bJ {fp : List Addr} {h : Heap} {b : Addr} {o : Obj} (hb : b ∈ fp) (e : h.get? b = some o) : (b, o) ∈ cT fp h := List.mem_filterMap.mpr ⟨b, hb, by rw [e]; rfl⟩
theorem zMH {fp : List Addr} {h : Heap} {p : Addr × Obj} (hp : p ∈ cT fp h) : p.1 ∈ fp ∧ h.get? p.1 = some p.2 := by
  obtain ⟨b, hb, e⟩ := List.mem_filterMap.mp hp
  cases q : h.get? b with
  | none => rw [q] at e; cases e
  | some o =>
    rw [q] at e
    have e' : (b, o) = p := Option.some.inj e
    subst e'
    exact ⟨hb, q⟩
theorem Inv.pinned {pins : List (Addr × Obj)} {σ : St} {H : Hp} {s : Shared} {fp : List Addr} (I : Inv X pins σ H s) (hf : ∀ b ∈ fp, nW X pins H b) (ho : ∀ b ∈ fp, ∃ o, s.heap.get? b = some o ∧ ∀ v, o.data ≠ .cell v) : Inv X (pins ++ cT fp s.heap) σ H s :=
  I.pins_of fun p hp => (List.mem_append.mp hp).elim (fun z => I.pin p (List.mem_append_right _ z)) fun z => by
    obtain ⟨hb, e⟩ := zMH z
    obtain ⟨f0, f1, f2, _⟩ := hf p.1 hb
    obtain ⟨o, e', d⟩ := ho p.1 hb
    rw [e] at e'; cases e'
    exact ⟨e, f0, f1, f2, d⟩
theorem Inv.unpinned {pins pl : List (Addr × Obj)} {σ : St} {H : Hp} {s : Shared} (I : Inv X (pins ++ pl) σ H s) : Inv X pins σ H s := I.pins_of fun p hp => I.pin p (List.mem_append_right _ (List.mem_append_left _ hp))
theorem zTU {iter : Expr} {body : List Stmt} {wi : TI} {g : TG} {tb : TS} {pos : Pos} (hp : PassesOwn (model X.prog X.w) X.A X.env X.xe) (hc : X.calm = true) (hi : PI X tg iter wi) (hg : PG X tg g) (hb : PSs X body tb)
    (hs : ∀ x, foldedSetIterable iter X.env x = pure x := by intro _; rfl) : PS X (.For tg iter body [] pos) (tFor wi g tb) := by
  intro pins s σ H D I h
  refine wpAny_For (thn (hi pins s σ H _ I h) fun v s1 h1 => thn h1 fun itv s2 h2 => ?_) hs
  obtain ⟨it, fp, tn, J, H2, e, I2, T, st2, f2, W, ⟨m0, w0⟩, turn⟩ := h2
  subst e
  have stat : ∀ {H' : Hp}, (∀ b ∈ fp, H' b = none) → ∀ b ∈ fp, nW X pins H' b := fun hn b hb => ⟨hn b hb, (f2 b hb).2⟩
  refine codeAny_forLoop_any (fun n s' => ∃ i σ' H', Inv X pins σ' H' s' ∧ tn i s'.heap ∧ (∀ b ∈ fp, H' b = none) ∧ W i n σ' H') ?_ m0 ⟨0, σ, H2, I2, st2, fun b hb => (f2 b hb).1, w0⟩
  rintro n s3 ⟨i, σ3, H3, I3, st3, fr3, w3⟩
  rcases turn i n σ3 H3 w3 with ⟨stop, qn⟩ | ⟨go, N, hN, step⟩
  · refine wpAny_passesOwn hp (thn (T.done X rfl rfl rfl hc i pins s3 σ3 H3 X.xe I3 (stat fr3) st3 stop) fun r s4 ⟨hr, I4⟩ => ?_)
    subst hr
    exact wpAny_execs_nil ⟨σ3, H3, I4, qn⟩
  · refine wpAny_passesOwn hp (thn (T.item X rfl rfl rfl hc i pins s3 σ3 H3 X.xe I3 (stat fr3) st3 go) fun r s4 ⟨u, hr, h4⟩ => ?_)
    subst hr
    refine wpAny_passesOwn hp (thn h4 fun _ s5 ⟨x, H5, I5, r5, y5, st5, fr5⟩ => ?_)
    have I5' := I5.pinned (stat fr5) (T.obj _ _ st5)
    refine wpAny_passesOwn hp (thn (hg _ s5 σ3 H5 x u _ I5' r5 (step x H5 y5)) fun _ s6 ⟨σ6, H6, I6, q6⟩ => ?_)
    refine wpAny_passesOwn hp (thn (hb _ s6 σ6 H6 _ I6 q6) fun f s7 q7 => ?_)
    have again : ∀ {σ7 : St} {H7 : Hp}, Inv X (pins ++ cT fp s5.heap) σ7 H7 s7 → N σ7 H7 → ∃ m, m < n ∧ ∃ i σ' H', Inv X pins σ' H' s7 ∧ tn i s7.heap ∧ (∀ b ∈ fp, H' b = none) ∧ W i m σ' H' := fun {σ7 H7} I7 n7 => by
      obtain ⟨m', hm, w7⟩ := hN σ7 H7 n7
      refine ⟨m', hm, i + 1, σ7, H7, I7.unpinned, T.keep _ _ _ st5 fun b hb o e => (I7.pin (b, o) (List.mem_append_right _ (List.mem_append_right _ (bJ hb e)))).1, fun b hb => ?_, w7⟩
      obtain ⟨o, e, d⟩ := T.obj _ _ st5 b hb
      exact (I7.pin (b, o) (List.mem_append_right _ (List.mem_append_right _ (bJ hb e)))).2.1
    cases f with
    | next => obtain ⟨σ7, H7, I7, n7⟩ := q7; exact again I7 n7
    | cont => obtain ⟨σ7, H7, I7, n7⟩ := q7; exact again I7 n7
    | brk => obtain ⟨σ7, H7, I7, q7⟩ := q7; exact ⟨σ7, H7, I7.unpinned, q7⟩
    | ret v => obtain ⟨x7, σ7, H7, I7, r7, q7⟩ := q7; exact ⟨x7, σ7, H7, I7.unpinned, r7, q7⟩
end
end L2
namespace L2
open PySem PySem.Spec PyProof.Rows
abbrev R2 := V → V → Hp → VK → Prop
noncomputable def OpR (X : Cx) (f : Value → Value → Sem Value) (r : R2) : Prop :=
  ∀ (pins : List (Addr × Obj)) (s : Shared) (σ : St) (H : Hp) (x y : V) (v u : Value) (Q : VK), Inv X pins σ H s → RelV x v → RelV y u → r x y H Q →
    wpAny (model X.prog X.w) X.A (f v u) (EP X pins σ Q) X.xe s
noncomputable def UnR (X : Cx) (f : Value → Sem Value) (r : V → Hp → VK → Prop) : Prop :=
  ∀ (pins : List (Addr × Obj)) (s : Shared) (σ : St) (H : Hp) (x : V) (v : Value) (Q : VK), Inv X pins σ H s → RelV x v → r x H Q →
    wpAny (model X.prog X.w) X.A (f v) (EP X pins σ Q) X.xe s
noncomputable def CallR (X : Cx) (f : Value) (r : List V → Hp → VK → Prop) : Prop :=
  ∀ (pins : List (Addr × Obj)) (s : Shared) (σ : St) (H : Hp) (xs : List V) (us : List Value) (Q : VK), Inv X pins σ H s → Vals xs us → r xs H Q →
    wpAny (model X.prog X.w) X.A (call f us) (EP X pins σ Q) X.xe s
noncomputable def TruR (X : Cx) (r : V → Hp → (Bool → Hp → Prop) → Prop) : Prop :=
  ∀ (pins : List (Addr × Obj)) (s : Shared) (σ : St) (H : Hp) (x : V) (v : Value) (Q : Bool → Hp → Prop), Inv X pins σ H s → RelV x v → r x H Q →
    wpAny (model X.prog X.w) X.A (truthy v) (TP X pins σ Q) X.xe s
noncomputable def tOp (r : R2) (ta tb : TE) : TE := fun σ H Q => ta σ H fun x H1 => tb σ H1 fun y H2 => r x y H2 Q
noncomputable def tUn (r : V → Hp → VK → Prop) (ta : TE) : TE := fun σ H Q => ta σ H fun x H1 => r x H1 Q
noncomputable def rI (C : Int → Int → Prop) (g : Int → Int → V) : R2 := fun x y H Q => ∃ i j, x = .int i ∧ y = .int j ∧ C i j ∧ Q (g i j) H
noncomputable def rI0 (g : Int → Int → V) : R2 := fun x y H Q => ∃ i j, x = .int i ∧ y = .int j ∧ Q (g i j) H
noncomputable def rU (g : Int → V) : V → Hp → VK → Prop := fun x H Q => ∃ i, x = .int i ∧ Q (g i) H
section
variable {X : Cx} {a b c : Expr} {ta tb tc : TE} {pos : Pos}
theorem binT (ha : PE X a ta) (hb : PE X b tb) {pins : List (Addr × Obj)} {s : Shared} {σ : St} {H : Hp} {R : V → V → Hp → Prop} (I : Inv X pins σ H s)
    (h : ta σ H fun x H1 => tb σ H1 fun y H2 => R x y H2) {Q : Value → Shared → Prop} {f : Value → Value → Sem Value}
    (hf : ∀ v u s2 x y H2, Inv X pins σ H2 s2 → RelV x v → RelV y u → R x y H2 → wpAny (model X.prog X.w) X.A (f v u) Q X.xe s2) :
    wpAny (model X.prog X.w) X.A (eval a X.env) (fun v s₁ => wpAny (model X.prog X.w) X.A (eval b X.env) (fun u s₂ => wpAny (model X.prog X.w) X.A (f v u) Q X.xe s₂) X.xe s₁) X.xe s := by
  refine thn (ha pins s σ H _ I h) fun v s1 ⟨x, H1, I1, r1, q1⟩ => ?_
  refine thn (hb pins s1 σ H1 _ I1 q1) fun u s2 ⟨y, H2, I2, r2, q2⟩ => ?_
  exact hf v u s2 x y H2 I2 r1 r2 q2
theorem pe_op {op : Operator} {r : R2} (ho : OpR X (binaryOp op) r) (ha : PE X a ta) (hb : PE X b tb) : PE X (.BinOp a op b pos) (tOp r ta tb) := by
  intro pins s σ H Q I h
  exact wpAny_BinOp (binT ha hb I h fun v u s2 x y H2 I2 rx ry q => ho pins s2 σ H2 x y v u Q I2 rx ry q)
theorem pe_un {op : UnaryOp} {r : V → Hp → VK → Prop} (ho : UnR X (unaryOp op) r) (ha : PE X a ta) : PE X (.UnaryOp op a pos) (tUn r ta) := by
  intro pins s σ H Q I h
  exact UnaryOp_ (thn (ha pins s σ H _ I h) fun v s1 ⟨x, H1, I1, r1, q1⟩ => ho pins s1 σ H1 x v Q I1 r1 q1)
theorem opI {f : Value → Value → Sem Value} {C : Int → Int → Prop} {g : Int → Int → Int}
    (rule : ∀ (i j : Int) (t u : Tok) (s : Shared) (Q : Value → Shared → Prop) (E : Value → Shared → Prop), C i j → Q (.int (g i j) s.toks) { s with toks := s.toks + 1 } → wpAny (model X.prog X.w) X.A (f (.int i t) (.int j u)) Q E s) :
    OpR X f (rI C fun i j => .int (g i j)) := by
  intro pins s σ H x y v u Q I rx ry h
  obtain ⟨i, j, rfl, rfl, hc, q⟩ := h
  obtain ⟨t, rfl⟩ := rx
  obtain ⟨t', rfl⟩ := ry
  exact rule i j t t' s _ _ hc ⟨.int (g i j), H, I.tok _, ⟨_, rfl⟩, q⟩
theorem opI0 {f : Value → Value → Sem Value} {g : Int → Int → Int}
    (rule : ∀ (i j : Int) (t u : Tok) (s : Shared) (Q : Value → Shared → Prop) (E : Value → Shared → Prop), Q (.int (g i j) s.toks) { s with toks := s.toks + 1 } → wpAny (model X.prog X.w) X.A (f (.int i t) (.int j u)) Q E s) :
    OpR X f (rI0 fun i j => .int (g i j)) := by
  intro pins s σ H x y v u Q I rx ry h
  obtain ⟨i, j, rfl, rfl, q⟩ := h
  obtain ⟨t, rfl⟩ := rx
  obtain ⟨t', rfl⟩ := ry
  exact rule i j t t' s _ _ ⟨.int (g i j), H, I.tok _, ⟨_, rfl⟩, q⟩
theorem opB0 {f : Value → Value → Sem Value} {g : Int → Int → Bool}
    (rule : ∀ (i j : Int) (t u : Tok) (s : Shared) (Q : Value → Shared → Prop) (E : Value → Shared → Prop), Q (.bool (g i j)) s → wpAny (model X.prog X.w) X.A (f (.int i t) (.int j u)) Q E s) :
    OpR X f (rI0 fun i j => .bl (g i j)) := by
  intro pins s σ H x y v u Q I rx ry h
  obtain ⟨i, j, rfl, rfl, q⟩ := h
  obtain ⟨t, rfl⟩ := rx
  obtain ⟨t', rfl⟩ := ry
  exact rule i j t t' s _ _ ⟨.bl (g i j), H, I, rfl, q⟩
noncomputable def CMul (i j : Int) : Prop := (-(2 ^ 64) < i ∧ i < 2 ^ 64) ∨ (-(2 ^ 64) < j ∧ j < 2 ^ 64)
theorem CMul.ok {i j : Int} (h : CMul i j) : IntMulOk i j := by
  rcases h with ⟨h1, h2⟩ | ⟨h1, h2⟩
  · exact .of_left (intBits_le_64 h1 h2)
  · exact .of_right (intBits_le_64 h1 h2)
theorem zTV : OpR X (binaryOp .Add) (rI0 fun i j => .int (i + j)) := opI0 fun _ _ _ _ _ _ _ q => add_int q
theorem zTW : OpR X (binaryOp .Sub) (rI0 fun i j => .int (i - j)) := opI0 fun _ _ _ _ _ _ _ q => sub_int q
theorem zTX : OpR X (binaryOp .Mod) (rI (fun _ j => 0 < j) fun i j => .int (i % j)) := opI fun i j _ _ _ _ _ hc q => by
  have h1 : (0 : Int) < j := hc
  exact mod_int' (by omega) (by rw [Int.fmod_eq_emod_of_nonneg i (by omega)]; exact q)
theorem unI {f : Value → Sem Value} {g : Int → Int}
    (rule : ∀ (i : Int) (t : Tok) (s : Shared) (Q : Value → Shared → Prop) (E : Value → Shared → Prop), Q (.int (g i) s.toks) { s with toks := s.toks + 1 } → wpAny (model X.prog X.w) X.A (f (.int i t)) Q E s) :
    UnR X f (rU fun i => .int (g i)) := by
  intro pins s σ H x v Q I rx h
  obtain ⟨i, rfl, q⟩ := h
  obtain ⟨t, rfl⟩ := rx
  exact rule i t s _ _ ⟨.int (g i), H, I.tok _, ⟨_, rfl⟩, q⟩
theorem zTY : UnR X (unaryOp .USub) (rU fun i => .int (-i)) := unI fun _ _ _ _ _ q => neg_int q
end
section
variable {X : Cx} {a b c : Expr} {ta tb tc : TE} {pos : Pos}
theorem zNW {pins : List (Addr × Obj)} {σ : St} {H : Hp} {s : Shared} {Q : VK} {k k' : Bool} (I : Inv X pins σ H s) (q : Q (.bl k) H) (e : k = k') : EP X pins σ Q (.bool k') s := by
  subst e
  exact ⟨.bl k, H, I, rfl, q⟩
theorem zKZ : OpR X (compareOp .LtE) (rI0 fun i j => .bl (decide (i ≤ j))) := opB0 fun _ _ _ _ _ _ _ q => le_int q
theorem op_gt : OpR X (compareOp .Gt) (rI0 fun i j => .bl (decide (j < i))) := opB0 fun _ _ _ _ _ _ _ q => gt_int q
theorem zMI : OpR X (compareOp .In) (fun x y H Q => ∃ i j, x = .str i ∧ y = .str j ∧ Q (.bl (!(Builtin.Str.occurrences j i 0 j.length 1).isEmpty)) H) := by
  intro pins s σ H x y v u Q I rx ry h
  obtain ⟨i, j, rfl, rfl, q⟩ := h
  obtain ⟨t, rfl⟩ := rx
  obtain ⟨t', rfl⟩ := ry
  exact in_str (zNW I q rfl)
theorem zFZ : OpR X (compareOp .NotIn) (fun x y H Q => ∃ i j, x = .str i ∧ y = .str j ∧ Q (.bl (!(!(Builtin.Str.occurrences j i 0 j.length 1).isEmpty))) H) := by
  intro pins s σ H x y v u Q I rx ry h
  obtain ⟨i, j, rfl, rfl, q⟩ := h
  obtain ⟨t, rfl⟩ := rx
  obtain ⟨t', rfl⟩ := ry
  exact notIn_str (zNW I q rfl)
theorem OpR.or {f : Value → Value → Sem Value} {r r' : R2} (h : OpR X f r) (h' : OpR X f r') : OpR X f (fun x y H Q => r x y H Q ∨ r' x y H Q) := by
  intro pins s σ H x y v u Q I rx ry q
  rcases q with q | q
  · exact h pins s σ H x y v u Q I rx ry q
  · exact h' pins s σ H x y v u Q I rx ry q
theorem zNX (b : Expr) {op : CmpOp} (h : op ≠ .In := by decide) (h2 : op ≠ .NotIn := by decide) : behindInMarks op b = false := by
  have e1 : (op == CmpOp.In) = false := by cases op <;> first | rfl | exact absurd rfl h
  have e2 : (op == CmpOp.NotIn) = false := by cases op <;> first | rfl | exact absurd rfl h2
  cases b <;> simp [behindInMarks, e1, e2]
theorem zQT {op : CmpOp} {r : R2} (ho : OpR X (compareOp op) r) (ha : PE X a ta) (hb : PE X b tb) (hm : behindInMarks op b = false) : PE X (.Compare a [op] [b] pos) (tOp r ta tb) := by
  intro pins s σ H Q I h
  exact wpAny_Compare1 (binT ha hb I h fun v u s2 x y H2 I2 rx ry q => ho pins s2 σ H2 x y v u Q I2 rx ry q) hm
noncomputable def zSV (t : TE) : TT := fun σ H Q => t σ H fun x H' => ∃ k, x = .bl k ∧ Q k H'
theorem zQU {op : CmpOp} {r : R2} (ho : OpR X (compareOp op) r) (ha : PE X a ta) (hb : PE X b tb) (hm : behindInMarks op b = false) : PT X (.Compare a [op] [b] pos) (zSV (tOp r ta tb)) := by
  intro pins s σ H Q I h
  refine wpAny_isTrue_Compare1 (thn (ha pins s σ H _ I h) fun v s1 ⟨x, H1, I1, r1, q1⟩ => thn (hb pins s1 σ H1 _ I1 q1) fun u s2 ⟨y, H2, I2, r2, q2⟩ =>
    thn (ho pins s2 σ H2 x y v u _ I2 r1 r2 q2) fun c s3 ⟨z, H3, I3, r3, k, e, q3⟩ => ?_) hm
  subst e
  cases r3
  exact wpAny_truthy_bool ⟨H3, I3, q3⟩
noncomputable def zJM (r r' : R2) (ta tb tc : TE) : TE := fun σ H Q => ta σ H fun x H1 => tb σ H1 fun y H2 => r x y H2 fun z H3 => ∃ k, z = .bl k ∧
  (if k = true then tc σ H3 fun w' H4 => r' y w' H4 Q else Q (.bl false) H3)
theorem zNY {op op' : CmpOp} {r r' : R2} (ho : OpR X (compareOp op) r) (ho' : OpR X (compareOp op') r') (ha : PE X a ta) (hb : PE X b tb) (hc : PE X c tc)
    (hm : lastMarks [op, op'] [b, c] = false := by with_unfolding_all rfl) : PE X (.Compare a [op, op'] [b, c] pos) (zJM r r' ta tb tc) := by
  intro pins s σ H Q I h
  refine Compare_chain (thn (ha pins s σ H _ I h) fun v s1 ⟨x, H1, I1, r1, q1⟩ => chain_link (thn (hb pins s1 σ H1 _ I1 q1) fun u s2 ⟨y, H2, I2, r2, q2⟩ =>
    thn (ho pins s2 σ H2 x y v u _ I2 r1 r2 q2) fun d s3 ⟨z, H3, I3, r3, k, e, q3⟩ => ?_)) hm
  subst e
  cases r3
  refine wpAny_truthy_bool ?_
  cases k with
  | false => exact ite_ff ⟨.bl false, H3, I3, rfl, q3⟩
  | true => exact ite_tt (chain_last (thn (hc pins s3 σ H3 _ I3 q3) fun w' s4 ⟨z', H4, I4, r4, q4⟩ => ho' pins s4 σ H4 y z' u w' Q I4 r2 r4 q4))
theorem zNZ {op op' : CmpOp} {r r' : R2} (ho : OpR X (compareOp op) r) (ho' : OpR X (compareOp op') r') (ha : PE X a ta) (hb : PE X b tb) (hc : PE X c tc)
    (hm : lastMarks [op, op'] [b, c] = false := by with_unfolding_all rfl) : PT X (.Compare a [op, op'] [b, c] pos) (zSV (zJM r r' ta tb tc)) := by
  intro pins s σ H Q I h
  refine isTrue_chain (thn (ha pins s σ H _ I h) fun v s1 ⟨x, H1, I1, r1, q1⟩ => test_link (thn (hb pins s1 σ H1 _ I1 q1) fun u s2 ⟨y, H2, I2, r2, q2⟩ =>
    thn (ho pins s2 σ H2 x y v u _ I2 r1 r2 q2) fun d s3 ⟨z, H3, I3, r3, k, e, q3⟩ => ?_)) hm
  subst e
  cases r3
  refine wpAny_truthy_bool ?_
  cases k with
  | false =>
    obtain ⟨k', e', q'⟩ := q3
    cases e'
    exact ite_ff ⟨H3, I3, q'⟩
  | true =>
    refine ite_tt (test_last (thn (hc pins s3 σ H3 _ I3 q3) fun w' s4 ⟨z', H4, I4, r4, q4⟩ => thn (ho' pins s4 σ H4 y z' u w' _ I4 r2 r4 q4) fun d' s5 ⟨z2, H5, I5, r5, k2, e2, q5⟩ => ?_))
    subst e2
    cases r5
    exact wpAny_truthy_bool ⟨H5, I5, q5⟩
noncomputable def TruV (K : PySem.W.Frag) (x : V) (H : Hp) (k : Bool) : Prop :=
  match x with
  | .non => k = false
  | .bl b => k = b
  | .int i => k = (i != 0)
  | .str y => y.length ≤ sizeLine ∧ k = ((y.length : Int) != 0)
  | .byt y => y.size ≤ sizeLine ∧ k = ((y.size : Int) != 0)
  | .ref p => (∃ xs, SqL K H p xs ∧ k = !xs.isEmpty) ∨ (∃ xs, SqT K H p xs ∧ k = !xs.isEmpty) ∨ ∃ kvs, H p = some (.dK kvs) ∧ k = !kvs.isEmpty
  | _ => False
theorem zJN {κ : Type} {kvs : List (κ × V)} {vs : List (κ × Value)} (r : KV kvs vs) : (!vs.isEmpty) = !kvs.isEmpty := by
  cases r <;> rfl
theorem zCT {xs : List V} {its : List Value} (r : Vals xs its) : (!its.toArray.isEmpty) = !xs.isEmpty := by
  cases r <;> simp
theorem zBB : (sizeLine : Nat) < 2 ^ 63 := by rw [sizeLine_eq]; decide
theorem zTZ : TruR X (fun x H Q => ∃ k, TruV X.K x H k ∧ Q k H) := by
  intro pins s σ H x v Q I rx h
  obtain ⟨k, e, q⟩ := h
  have hl := zBB
  have hs : sizeLine = 16777216 := sizeLine_eq
  cases x with
  | non =>
    cases rx
    have e' : k = false := e
    subst e'
    exact truthy_none ⟨H, I, q⟩
  | bl b =>
    cases rx
    have e' : k = b := e
    subst e'
    exact wpAny_truthy_bool ⟨H, I, q⟩
  | int i =>
    obtain ⟨t, rfl⟩ := rx
    have e' : k = (i != 0) := e
    subst e'
    exact PySem.P.truthy_int ⟨H, I, q⟩
  | str y =>
    obtain ⟨t, rfl⟩ := rx
    obtain ⟨hy, e'⟩ : y.length ≤ sizeLine ∧ k = ((y.length : Int) != 0) := e
    subst e'
    exact PySem.P.truthy_str (by omega) ⟨H, I.tok _, q⟩
  | byt y =>
    obtain ⟨t, rfl⟩ := rx
    obtain ⟨hy, e'⟩ : y.size ≤ sizeLine ∧ k = ((y.size : Int) != 0) := e
    subst e'
    exact PySem.W.truthy_bytes (by omega) ⟨H, I.tok _, q⟩
  | ref p =>
    cases rx
    have e' : (∃ xs, SqL X.K H p xs ∧ k = !xs.isEmpty) ∨ (∃ xs, SqT X.K H p xs ∧ k = !xs.isEmpty) ∨ ∃ kvs, H p = some (.dK kvs) ∧ k = !kvs.isEmpty := e
    rcases e' with ⟨xs, hx, e'⟩ | ⟨xs, hx, e'⟩ | ⟨kvs, hx, e'⟩
    · subst e'
      obtain ⟨its, r, pl, hz⟩ := I.list hx
      have hlen := r.length
      exact wpAny_truthy_list pl.isList (by simp only [List.size_toArray]; omega) ⟨H, I.tok _, by rw [zCT r]; exact q⟩
    · subst e'
      obtain ⟨its, r, pl, hz⟩ := I.tuple hx
      have hlen := r.length
      exact truthy_tuple pl (by simp only [List.size_toArray]; omega) ⟨H, I.tok _, by rw [zCT r]; exact q⟩
    · subst e'
      obtain ⟨hz, hS, vs, r, m⟩ : kvs.length ≤ sizeLine ∧ (p == sysModules) = false ∧ ∃ vs, KV kvs vs ∧ s.heap.DictOf (zCH X.prog X.w) p vs := I.hok p _ hx
      have hlen : kvs.length = vs.length := Paired.length r
      exact wpAny_truthy_dict hS m (by omega) ⟨H, I.tok _, by rw [zJN r]; exact q⟩
  | _ => exact (show False from e).elim
theorem zOA (ha : PE X a ta) (he : ∀ whole, isTrue a X.env whole = (do let v ← whole; standAt a.pos; holding [v] (truthy v))) :
    PT X a (fun σ H Q => ta σ H fun x H' => ∃ k, TruV X.K x H' k ∧ Q k H') := by
  intro pins s σ H Q I h
  exact isTrue_plain (thn (ha pins s σ H _ I h) fun v s1 ⟨x, H1, I1, r1, q1⟩ => zTZ pins s1 σ H1 x v Q I1 r1 q1) (he _)
theorem zJO : OpR X (binaryOp .Add) (fun x y H Q => ∃ i j, x = .str i ∧ y = .str j ∧ i.length + j.length ≤ sizeLine ∧ Q (.str (i ++ j)) H) := by
  intro pins s σ H x y v u Q I rx ry h
  obtain ⟨i, j, rfl, rfl, hz, q⟩ := h
  obtain ⟨t, rfl⟩ := rx
  obtain ⟨t', rfl⟩ := ry
  exact add_str (fun t' tk => ⟨.str (i ++ j), H, I.tok _, ⟨_, rfl⟩, q⟩) hz
theorem vals1 {x : V} {us : List Value} (r : Vals [x] us) : ∃ u, us = [u] ∧ RelV x u := by
  cases r with
  | cons r1 r2 => cases r2; exact ⟨_, rfl, r1⟩
theorem vals2 {x y : V} {us : List Value} (r : Vals [x, y] us) : ∃ u w', us = [u, w'] ∧ RelV x u ∧ RelV y w' := by
  cases r with
  | cons r1 r2 =>
    cases r2 with
    | cons r3 r4 => cases r4; exact ⟨_, _, rfl, r1, r3⟩
theorem zMJ : CallR X (.type "int") (fun xs H Q => (∃ i, xs = [.int i] ∧ Q (.int i) H) ∨ ∃ k, xs = [.bl k] ∧ Q (.int (if k then 1 else 0)) H) := by
  intro pins s σ H xs us Q I r h
  rcases h with ⟨i, rfl, q⟩ | ⟨k, rfl, q⟩
  · obtain ⟨u, rfl, t, rfl⟩ := vals1 r
    exact call_int_int ⟨.int i, H, I, ⟨_, rfl⟩, q⟩
  · obtain ⟨u, rfl, r1⟩ := vals1 r
    cases r1
    exact call_int_bool ⟨.int (if k then 1 else 0), H, I.tok _, ⟨_, rfl⟩, q⟩
theorem zGA : CallR X (.type "str") (fun xs H Q => ∃ i, xs = [.int i] ∧ i.natAbs.log2 < 1920 ∧ Q (.str (toString i)) H) := by
  intro pins s σ H xs us Q I r h
  obtain ⟨i, rfl, hz, q⟩ := h
  obtain ⟨u, rfl, t, rfl⟩ := vals1 r
  exact PySem.P.str_of_int hz ⟨.str _, H, I.tok _, ⟨_, rfl⟩, q⟩
end
end L2
namespace L2
open PySem PySem.Spec PyProof.Rows
structure Room (k : Nat) (A : Around) : Prop where
  hd : A.handled = none
  dp : A.depth + 3 * k + 5 < recursionLimit
  un : A.units + 16 * k + 200 < cLine
theorem Room.mono {j k : Nat} {A : Around} (r : Room k A) (h : j ≤ k) : Room j A := ⟨r.hd, by have := r.dp; omega, by have := r.un; omega⟩
theorem Room.deeper {k : Nat} {A : Around} (r : Room (k + 1) A) (env : Env) : Room k (A.deeper env) :=
  ⟨r.hd, by have := r.dp; show A.depth + 1 + 3 * k + 5 < _; omega, by have := r.un; show A.units + 3 + 16 * k + 200 < _; omega⟩
theorem Room.depth {k : Nat} {A : Around} (r : Room k A) : A.depth < recursionLimit := by have := r.dp; omega
theorem Room.units {k : Nat} {A : Around} (r : Room k A) : A.units + 64 < cLine := by have := r.un; omega
noncomputable def tNil : TA := fun _ H Q => Q [] H
noncomputable def tCons (ta : TE) (tr : TA) : TA := fun σ H Q => ta σ H fun x H1 => tr σ H1 fun xs H2 => Q (x :: xs) H2
section
variable {X : Cx} {e : Expr} {es : List Expr} {te : TE} {t : TA} {pos : Pos}
theorem zJP : PA X [] tNil := fun _ _ _ _ H Q I h => Calls.spliced_nil ⟨[], H, I, .nil, h⟩
theorem zAG (ha : PE X e te) (hr : PA X es t) (hs : starEach (e :: es) X.env = (false, eval e X.env) :: starEach es X.env := by rfl) : PA X (e :: es) (tCons te t) := by
  intro pos pins s σ H Q I h
  rw [hs]
  show wpAny _ _ (spliced ((false, eval e X.env) :: backTo pos (starEach es X.env))) _ _ s
  refine Calls.spliced_cons (thn (ha pins s σ H _ I h) fun u s1 ⟨x, H1, I1, r1, q1⟩ => ?_)
  exact thn (hr pos pins s1 σ H1 _ I1 q1) fun us s2 ⟨xs, H2, I2, r2, q2⟩ => ⟨x :: xs, H2, I2, .cons r1 r2, q2⟩
noncomputable def tTup (t : TA) : TE := fun σ H Q => t σ H fun xs H1 => xs.length ≤ sizeLine ∧ ∀ p, H1 p = none → Q (.ref p) (upd H1 p (.tup xs))
noncomputable def tLst (t : TA) : TE := fun σ H Q => t σ H fun xs H1 => xs.length ≤ sizeLine ∧ ∀ p, H1 p = none → Q (.ref p) (upd H1 p (.lst xs))
theorem zUA {x1} (h : PA X es t) : PE X (.Tuple es x1 pos) (tTup t) := by
  intro pins s σ H Q I hq
  refine wpAny_Tuple_spliced (thn (h pos pins s σ H _ I hq) fun us s1 ⟨xs, H1, I1, r, z, q⟩ => ⟨by rw [← r.length]; exact z, ?_⟩)
  have hf : H1 s1.heap.objs.size = none := I1.hok.fresh (Nat.le_refl _)
  refine ⟨.ref s1.heap.objs.size, upd H1 s1.heap.objs.size (.tup xs), I1.laid (t' := s1.toks) (fun b u e => Heap.get?_push_of_some _ e) (Nat.le_refl _) ?_, rfl, q _ hf⟩
  exact ⟨z, us, r, ⟨_, Heap.get?_push_size _ rfl, rfl, _, rfl⟩⟩
theorem zUB (h : PA X es t) : PE X (.List es pos) (tLst t) := by
  intro pins s σ H Q I hq
  refine wpAny_List_spliced (thn (h pos pins s σ H _ I hq) fun us s1 ⟨xs, H1, I1, r, z, q⟩ => ⟨by rw [← r.length]; exact z, ?_⟩)
  have hf : H1 s1.heap.objs.size = none := I1.hok.fresh (Nat.le_refl _)
  refine ⟨.ref s1.heap.objs.size, upd H1 s1.heap.objs.size (.lst xs), I1.laid (t' := s1.toks) (fun b u e => Heap.get?_push_of_some _ e) (Nat.le_refl _) ?_, rfl, q _ hf⟩
  exact ⟨z, us, 0, r, Heap.get?_push_size _ rfl⟩
end
abbrev Sp := List V → Hp → VK → XK → Prop
abbrev CXT := List Env → Hp → Shared → XK → Value → Shared → Prop
structure Env0 (P : Program) (w : World) (K : PySem.W.Frag) (mg : Str → Option Value) (base : Heap) (A : Around) (outer : List Env) (s : Shared) (H : Hp) : Prop where
  frames : A.frames = some outer
  mod : Mod K mg base
  bs : ∀ b o, base.get? b = some o → s.heap.get? b = some o ∧ H b = none
  bsz : base.objs.size ≤ s.heap.objs.size
  funs : s.heap.FunFrames base outer
  frf : ∀ b ∈ frs outer, H b = none
  hok : HOk P w H s.heap
  bare : AllBare s.gens
noncomputable def CE (outer : List Env) (P : Program) (w : World) (H : Hp) (s : Shared) (Q : VK) (u : Value) (s' : Shared) : Prop :=
  ∃ v H', s'.os = s.os ∧ AllBare s'.gens ∧ Un (frs outer) [] H H' s.heap s'.heap ∧ HOk P w H' s'.heap ∧ RelV v u ∧ Q v H'
noncomputable def CR (CX : CXT) (outer : List Env) (P : Program) (w : World) (H : Hp) (s : Shared) (Q : VK) (E : XK) (r : Result) (s' : Shared) : Prop :=
  match r with
  | .ok (.ret u) => CE outer P w H s Q u s'
  | .ok _ => False
  | .error e => CX outer H s E e s'
structure FnOk (P : Program) (w : World) (K : PySem.W.Frag) (mg : Str → Option Value) (base : Heap) (CX : CXT) (k : Nat) (f : Addr) (fd : FuncData) (ps : List Str) (sp : Sp) : Prop where
  len : ∀ vs H Q E, sp vs H Q E → vs.length = ps.length
  run : ∀ (A : Around) (outer : List Env) (s : Shared) (H : Hp) (args : Args) (us : List Value) (vs : List V) (Q : VK) (E : XK), Room k A → Env0 P w K mg base A outer s H → BindsTo s fd args (ps.zip us) → Vals vs us → sp vs H Q E →
    codeAny (model P w) A (.call (.ref f) args) (CR CX outer P w H s Q E) s
theorem FnOk.imp {P : Program} {w : World} {K : PySem.W.Frag} {mg : Str → Option Value} {base : Heap} {CX : CXT} {k : Nat} {f : Addr} {fd : FuncData} {ps : List Str} {sp sp' : Sp} (F : FnOk P w K mg base CX k f fd ps sp)
    (h : ∀ vs H Q E, sp' vs H Q E → sp vs H Q E) : FnOk P w K mg base CX k f fd ps sp' :=
  ⟨fun vs H Q E q => F.len vs H Q E (h _ _ _ _ q), fun A outer s H args us vs Q E hr he hb hv hs => F.run A outer s H args us vs Q E hr he hb hv (h _ _ _ _ hs)⟩
section
variable {X : Cx} {pins : List (Addr × Obj)} {σ : St} {H : Hp} {s s' : Shared}
theorem Inv.env0 (I : Inv X pins σ H s) : Env0 X.prog X.w X.K X.mg X.base X.A X.stack s H :=
  ⟨I.ok.frames, I.ok.mod, I.bs, Nat.le_trans I.ok.bsz I.sz, I.stack, I.stkFree, I.hok, I.bare⟩
theorem Inv.after {Q : VK} {u : Value} (I : Inv X pins σ H s) (h : CE X.stack X.prog X.w H s Q u s') : EP X pins σ Q u s' := by
  obtain ⟨v, H', os, bare, un, hok, r, q⟩ := h
  obtain ⟨hh, g, d, t, os'⟩ := s'
  obtain rfl : os' = s.os := os
  exact ⟨v, H', I.call (h' := hh) (g' := g) (d' := d) (t' := t) (ch := []) un hok bare (fun b z => absurd z (by simp)), r, q⟩
end
noncomputable def tCall (sp : Sp) (dvs : List V) (E : XK) (t : TA) : TE := fun σ H Q => t σ H fun vs H1 => sp (vs ++ dvs) H1 Q E
noncomputable def Binds (K : PySem.W.Frag) (fd : FuncData) (ps : List Str) (ds : List Value) : Prop :=
  ∀ (s : Shared) (us : List Value), K.In s.heap → (us ++ ds).length = ps.length → BindsTo s fd ⟨us, []⟩ (ps.zip (us ++ ds))
theorem Binds.all {K : PySem.W.Frag} {fd : FuncData} {ps : List Str} (h : ∀ us : List Value, us.length = ps.length → bindArgs fd ⟨us, []⟩ = pure (ps.zip us)) : Binds K fd ps [] := fun s us _ hl => by
  rw [List.append_nil] at hl ⊢
  exact .of_eq (h us hl)
noncomputable def zGB (CX : CXT) (X : Cx) (E : XK) : Prop := ∀ (pins : List (Addr × Obj)) (σ : St) (H : Hp) (s : Shared) (e : Value) (s' : Shared), Inv X pins σ H s → CX X.stack H s E e s' → X.xe e s'
section
variable {X : Cx} {CX : CXT} {k : Nat} {f C : Addr} {fd : FuncData} {ps : List Str} {sp : Sp} {dvs : List V} {ds : List Value} {E : XK} {x m : Str} {p pos apos : Pos} {e o : Expr} {es : List Expr} {ta : TE} {t : TA}
theorem zUC {pins : List (Addr × Obj)} {σ : St} {H : Hp} {s : Shared} {Q : VK} {us : List Value} {vs : List V} (F : FnOk X.prog X.w X.K X.mg X.base CX k f fd ps sp) (hr : Room k X.A) (hb : Binds X.K fd ps ds) (hd : Vals dvs ds) (hx : zGB CX X E)
    (I : Inv X pins σ H s) (r : Vals vs us) (h : sp (vs ++ dvs) H Q E) : wpAny (model X.prog X.w) X.A (call (.ref f) us) (EP X pins σ Q) X.xe s := by
  have r2 : Vals (vs ++ dvs) (us ++ ds) := r.append hd
  have hl : (us ++ ds).length = ps.length := by rw [← r2.length]; exact F.len _ _ _ _ h
  refine wpAny_call (codeAny_mono (F.run X.A X.stack s H ⟨us, []⟩ (us ++ ds) (vs ++ dvs) Q E hr I.env0 (hb s us I.kIn hl) r2 h) fun r s' hq => ?_)
  cases r with
  | error e => exact hx pins σ H s e s' I hq
  | ok fl =>
    cases fl with
    | ret u => exact I.after hq
    | next => exact False.elim hq
    | brk => exact False.elim hq
    | cont => exact False.elim hq
theorem zQV (F : FnOk X.prog X.w X.K X.mg X.base CX k f fd ps sp) (hr : Room k X.A) (hg : Gl X x) (hm : X.mg x = some (.ref f)) (hk : PySem.W.keepIn X.K (.ref f) = true) (hb : Binds X.K fd ps ds) (hd : Vals dvs ds) (hx : zGB CX X E)
    (ha : PA X (e :: es) t) (hdb : (x == ("__debug__" : Str)) = false := by decide) (he : starEach (e :: es) X.env = (false, eval e X.env) :: starEach es X.env := by rfl) (hpl : (backTo pos (starEach es X.env)).any (·.1) = false := by rfl) :
    PE X (.Call (.Name x p) (e :: es) [] pos) (tCall sp dvs E t) := by
  intro pins s σ H Q I h
  refine wpAny_Call_Name_kw (zAF I hg hm ?_ hdb)
  refine PySem.W.callWith_K (h₀ := X.base) I.ok.mod.kin hk (thn (ha pos pins s σ H _ I h) fun us s1 ⟨vs, H1, I1, r, q⟩ => ⟨I1.kIn, ?_⟩) he hpl
  exact zUC F hr hb hd hx I1 r q
end
structure FnScope (N P : List Str) (sc : Scope) : Prop where
  kind : sc.kind = .function
  co : sc.isCoroutine = false
  gen : sc.isGenerator = false
  nd : N.Nodup
  pre : N.take P.length = P
  par : ∀ x ∈ P, sc.names.lookup x = some .local ∨ sc.names.lookup x = some .cell
  nofree : ∀ y ∈ sc.names, y.2 ≠ .free
theorem zFD {kindOf : Str → Option NameKind} {x : Str} : ∀ {binds : List (Str × Value)} {m : Str → Option Value}, (∀ v, (x, v) ∉ binds) → bindL kindOf binds m x = m x
  | [], _, _ => rfl
  | (n, v) :: r, m, h => by
    unfold bindL
    rw [zFD fun w hw => h w (List.mem_cons_of_mem _ hw)]
    split
    · have : x ≠ n := by rintro rfl; exact h v List.mem_cons_self
      simp [this]
    · rfl
theorem zFE {kindOf : Str → Option NameKind} {x : Str} : ∀ {binds : List (Str × Value)} {m : Str → Option Value}, (∀ v, (x, v) ∉ binds) → bindC kindOf binds m x = m x
  | [], _, _ => rfl
  | (n, v) :: r, m, h => by
    unfold bindC
    rw [zFE fun w hw => h w (List.mem_cons_of_mem _ hw)]
    split
    · rfl
    · have : x ≠ n := by rintro rfl; exact h v List.mem_cons_self
      simp [this]
theorem zFF {kindOf : Str → Option NameKind} {x : Str} {v : Value} : ∀ {P : List Str} {vs : List Value} {i : Nat} {m : Str → Option Value}, P.Nodup → P[i]? = some x → vs[i]? = some v → kindOf x = some .local →
    bindL kindOf (P.zip vs) m x = some v
  | [], _, _, _, _, h, _, _ => by simp at h
  | _ :: _, [], _, _, _, _, h, _ => by simp at h
  | p :: P, w :: vs, 0, m, nd, h1, h2, hk => by
    simp at h1 h2; subst h1; subst h2
    show bindL kindOf ((p, w) :: P.zip vs) m p = _
    unfold bindL
    rw [zFD fun v hv => (List.nodup_cons.mp nd).1 (List.of_mem_zip hv).1, if_pos hk]
    simp
  | p :: P, w :: vs, i + 1, m, nd, h1, h2, hk => by
    show bindL kindOf ((p, w) :: P.zip vs) m x = _
    unfold bindL
    exact zFF (i := i) (List.nodup_cons.mp nd).2 (by simpa using h1) (by simpa using h2) hk
theorem zFG {kindOf : Str → Option NameKind} {x : Str} {v : Value} : ∀ {P : List Str} {vs : List Value} {i : Nat} {m : Str → Option Value}, P.Nodup → P[i]? = some x → vs[i]? = some v → kindOf x ≠ some .local →
    bindC kindOf (P.zip vs) m x = some v
  | [], _, _, _, _, h, _, _ => by simp at h
  | _ :: _, [], _, _, _, _, h, _ => by simp at h
  | p :: P, w :: vs, 0, m, nd, h1, h2, hk => by
    simp at h1 h2; subst h1; subst h2
    show bindC kindOf ((p, w) :: P.zip vs) m p = _
    unfold bindC
    rw [zFE fun v hv => (List.nodup_cons.mp nd).1 (List.of_mem_zip hv).1, if_neg hk]
    simp
  | p :: P, w :: vs, i + 1, m, nd, h1, h2, hk => by
    show bindC kindOf ((p, w) :: P.zip vs) m x = _
    unfold bindC
    exact zFG (i := i) (List.nodup_cons.mp nd).2 (by simpa using h1) (by simpa using h2) hk
noncomputable def start (N : List Str) (vs : List V) : St := vs.map some ++ List.replicate (N.length - vs.length) none
noncomputable def zGC (CX : CXT) (P : Program) (w : World) (K : PySem.W.Frag) (mg : Str → Option Value) (base : Heap) (N : List Str) (qual : Str) (scope : Scope) (f : Addr) (cd : Value) (A : Around) (outer : List Env) (s : Shared) (H : Hp) (E : XK) : Cx where
  prog := P
  w := w
  K := K
  mg := mg
  base := base
  A := A.deeper (envOfC qual scope s.heap.objs.size f cd)
  N := N
  s₀ := s
  H₀ := H
  env := envOfC qual scope s.heap.objs.size f cd
  outer := outer
  stack := envOfC qual scope s.heap.objs.size f cd :: outer
  ex := []
  calm := true
  fn := fun _ => true
  pn := []
  xe := fun e s' => wpAny (model P w) (A.deeper (envOfC qual scope s.heap.objs.size f cd)) (leaving (envOfC qual scope s.heap.objs.size f cd) e) (fun _ s'' => CX outer H s E e s'') (fun e' s'' => CX outer H s E e' s'') s'
theorem zHT {sc : Scope} {n : Nat} {x : Str} (h : sc.names.lookup x = some .cell) : ∃ c, (cellsFrom n sc.names []).lookup x = some c := by
  have q := PySem.W.cellsFrom_some sc.names n [] (.inl h)
  exact Option.isSome_iff_exists.mp q
theorem zMK {CX : CXT} {P : Program} {w : World} {K : PySem.W.Frag} {mg : Str → Option Value} {base : Heap} {N ps : List Str} {qual : Str} {scope : Scope} {f : Addr} {cd : Value} {A : Around} {outer : List Env} {s s1 : Shared} {H : Hp} {E : XK} {us : List Value} {vs : List V}
    (S : FnScope N ps scope) (hd : A.handled = none) (e0 : Env0 P w K mg base A outer s H) (hl : vs.length = ps.length) (r : Vals vs us)
    (x : InCallC s s.heap.objs.size (bindL (envOfC qual scope s.heap.objs.size f cd).kindOf (ps.zip us) fun _ => none) (cellsFrom (s.heap.objs.size + 1) scope.names []) (bindC (envOfC qual scope s.heap.objs.size f cd).kindOf (ps.zip us) fun _ => none) s1) :
    Inv (zGC CX P w K mg base N qual scope f cd A outer s H E) [] (start N vs) H s1 := by
  have hpl : ps.length ≤ N.length := by have := congrArg List.length S.pre; rw [List.length_take] at this; omega
  obtain ⟨h1, tk, rfl, hk⟩ := x.done
  have noA : ∀ b : Addr, b ∉ (zGC CX P w K mg base N qual scope f cd A outer s H E).ex := fun b z => absurd (show b ∈ ([] : List Addr) from z) (by simp)
  refine ⟨⟨e0.mod, S.kind, rfl, rfl, Nat.le_refl _, fun y z c h1 h2 => ?_, fun y hy => ?_, fun y c _ h => ?_, fun _ => hd, Around.frames_deeper e0.frames, .inr ⟨rfl, rfl⟩, fun b z => absurd z (noA b), e0.bs, e0.bsz, fun b _ _ => noA b, fun b z => absurd z (noA b), e0.funs, e0.frf⟩,
    rfl, e0.bare, Un.kept hk, ⟨_, x.toInCall.ns, fun i y v h1 h2 h3 => ?_⟩, fun y c h => ⟨_, x.cell y c h⟩, e0.hok.fresh (Nat.le_refl _), fun y c h => ?_, fun p hp => absurd (show p ∈ ([] : List (Addr × Obj)) from hp) (by simp), e0.hok.kept hk, ?_⟩
  · exact name_of_addr x.apart (PySem.mem_of_lookup h1) (PySem.mem_of_lookup h2)
  · have hy : scope.names.lookup y = some .cell ∨ scope.names.lookup y = some .free := hy
    rcases hy with hy | hy
    · exact zHT hy
    · exact absurd rfl (S.nofree _ (PySem.mem_of_lookup hy))
  · exact Nat.le_of_lt (x.above y c (PySem.mem_of_lookup h))
  · have hi : i < vs.length := by
      unfold start at h2
      by_cases hi : i < vs.length
      · exact hi
      · rw [List.getElem?_append_right (by simpa using hi)] at h2
        rw [List.getElem?_replicate] at h2
        split at h2 <;> cases h2
    have ha : vs[i]? = some v := by
      unfold start at h2
      rw [List.getElem?_append_left (by simpa using hi), List.getElem?_map] at h2
      cases e : vs[i]? with
      | none => rw [e] at h2; cases h2
      | some a => rw [e] at h2; cases h2; rfl
    obtain ⟨u, hu, rv⟩ := r.get ha
    have hp : ps[i]? = some y := by
      rw [← S.pre, List.getElem?_take_of_lt (by omega)]; exact h1
    have ndP : ps.Nodup := by rw [← S.pre]; exact S.nd.sublist (List.take_sublist _ _)
    refine ⟨u, rv, ?_⟩
    rcases S.par y (List.mem_of_getElem? hp) with k | k
    · exact .inl ⟨k, zFF ndP hp hu k⟩
    · obtain ⟨c, e⟩ := zHT (n := s.heap.objs.size + 1) k
      refine .inr ⟨.inl k, c, e, ?_⟩
      have q := x.cell y c e
      rw [zFG ndP hp hu (by show scope.names.lookup y ≠ _; rw [k]; decide)] at q
      exact q
  · exact e0.hok.fresh (Nat.le_of_lt (x.above y c (PySem.mem_of_lookup h)))
  · unfold start
    show _ = N.length
    rw [List.length_append, List.length_map, List.length_replicate]
    omega
theorem zSW {CX : CXT} {P : Program} {w : World} {K : PySem.W.Frag} {mg : Str → Option Value} {base : Heap} {k : Nat} {f : Addr} {name qual : Str} {params : Arguments} {body : List Stmt} {scope : Scope} {dV kV doc pm cdv ct oc : Value} {an od : Option Addr}
    {osl : Array (Option Value)} {N ps : List Str} {sp : Sp} (lk : K.lookup f = some ⟨oc, od, .func (PySem.W.fnOf name qual params body scope dV kV doc pm an cdv ct), osl⟩) (hcd : PySem.W.codeIn K cdv qual = true) (S : FnScope N ps scope)
    (len : ∀ vs H Q E, sp vs H Q E → vs.length = ps.length)
    (hbody : ∀ (A : Around) (outer : List Env) (s : Shared) (H : Hp) (vs : List V) (Q : VK) (E : XK), Room k (A.deeper (envOfC qual scope s.heap.objs.size f cdv)) → sp vs H Q E →
      ∃ t, PSs (zGC CX P w K mg base N qual scope f cdv A outer s H E) body t ∧ t { nx := fun _ H' => Q .non H', rt := Q } (start N vs) H) :
    FnOk P w K mg base CX (k + 1) f (PySem.W.fnOf name qual params body scope dV kV doc pm an cdv ct) ps sp := by
  refine ⟨len, fun A outer s H args us vs Q E hr e0 hb r hsp => ?_⟩
  have hl := len _ _ _ _ hsp
  have KX : K.In s.heap := e0.mod.kin.keeps fun b o e => (e0.bs b o e).1
  have lim : s.heap.NoLimit := e0.mod.nolimit.keeps fun b o e => (e0.bs b o e).1
  have hkind : ∀ y ∈ ps.zip us, scope.names.lookup y.1 = some .local ∨ (scope.names.lookup y.1 = some .cell ∧ ((cellsFrom (s.heap.objs.size + 1) scope.names []).lookup y.1).isSome = true) := fun ⟨n, v⟩ hy => by
    rcases S.par n (List.of_mem_zip hy).1 with q | q
    · exact .inl q
    · exact .inr ⟨q, PySem.W.cellsFrom_some _ _ _ (.inl q)⟩
  refine codeAny_call_function hr.depth (KX _ _ lk) rfl S.co S.gen rfl (PySem.W.codeRec_of KX hcd) (hb _ _ _ _ ?_)
  refine wpAny_newFunctionEnv_cells S.kind hkind fun env he s1 x => ?_
  subst he
  refine ⟨lim.keeps x.toInCall.keep, codeAny_func ?_⟩
  obtain ⟨t, ht, hq⟩ := hbody A outer s H vs Q E (hr.deeper _) hsp
  have I : Inv (zGC CX P w K mg base N qual scope f cdv A outer s H E) [] (start N vs) H s1 := zMK S hr.hd e0 hl r x
  refine wpAny_mono (ht [] s1 (start N vs) H _ I hq) (fun fl s' hs => ?_) fun e s' hs => hs
  have fin : ∀ {σ' : St} {H' : Hp} {v : V} {u : Value}, Inv (zGC CX P w K mg base N qual scope f cdv A outer s H E) [] σ' H' s' → RelV v u → Q v H' → CE outer P w H s Q u s' :=
    fun {σ' H' v u} J rv q => ⟨v, H', J.os, J.bare, J.base, J.hok, rv, q⟩
  cases fl with
  | ret u =>
    obtain ⟨v, σ', H', J, rv, q⟩ := hs
    exact fin J rv q
  | next =>
    obtain ⟨σ', H', J, q⟩ := hs
    exact fin (v := V.non) (u := Value.none) J rfl q
  | brk =>
    obtain ⟨_, _, _, q⟩ := hs
    exact False.elim q
  | cont =>
    obtain ⟨_, _, _, q⟩ := hs
    exact False.elim q
end L2
namespace L2
open PySem PySem.Spec PyProof.Rows
section
variable {X : Cx} {x : Str} {p pos : Pos} {e : Expr} {es : List Expr} {t : TA} {id T : String} {r : List V → Hp → VK → Prop}
noncomputable def tCB (r : List V → Hp → VK → Prop) (t : TA) : TE := fun σ H Q => t σ H fun vs H1 => r vs H1 Q
theorem zCU (hc : CallR X (.builtin id) r) (hg : Gl X x) (hm : X.mg x = none) (hv : bootBuiltins x = some (.builtin id)) (ha : PA X (e :: es) t) (hn : x ≠ "__name__" := by decide) (hdb : (x == ("__debug__" : Str)) = false := by decide)
    (he : starEach (e :: es) X.env = (false, eval e X.env) :: starEach es X.env := by rfl) (hpl : (backTo pos (starEach es X.env)).any (·.1) = false := by rfl) : PE X (.Call (.Name x p) (e :: es) [] pos) (tCB r t) := by
  intro pins s σ H Q I h
  refine wpAny_Call_Name_kw (zCS I hg hm hv ?_ hn hdb)
  exact PyProof.Rows.callWith_builtin1 (thn (ha pos pins s σ H _ I h) fun us s1 ⟨vs, H1, I1, r1, q1⟩ => hc pins s1 σ H1 vs us Q I1 r1 q1) he hpl
theorem zML (hc : CallR X (.type T) r) (hg : Gl X x) (hm : X.mg x = none) (hv : bootBuiltins x = some (.type T)) (ha : PA X (e :: es) t) (hn : x ≠ "__name__" := by decide) (hdb : (x == ("__debug__" : Str)) = false := by decide)
    (he : starEach (e :: es) X.env = (false, eval e X.env) :: starEach es X.env := by rfl) (hpl : (backTo pos (starEach es X.env)).any (·.1) = false := by rfl) : PE X (.Call (.Name x p) (e :: es) [] pos) (tCB r t) := by
  intro pins s σ H Q I h
  refine wpAny_Call_Name_kw (zCS I hg hm hv ?_ hn hdb)
  exact PyProof.Rows.callWith_type1 (thn (ha pos pins s σ H _ I h) fun us s1 ⟨vs, H1, I1, r1, q1⟩ => hc pins s1 σ H1 vs us Q I1 r1 q1) he hpl
end
end L2
namespace HT
open PySem PyProof.Rows
section
variable {prog : Program} {w : World} {A : Around} {E : Value → Shared → Prop} {s : Shared}
theorem cat_tup {t b : Addr} {vs ws : List Value} {Q : Value → Shared → Prop} (ht : IsTup s.heap t vs.toArray) (hb : IsTup s.heap b ws.toArray) (hv : vs ≠ [])
    (h1 : ws = [] → Q (.ref t) s) (h2 : ws ≠ [] → Q (.ref s.heap.objs.size) { s with heap := s.heap.push { cls := .type "tuple", data := .seq (vs ++ ws).toArray } })
    (hsz : vs.length + ws.length ≤ sizeLine) : wpAny (model prog w) A (binaryOp .Add (.ref t) (.ref b)) Q E s := by
  obtain ⟨⟨cls, dd, data, sl⟩, ho, hc, n, hd⟩ := id ht
  obtain ⟨⟨cls2, dd2, data2, sl2⟩, ho2, hc2, n2, hd2⟩ := id hb
  simp only at hc hd hc2 hd2
  subst hc hd hc2 hd2
  have e : vs.toArray ++ ws.toArray = (vs ++ ws).toArray := by simp
  by_cases hw : ws = []
  · exact concat_meets ⟨_, ho, rfl⟩ ⟨_, ho2, rfl⟩ noFill_tuple_add seq_tuple_add PySem.F.slot_tuple_add PySem.F.entry_tuple_add (PySem.F.args_tuple_add_2 _ _)
      (tuple_addW1 t b vs.toArray ws.toArray n n2 dd dd2 sl sl2 (by simpa using hv) (by simp [hw])) ⟨ho, ho2, h1 hw⟩
  · refine concat_meets ⟨_, ho, rfl⟩ ⟨_, ho2, rfl⟩ noFill_tuple_add seq_tuple_add PySem.F.slot_tuple_add PySem.F.entry_tuple_add (PySem.F.args_tuple_add_2 _ _)
      (tuple_addW2 t b vs.toArray ws.toArray n n2 dd dd2 sl sl2 (by simpa using hv) (by simpa using hw) (by rw [List.size_toArray, List.size_toArray]; exact hsz)) ⟨ho, ho2, ?_⟩
    rw [e]
    exact h2 hw
noncomputable def sIx (n d : Nat) : Option Int → Nat
  | none => d
  | some v => if v < 0 then (v + (n : Int)).toNat else min v.toNat n
theorem sIx_le (n d : Nat) (hd : d ≤ n) (o : Option Int) : sIx n d o ≤ n := by
  cases o with
  | none => exact hd
  | some v =>
    show (if v < 0 then (v + (n : Int)).toNat else min v.toNat n) ≤ n
    by_cases hv : v < 0
    · rw [if_pos hv]; omega
    · rw [if_neg hv]; exact Nat.min_le_right _ _
theorem zLA (v : Int) (n d : Nat) : (if v < 0 then max (v + (n : Int)) 0 else min v (n : Int)) = ((sIx n d (some v) : Nat) : Int) := by
  show (if v < 0 then max (v + (n : Int)) 0 else min v (n : Int)) = (((if v < 0 then (v + (n : Int)).toNat else min v.toNat n) : Nat) : Int)
  by_cases hv : v < 0
  · simp only [if_pos hv]; omega
  · simp only [if_neg hv]; omega
theorem zJQ (lo hi : Option Int) (n : Nat) : Builtin.Slice.sliceAdjust lo hi 1 (n : Int) = (((sIx n 0 lo : Nat) : Int), ((sIx n n hi : Nat) : Int)) := by
  have h1 : ¬ ((1 : Int) < 0) := by omega
  unfold Builtin.Slice.sliceAdjust
  simp only [h1, if_false]
  refine Prod.ext ?_ ?_
  · cases lo with
    | none => rfl
    | some v => exact zLA v n 0
  · cases hi with
    | none => rfl
    | some v => exact zLA v n n
theorem zJR (i j : Nat) : Builtin.Slice.slicePlaces (i : Int) (j : Int) 1 = j - i := by
  unfold Builtin.Slice.slicePlaces
  have h1 : (1 : Int) > 0 := by omega
  simp only [h1, if_true, Int.ediv_one]
  split <;> omega
theorem zCV {v : Value} {o : Option Int} {Q : Option Int → Shared → Prop} (p : IsPart v o) (h : Q o s) : wpAny (model prog w) A (Builtin.Slice.slicePartIndex v) Q E s := by
  cases p with
  | none => exact slicePart_none h
  | int i t => exact slicePart_int h
theorem sliceApplied_gen {sl : Addr} {vl vu : Value} {lo hi : Option Int} {n : Nat} {Q : Int × Int × Nat → Shared → Prop} (hs : s.heap.IsSliceOf sl vl vu .none) (pl : IsPart vl lo) (pu : IsPart vu hi)
    (h : Q (((sIx n 0 lo : Nat) : Int), 1, sIx n n hi - sIx n 0 lo) s) : wpAny (model prog w) A (Builtin.Slice.sliceApplied (.ref sl) (pure (n : Int))) Q E s := by
  obtain ⟨os, hos, hcs, hds⟩ := id hs
  unfold Builtin.Slice.sliceApplied Builtin.Slice.sliceFields
  refine wpAny_bind (wpAny_bind (wpAny_field hos hds (x := vl) rfl (wpAny_bind (wpAny_field hos hds (x := vu) rfl (wpAny_bind (wpAny_field hos hds (x := .none) rfl (wpAny_pure ?_)))))))
  refine wpAny_bind (slicePart_none ?_)
  show wpAny _ _ (if ((1 : Int) == 0) = true then _ else _) _ _ s
  rw [if_neg (by decide)]
  refine wpAny_bind (zCV pl (wpAny_bind (zCV pu (wpAny_bind (wpAny_pure ?_)))))
  show wpAny _ _ (match Builtin.Slice.sliceAdjust lo hi 1 (n : Int) with | (lo, hi) => pure (lo, (1 : Int), Builtin.Slice.slicePlaces lo hi 1)) _ _ s
  rw [zJQ lo hi n]
  show wpAny _ _ (pure (((sIx n 0 lo : Nat) : Int), (1 : Int), Builtin.Slice.slicePlaces ((sIx n 0 lo : Nat) : Int) ((sIx n n hi : Nat) : Int) 1)) _ _ s
  rw [zJR]
  exact wpAny_pure h
theorem zOB (xs : Array Value) (i k : Nat) : ((List.range k).filterMap fun (m : Nat) => xs[((i : Int) + (m : Int) * 1).toNat]?).toArray = ((xs.toList.drop i).take k).toArray := by
  have e : (fun (m : Nat) => xs[((i : Int) + (m : Int) * 1).toNat]?) = fun m => xs[i + m]? := by
    funext m
    have : ((i : Int) + (m : Int) * 1).toNat = i + m := by omega
    rw [this]
  rw [e]
  have := pick_run xs i k
  rw [List.filterMap_map] at this
  have e2 : ((fun x => xs[x]?) ∘ fun x => i + x) = fun m => xs[i + m]? := rfl
  rw [e2] at this
  rw [this]
theorem getItem_tuple_cut {t sl : Addr} {items : Array Value} {vl vu : Value} {lo hi : Option Int} {Q : Value → Shared → Prop} (ht : IsTup s.heap t items) (hs : s.heap.IsSliceOf sl vl vu .none) (pl : IsPart vl lo) (pu : IsPart vu hi)
    (hw : ¬ (sIx items.size 0 lo = 0 ∧ sIx items.size items.size hi = items.size))
    (h : Q (.ref s.heap.objs.size) { s with heap := s.heap.push { cls := .type "tuple", data := .seq ((items.toList.drop (sIx items.size 0 lo)).take (sIx items.size items.size hi - sIx items.size 0 lo)).toArray } })
    (hsz : items.size ≤ sizeLine) : wpAny (model prog w) A (getItem (.ref t) (.ref sl)) Q E s := by
  have htake : sizeOk (.seq ((items.toList.drop (sIx items.size 0 lo)).take (sIx items.size items.size hi - sIx items.size 0 lo)).toArray) := by
    show ((items.toList.drop (sIx items.size 0 lo)).take (sIx items.size items.size hi - sIx items.size 0 lo)).toArray.size ≤ sizeLine
    rw [List.size_toArray, List.length_take, List.length_drop, Array.length_toList]
    omega
  have hj : sIx items.size items.size hi ≤ items.size := sIx_le _ _ (Nat.le_refl _) hi
  obtain ⟨os, hos, hcs, hds⟩ := id hs
  have hTs : s.TypeIs (.ref sl) "slice" := ⟨os, hos, hcs⟩
  unfold getItem
  try with_reducible refine wpAny_holding ?_
  first | refine wpAny_bind (wpAny_pure ?_) | skip
  refine wpAny_bind (wpAny_sequenceKey ht.typeIs (by decide) ?_)
  refine wpAny_bind (wpAny_callSpecial?_slot (name := Str.ofString "__getitem__") ht.typeIs PyProof.Rows.slot_tuple_getitem
    (wpAny_call_entry PyProof.Rows.slot_tuple_getitem ht.typeIs entry_tuple_getitem ?_ (args_tuple_getitem _ _)))
  show wpAny _ _ (Builtin.Tuple.tupleItemsOf (.ref t) >>= _) _ _ s
  refine wpAny_bind (tupleItemsOf_ ht ?_)
  refine wpAny_bind (wpAny_typeOf hTs ?_)
  rw [if_pos (by decide)]
  refine wpAny_bind (sliceApplied_gen hs pl pu ?_)
  have hno : ¬ ((((sIx items.size 0 lo : Nat) : Int) == 0 && (1 : Int) == 1 && (sIx items.size items.size hi - sIx items.size 0 lo) == items.size) = true) := by
    intro q
    rw [Bool.and_eq_true, Bool.and_eq_true] at q
    have q1 : ((sIx items.size 0 lo : Nat) : Int) = 0 := eq_of_beq q.1.1
    have q2 : sIx items.size items.size hi - sIx items.size 0 lo = items.size := eq_of_beq q.2
    exact hw ⟨by omega, by omega⟩
  show wpAny _ _ (if (((sIx items.size 0 lo : Nat) : Int) == 0 && (1 : Int) == 1 && (sIx items.size items.size hi - sIx items.size 0 lo) == items.size) = true then _ else _) _ _ s
  rw [if_neg hno, zOB]
  first
    | exact wpAny_bind (m := Builtin.Tuple.tupleExact _) (wpAny_newObj_type (wpAny_pure ⟨_, rfl, wpAny_pure h⟩) htake)
    | exact wpAny_bind (m := Builtin.Tuple.tupleExact _) (wpAny_newObj_type (wpAny_bind (wpAny_pure (wpAny_pure ⟨_, rfl, wpAny_pure h⟩))) htake)
    | exact wpAny_bind (wpAny_bind (m := Builtin.Tuple.tupleExact _) (wpAny_newObj_type (wpAny_pure (wpAny_pure ⟨_, rfl, wpAny_pure h⟩)) htake))
    | exact wpAny_bind (wpAny_bind (m := Builtin.Tuple.tupleExact _) (wpAny_newObj_type (wpAny_pure ⟨_, rfl, wpAny_pure h⟩) htake))
end
end HT
namespace L2
open PySem PySem.Spec PyProof.Rows
abbrev TO := St → Hp → (Option Int → Hp → Prop) → Prop
noncomputable def PO (X : Cx) (e : Option Expr) (t : TO) : Prop :=
  ∀ (pins : List (Addr × Obj)) (s : Shared) (σ : St) (H : Hp) (Q : Option Int → Hp → Prop), Inv X pins σ H s → t σ H Q →
    wpAny (model X.prog X.w) X.A (evalPart e X.env) (fun u s' => ∃ o H', Inv X pins σ H' s' ∧ IsPart u o ∧ Q o H') X.xe s
noncomputable def zQW : TO := fun _ H Q => Q none H
noncomputable def tPart (t : TE) : TO := fun σ H Q => t σ H fun x H1 => ∃ i, x = .int i ∧ Q (some i) H1
section
variable {X : Cx} {e : Expr} {te : TE} {lo hi : Option Expr} {tl th : TO} {pos p2 : Pos}
theorem zQX : PO X none zQW := by
  intro pins s σ H Q I h
  rw [evalPart_none]
  exact wpAny_pure ⟨none, H, I, .none, h⟩
theorem zQY (h : PE X e te) : PO X (some e) (tPart te) := by
  intro pins s σ H Q I hw
  rw [evalPart_some]
  refine thn (h pins s σ H _ I hw) fun u s1 ⟨x, H1, I1, r1, q1⟩ => ?_
  obtain ⟨i, rfl, q⟩ := q1
  obtain ⟨t, rfl⟩ := r1
  exact ⟨some i, H1, I1, .int i t, q⟩
noncomputable def SlR (X : Cx) (r : V → Option Int → Option Int → Hp → VK → Prop) : Prop :=
  ∀ (pins : List (Addr × Obj)) (s : Shared) (σ : St) (H : Hp) (x : V) (v vl vu : Value) (lo hi : Option Int) (sl : Addr) (Q : VK), Inv X pins σ H s → RelV x v → s.heap.IsSliceOf sl vl vu .none → IsPart vl lo → IsPart vu hi → r x lo hi H Q →
    ∃ T id, typeLookup (.type T) "__getitem__" = pure (some (.builtin id)) ∧ s.TypeIs v T ∧ wpAny (model X.prog X.w) X.A (getItem v (.ref sl)) (EP X pins σ Q) X.xe s
theorem SlR.or {r r' : V → Option Int → Option Int → Hp → VK → Prop} (h : SlR X r) (h' : SlR X r') : SlR X (fun x lo hi H Q => r x lo hi H Q ∨ r' x lo hi H Q) := by
  intro pins s σ H x v vl vu lo hi sl Q I rx hs pl pu q
  rcases q with q | q
  · exact h pins s σ H x v vl vu lo hi sl Q I rx hs pl pu q
  · exact h' pins s σ H x v vl vu lo hi sl Q I rx hs pl pu q
noncomputable def tSl (r : V → Option Int → Option Int → Hp → VK → Prop) (te : TE) (tl th : TO) : TE := fun σ H Q => te σ H fun x H1 => tl σ H1 fun l H2 => th σ H2 fun u H3 => r x l u H3 Q
theorem zOC {r : V → Option Int → Option Int → Hp → VK → Prop} (hr : SlR X r) (he : PE X e te) (hl : PO X lo tl) (hu : PO X hi th) : PE X (.Subscript e (.Slice lo hi none p2) pos) (tSl r te tl th) := by
  intro pins s σ H Q I h
  refine Subscript_ (thn (he pins s σ H _ I h) fun v s1 ⟨x, H1, I1, r1, q1⟩ => ?_)
  refine wpAny_Slice (thn (hl pins s1 σ H1 _ I1 q1) fun vl s2 ⟨l, H2, I2, pl, q2⟩ => thn (hu pins s2 σ H2 _ I2 q2) fun vu s3 ⟨u, H3, I3, pu, q3⟩ => ?_)
  rw [evalPart_none]
  refine wpAny_pure ?_
  have I4 : Inv X pins σ H3 { s3 with heap := s3.heap.push { cls := .type "slice", data := .fields #[vl, vu, .none] } } := I3.kept (t' := s3.toks) fun b ob q => Heap.get?_push_of_some _ q
  obtain ⟨T, id, hT, ht, hg⟩ := hr pins { s3 with heap := s3.heap.push { cls := .type "slice", data := .fields #[vl, vu, .none] } } σ H3 x v vl vu l u s3.heap.objs.size Q I4 r1 (Heap.IsSliceOf.new ..) pl pu q3
  show wpAny (model X.prog X.w) X.A (subscriptTail e (.Slice lo hi none p2) v (.ref s3.heap.objs.size)) (EP X pins σ Q) X.xe { s3 with heap := s3.heap.push { cls := .type "slice", data := .fields #[vl, vu, .none] } }
  exact tail_any (ops := [.ref s3.heap.objs.size, v]) ht hT hg (by with_unfolding_all rfl)
noncomputable def zHU (xs : List V) (lo hi : Option Int) : List V := (xs.drop (HT.sIx xs.length 0 lo)).take (HT.sIx xs.length xs.length hi - HT.sIx xs.length 0 lo)
theorem zBT (xs : List V) (lo hi : Option Int) : (zHU xs lo hi).length ≤ xs.length := by
  unfold zHU
  rw [List.length_take, List.length_drop]
  omega
noncomputable def rSlT (K : PySem.W.Frag) : V → Option Int → Option Int → Hp → VK → Prop := fun x lo hi H Q => ∃ a xs, x = .ref a ∧ SqT K H a xs ∧
  ¬ (HT.sIx xs.length 0 lo = 0 ∧ HT.sIx xs.length xs.length hi = xs.length) ∧ ∀ p, H p = none → Q (.ref p) (upd H p (.tup (zHU xs lo hi)))
theorem zUD : SlR X (rSlT X.K) := by
  intro pins s σ H x v vl vu lo hi sl Q I rx hs pl pu h
  obtain ⟨a, xs, rfl, hx, hw, q⟩ := h
  cases rx
  obtain ⟨its, r, ht, hz⟩ := I.tuple hx
  have hlen : its.toArray.size = xs.length := by rw [List.size_toArray]; exact r.length.symm
  refine ⟨"tuple", _, PyProof.Rows.slot_tuple_getitem.lookup, ht.typeIs, ?_⟩
  refine HT.getItem_tuple_cut ht hs pl pu (by rw [hlen]; exact hw) ?_ (by rw [hlen]; exact hz)
  rw [hlen]
  refine ⟨.ref s.heap.objs.size, _, I.laid (t' := s.toks) (o := .tup (zHU xs lo hi)) (fun b ob q => Heap.get?_push_of_some _ q) (Nat.le_refl _) ?_, rfl, q _ (I.hok.fresh (Nat.le_refl _))⟩
  exact ⟨Nat.le_trans (zBT xs lo hi) hz, _, (r.drop (HT.sIx xs.length 0 lo)).take (HT.sIx xs.length xs.length hi - HT.sIx xs.length 0 lo), IsTup.new _ _⟩
noncomputable def rCatT (K : PySem.W.Frag) : R2 := fun x y H Q => ∃ a b xs ys, x = .ref a ∧ y = .ref b ∧ SqT K H a xs ∧ SqT K H b ys ∧ xs ≠ [] ∧ xs.length + ys.length ≤ sizeLine ∧
  (ys = [] → Q (.ref a) H) ∧ (ys ≠ [] → ∀ p, H p = none → Q (.ref p) (upd H p (.tup (xs ++ ys))))
theorem Vals.nil_iff {xs : List V} {us : List Value} (r : Vals xs us) : us = [] ↔ xs = [] := by
  cases r with
  | nil => simp
  | cons _ _ => simp
theorem zQZ : OpR X (binaryOp .Add) (rCatT X.K) := by
  intro pins s σ H x y v u Q I rx ry h
  obtain ⟨a, b, xs, ys, rfl, rfl, ha, hb, hx, hz, q1, q2⟩ := h
  cases rx
  cases ry
  obtain ⟨its, r1, p1, _⟩ := I.tuple ha
  obtain ⟨its2, r2, p2, _⟩ := I.tuple hb
  refine HT.cat_tup p1 p2 (fun z => hx (r1.nil_iff.mp z)) (fun z => ⟨.ref a, H, I, rfl, q1 (r2.nil_iff.mp z)⟩) (fun z => ?_) (by rw [← r1.length, ← r2.length]; exact hz)
  refine ⟨.ref s.heap.objs.size, _, I.laid (t' := s.toks) (o := .tup (xs ++ ys)) (fun b ob q => Heap.get?_push_of_some _ q) (Nat.le_refl _) ?_, rfl, q2 (fun w => z (r2.nil_iff.mpr w)) _ (I.hok.fresh (Nat.le_refl _))⟩
  exact ⟨by rw [List.length_append]; exact hz, _, r1.append r2, IsTup.new _ _⟩
end
end L2
namespace L2
open PySem PySem.Spec PyProof.Rows
noncomputable def ixN (n : Nat) (i : Int) : Option Nat := if 0 ≤ i then (if i < n then some i.toNat else none) else if -(n : Int) ≤ i then some (i + n).toNat else none
noncomputable def atI {α : Type} (xs : List α) (i : Int) : Option α := (ixN xs.length i).bind fun j => xs[j]?
theorem zRA {n : Nat} {i : Int} {j : Nat} (h : ixN n i = some j) : seqIndex? i n = some j ∧ j < n ∧ -(n : Int) ≤ i ∧ i < n := by
  unfold ixN at h
  by_cases h0 : 0 ≤ i
  · rw [if_pos h0] at h
    by_cases h1 : i < n
    · rw [if_pos h1] at h
      have e : i.toNat = j := Option.some.inj h
      exact ⟨by rw [seqIndex_of h0 h1, e], by omega, by omega, h1⟩
    · rw [if_neg h1] at h; cases h
  · rw [if_neg h0] at h
    by_cases h1 : -(n : Int) ≤ i
    · rw [if_pos h1] at h
      have e : (i + n).toNat = j := Option.some.inj h
      exact ⟨by rw [seqIndex_neg (by omega) h1, e], by omega, h1, by omega⟩
    · rw [if_neg h1] at h; cases h
theorem zGD {α : Type} {xs : List α} {i : Int} {v : α} (h : atI xs i = some v) : ∃ j, seqIndex? i xs.length = some j ∧ xs[j]? = some v ∧ j < xs.length ∧ -(xs.length : Int) ≤ i ∧ i < xs.length := by
  unfold atI at h
  cases e : ixN xs.length i with
  | none => rw [e] at h; cases h
  | some j =>
    rw [e] at h
    obtain ⟨h1, h2, h3, h4⟩ := zRA e
    exact ⟨j, h1, h, h2, h3, h4⟩
noncomputable def zGE (b : Expr) : Prop := ∀ o i, subscripted b false o i = operate [o, i] (getItem o i)
noncomputable def IxR (X : Cx) (r : R2) : Prop :=
  ∀ (value slice : Expr) (pins : List (Addr × Obj)) (s : Shared) (σ : St) (H : Hp) (x y : V) (v u : Value) (Q : VK), Inv X pins σ H s → RelV x v → RelV y u → r x y H Q →
    subscripted slice false v u = operate [v, u] (getItem v u) → wpAny (model X.prog X.w) X.A (subscriptTail value slice v u) (EP X pins σ Q) X.xe s
noncomputable def MtR (X : Cx) (id : String) (r : V → List V → Hp → VK → Prop) : Prop :=
  ∀ (pins : List (Addr × Obj)) (s : Shared) (σ : St) (H : Hp) (x : V) (xs : List V) (v : Value) (us : List Value) (Q : VK), Inv X pins σ H s → RelV x v → Vals xs us → r x xs H Q →
    wpAny (model X.prog X.w) X.A (call (.builtin id) (v :: us)) (EP X pins σ Q) X.xe s
section
variable {X : Cx} {a b : Expr} {ta tb : TE} {pos : Pos}
theorem IxR.or {r r' : R2} (h : IxR X r) (h' : IxR X r') : IxR X (fun x y H Q => r x y H Q ∨ r' x y H Q) := by
  intro value slice pins s σ H x y v u Q I rx ry q hs
  rcases q with q | q
  · exact h value slice pins s σ H x y v u Q I rx ry q hs
  · exact h' value slice pins s σ H x y v u Q I rx ry q hs
theorem pe_ix {r : R2} (hr : IxR X r) (ha : PE X a ta) (hb : PE X b tb) (hs : zGE b) : PE X (.Subscript a b pos) (tOp r ta tb) := by
  intro pins s σ H Q I h
  exact Subscript_ (binT ha hb I h fun v u s2 x y H2 I2 rx ry q => hr a b pins s2 σ H2 x y v u Q I2 rx ry q (hs _ _))
noncomputable def rIxL (K : PySem.W.Frag) : R2 := fun x y H Q => ∃ p xs i v, x = .ref p ∧ y = .int i ∧ SqL K H p xs ∧ atI xs i = some v ∧ Q v H
noncomputable def rIxT (K : PySem.W.Frag) : R2 := fun x y H Q => ∃ p xs i v, x = .ref p ∧ y = .int i ∧ SqT K H p xs ∧ atI xs i = some v ∧ Q v H
noncomputable def rIxS : R2 := fun x y H Q => ∃ z i c, x = .str z ∧ y = .int i ∧ z.length ≤ sizeLine ∧ atI z.cps.toList i = some c ∧ Q (.str ⟨#[c]⟩) H
theorem zRB : IxR X (rIxL X.K) := by
  intro value slice pins s σ H x y v u Q I rx ry h hs
  obtain ⟨p, xs, i, z, rfl, rfl, hq, he, q⟩ := h
  cases rx
  obtain ⟨t, rfl⟩ := ry
  obtain ⟨its, r, pl, hz⟩ := I.list hq
  obtain ⟨j, h1, h2, h3, h4, h5⟩ := zGD he
  obtain ⟨w, ew, rw'⟩ := r.get h2
  have hl := r.length
  have hn := zBB
  have fin : EP X pins σ Q w s := ⟨z, H, I, rw', q⟩
  by_cases h0 : 0 ≤ i
  · have hj : i.toNat = j := by
      rw [seqIndex_of h0 h5] at h1
      exact Option.some.inj h1
    exact item_listR pl.isList h0 (by omega) (by rw [hj]; simpa using ew) fin hs
  · have hj : (i + (its.toArray.size : Int)).toNat = j := by
      rw [seqIndex_neg (by omega) h4] at h1
      rw [List.size_toArray, ← hl]
      exact Option.some.inj h1
    exact subscriptTail_builtinR (x := w) pl.isList.typeIs slot_list_getitem.lookup
      (wpAny_getItem_list_neg (Q := fun r s' => r = w ∧ EP X pins σ Q r s') pl.isList (by omega) (by rw [List.size_toArray] <;> omega) (by omega) (by rw [hj]; simpa using ew) ⟨rfl, fin⟩) hs
theorem zUE : IxR X (rIxT X.K) := by
  intro value slice pins s σ H x y v u Q I rx ry h hs
  obtain ⟨p, xs, i, z, rfl, rfl, hq, he, q⟩ := h
  cases rx
  obtain ⟨t, rfl⟩ := ry
  obtain ⟨its, r, pl, hz⟩ := I.tuple hq
  obtain ⟨j, h1, h2, h3, h4, h5⟩ := zGD he
  obtain ⟨w, ew, rw'⟩ := r.get h2
  have hl := r.length
  have hn := zBB
  have fin : EP X pins σ Q w s := ⟨z, H, I, rw', q⟩
  exact subscriptTail_builtinR (x := w) pl.typeIs slot_tuple_getitem.lookup
    (getItem_tuple (j := j) (Q := fun r s' => r = w ∧ EP X pins σ Q r s') pl (by omega) (by omega) (by rw [List.size_toArray, ← hl]; exact h1) (by simpa using ew) ⟨rfl, fin⟩) hs
theorem ix_str : IxR X rIxS := by
  intro value slice pins s σ H x y v u Q I rx ry h hs
  obtain ⟨z, i, c, rfl, rfl, hz, he, q⟩ := h
  obtain ⟨t, rfl⟩ := rx
  obtain ⟨t', rfl⟩ := ry
  obtain ⟨j, h1, h2, h3, h4, h5⟩ := zGD he
  have hl : z.cps.toList.length = z.length := by simp [Str.length]
  rw [hl] at h1 h4 h5
  have hn := zBB
  exact tail_any (typeIs_str s z t) slot_str_getitem.lookup (getItem_str (c := c) (by
    have e1 : decide (i < -(2 ^ 63 : Int)) = false := decide_eq_false (by omega)
    have e2 : decide (i ≥ 2 ^ 63) = false := decide_eq_false (by omega)
    rw [e1, e2, Bool.or_false]) (by rw [h1]; simpa using h2) ⟨.str ⟨#[c]⟩, H, I.tok _, ⟨_, rfl⟩, q⟩) hs
noncomputable def rIx (K : PySem.W.Frag) : R2 := fun x y H Q => rIxL K x y H Q ∨ rIxT K x y H Q ∨ rIxS x y H Q
theorem zUF : IxR X (rIx X.K) := zRB.or (zUE.or ix_str)
theorem Inv.lst {pins : List (Addr × Obj)} {σ : St} {H : Hp} {s : Shared} {p : Addr} {xs : List V} (I : Inv X pins σ H s) (h : H p = some (.lst xs)) :
    ∃ (its : List Value) (n : Nat), Vals xs its ∧ s.heap.get? p = some { cls := .type "list", data := .seq its.toArray n } ∧ xs.length ≤ sizeLine := by
  obtain ⟨z, its, n, r, e⟩ := I.hok p _ h
  exact ⟨its, n, r, e, z⟩
theorem zGF (lo hi : Option Int) (n : Nat) : (sliceBounds lo hi none n).1 = ((HT.sIx n 0 lo : Nat) : Int) ∧ (sliceBounds lo hi none n).2.1 = ((HT.sIx n n hi : Nat) : Int) ∧ (sliceBounds lo hi none n).2.2 = 1 := by
  refine ⟨?_, ?_, rfl⟩
  · cases lo with
    | none => simp [sliceBounds, HT.sIx]
    | some i =>
      simp only [sliceBounds, HT.sIx, Option.getD_none, show (1 : Int) > 0 by decide, if_true]
      by_cases h : i < 0
      · simp only [h, if_true] <;> omega
      · simp only [h, if_false] <;> omega
  · cases hi with
    | none => simp [sliceBounds, HT.sIx]
    | some i =>
      simp only [sliceBounds, HT.sIx, Option.getD_none, show (1 : Int) > 0 by decide, if_true]
      by_cases h : i < 0
      · simp only [h, if_true] <;> omega
      · simp only [h, if_false] <;> omega
theorem zEO (its : List Value) (lo hi : Option Int) : slicePick its.toArray lo hi none = ((its.drop (HT.sIx its.length 0 lo)).take (HT.sIx its.length its.length hi - HT.sIx its.length 0 lo)).toArray := by
  obtain ⟨h1, h2, h3⟩ := zGF lo hi its.toArray.size
  unfold slicePick
  rw [h1, h2, h3]
  simp only [sliceRange_one, pick_run, List.size_toArray] <;> rfl
noncomputable def rSlL (K : PySem.W.Frag) : V → Option Int → Option Int → Hp → VK → Prop := fun x lo hi H Q => ∃ a xs, x = .ref a ∧ SqL K H a xs ∧ ∀ p, H p = none → Q (.ref p) (upd H p (.lst (zHU xs lo hi)))
theorem zRC : SlR X (rSlL X.K) := by
  intro pins s σ H x v vl vu lo hi sl Q I rx hs pl pu h
  obtain ⟨a, xs, rfl, hx, q⟩ := h
  cases rx
  obtain ⟨its, r, ht, hz⟩ := I.list hx
  have hlen := r.length
  refine ⟨"list", _, slot_list_getitem.lookup, ht.isList.typeIs, ?_⟩
  refine wpAny_getItem_list_slice ht.isList hs pl pu .none (by simp) ?_ (by rw [List.size_toArray] <;> omega)
  rw [zEO, ← hlen]
  refine ⟨.ref s.heap.objs.size, _, I.laid (t' := s.toks) (o := .lst (zHU xs lo hi)) (fun b ob q => Heap.get?_push_of_some _ q) (Nat.le_refl _) ?_, rfl, q _ (I.hok.fresh (Nat.le_refl _))⟩
  exact ⟨Nat.le_trans (zBT xs lo hi) hz, _, 0, (r.drop (HT.sIx xs.length 0 lo)).take (HT.sIx xs.length xs.length hi - HT.sIx xs.length 0 lo), Heap.get?_push_size _ rfl⟩
noncomputable def yW : V → Bool
  | .non => true
  | .bl _ => true
  | .int _ => true
  | .str _ => true
  | _ => false
noncomputable def eqV : V → V → Bool
  | .non, .non => true
  | .bl a, .bl b => a == b
  | .bl a, .int b => (if a then 1 else 0) == b
  | .int a, .bl b => a == (if b then 1 else 0)
  | .int a, .int b => a == b
  | .str a, .str b => a == b
  | _, _ => false
theorem zUG {A : Around} {s : Shared} {y x : V} {u v : Value} (ry : RelV y u) (rx : RelV x v) (fy : yW y = true) (fx : yW x = true) : SeqAt.EqAt A s u v (eqV y x) := by
  cases y with
  | non =>
    cases ry
    cases x with
    | non => cases rx; exact SeqAt.EqAt.same _
    | bl b => cases rx; exact SeqAt.EqAt.none_bool b
    | int b => obtain ⟨t, rfl⟩ := rx; exact SeqAt.EqAt.none_int b t
    | str b => obtain ⟨t, rfl⟩ := rx; exact SeqAt.EqAt.none_str b t
    | _ => exact absurd (show false = true from fx) Bool.false_ne_true
  | bl a =>
    cases ry
    cases x with
    | non => cases rx; exact SeqAt.EqAt.bool_none a
    | bl b => cases rx; exact SeqAt.EqAt.bool_bool a b
    | int b => obtain ⟨t, rfl⟩ := rx; exact SeqAt.EqAt.bool_int a b t
    | str b => obtain ⟨t, rfl⟩ := rx; exact SeqAt.EqAt.bool_str a b t
    | _ => exact absurd (show false = true from fx) Bool.false_ne_true
  | int a =>
    obtain ⟨t', rfl⟩ := ry
    cases x with
    | non => cases rx; exact SeqAt.EqAt.int_none a t'
    | bl b => cases rx; exact SeqAt.EqAt.int_bool a t' b
    | int b => obtain ⟨t, rfl⟩ := rx; exact SeqAt.EqAt.int_int a t' b t
    | str b => obtain ⟨t, rfl⟩ := rx; exact SeqAt.EqAt.int_str a t' b t
    | _ => exact absurd (show false = true from fx) Bool.false_ne_true
  | str a =>
    obtain ⟨t', rfl⟩ := ry
    cases x with
    | non => cases rx; exact SeqAt.EqAt.str_none a t'
    | bl b => cases rx; exact SeqAt.EqAt.str_bool a t' b
    | int b => obtain ⟨t, rfl⟩ := rx; exact SeqAt.EqAt.str_int a t' b t
    | str b => obtain ⟨t, rfl⟩ := rx; exact SeqAt.EqAt.str_str a t' b t
    | _ => exact absurd (show false = true from fx) Bool.false_ne_true
  | _ => exact absurd (show false = true from fy) Bool.false_ne_true
theorem zGG : CallR X (.builtin "len") (fun xs H Q => ∃ p ys, xs = [.ref p] ∧ (SqL X.K H p ys ∨ SqT X.K H p ys) ∧ Q (.int ys.length) H) := by
  intro pins s σ H xs us Q I r h
  obtain ⟨p, ys, rfl, hq, q⟩ := h
  obtain ⟨u, rfl, rx⟩ := vals1 r
  cases rx
  have hn := zBB
  rcases hq with hq | hq
  · obtain ⟨its, r', pl, hz⟩ := I.list hq
    have hlen := r'.length
    exact Calls.call_len_list pl.isList (by simp only [List.size_toArray] <;> omega) ⟨.int ys.length, H, I.tok _, ⟨s.toks + 1, by rw [List.size_toArray, hlen]⟩, q⟩
  · obtain ⟨its, r', pl, hz⟩ := I.tuple hq
    have hlen := r'.length
    exact len_tuple pl (by simp only [List.size_toArray] <;> omega) ⟨.int ys.length, H, I.tok _, ⟨s.toks + 1, by rw [List.size_toArray, hlen]⟩, q⟩
theorem zGH : CallR X (.builtin "len") (fun xs H Q => ∃ z, xs = [.str z] ∧ z.length ≤ sizeLine ∧ Q (.int z.length) H) := by
  intro pins s σ H xs us Q I r h
  obtain ⟨z, rfl, hz, q⟩ := h
  obtain ⟨u, rfl, t, rfl⟩ := vals1 r
  have hn := zBB
  exact len_str (by omega) ⟨.int z.length, H, I.tok _, ⟨_, rfl⟩, q⟩
theorem CallR.or {f : Value} {r r' : List V → Hp → VK → Prop} (h : CallR X f r) (h' : CallR X f r') : CallR X f (fun xs H Q => r xs H Q ∨ r' xs H Q) := by
  intro pins s σ H xs us Q I rs q
  rcases q with q | q
  · exact h pins s σ H xs us Q I rs q
  · exact h' pins s σ H xs us Q I rs q
noncomputable def tyV (K : PySem.W.Frag) (T : String) (x : V) (H : Hp) : Prop := match x with
  | .str _ => T = "str"
  | .int _ => T = "int"
  | .ref p => (T = "list" ∧ ∃ xs, SqL K H p xs) ∨ (T = "tuple" ∧ ∃ o, K.lookup p = some o ∧ o.cls = .type "tuple" ∧ o.dict = none) ∨
      (T = "dict" ∧ ((∃ kvs, H p = some (.dK kvs)) ∨ ∃ kvs, H p = some (.dT kvs))) ∨ (T = "set" ∧ ∃ S n, H p = some (.set S n))
  | _ => False
theorem zUH {pins : List (Addr × Obj)} {σ : St} {H : Hp} {s : Shared} {T : String} {x : V} {v : Value} (I : Inv X pins σ H s) (r : RelV x v) (ty : tyV X.K T x H) :
    s.TypeIs v T ∧ ∀ a, v = .ref a → ∃ ob, s.heap.get? a = some ob ∧ ob.dict = none := by
  cases x with
  | str z =>
    obtain ⟨t, rfl⟩ := r
    cases (show T = "str" from ty)
    exact ⟨typeIs_str s z t, fun _ e => nomatch e⟩
  | int i =>
    obtain ⟨t, rfl⟩ := r
    cases (show T = "int" from ty)
    exact ⟨typeIs_int s i t, fun _ e => nomatch e⟩
  | ref p =>
    cases r
    rcases ty with ⟨rfl, xs, hq⟩ | ⟨rfl, o, hk, hc, hd⟩ | ⟨rfl, hk⟩ | ⟨rfl, S, n, hk⟩
    · obtain ⟨its, _, pl, _⟩ := I.list hq
      refine ⟨pl.isList.typeIs, fun a e => ?_⟩
      cases e
      obtain ⟨o, n, e, c, hd, _⟩ := pl
      exact ⟨o, e, hd⟩
    · refine ⟨⟨o, I.kIn p o hk, hc⟩, fun a e => ?_⟩
      cases e
      exact ⟨o, I.kIn _ o hk, hd⟩
    · have z : ∃ o, s.heap.get? p = some o ∧ o.ExactDict := by
        rcases hk with ⟨kvs, hk⟩ | ⟨kvs, hk⟩
        · obtain ⟨_, _, _, _, o, _, _, e, ex, _⟩ := I.hok p _ hk
          exact ⟨o, e, ex⟩
        · obtain ⟨_, _, _, _, o, _, _, e, ex, _⟩ := I.hok p _ hk
          exact ⟨o, e, ex⟩
      obtain ⟨o, e, ex⟩ := z
      refine ⟨⟨o, e, ex.1⟩, fun a e2 => ?_⟩
      cases e2
      exact ⟨o, e, ex.2.1⟩
    · obtain ⟨o, _, _, _, e, ex, _⟩ := I.hok p _ hk
      refine ⟨⟨o, e, ex.1⟩, fun a e2 => ?_⟩
      cases e2
      exact ⟨o, e, ex.2.1⟩
  | _ => exact False.elim ty
noncomputable def tBM (K : PySem.W.Frag) (T : String) (r : V → List V → Hp → VK → Prop) (to : TE) (t : TA) : TE := fun σ H Q => to σ H fun x H1 => tyV K T x H1 ∧ t σ H1 fun xs H2 => r x xs H2 Q
variable {o e : Expr} {es : List Expr} {to : TE} {t : TA} {name : Str} {apos cpos : Pos} {T id : String} {r : V → List V → Hp → VK → Prop}
theorem pe_bm (pa : PlainAttrs T) (slot : Slot T name id) (hty : typeOf (.builtin id) = pure (.type "method_descriptor")) (hm : MtR X id r) (ho : PE X o to) (ha : PA X (e :: es) t)
    (hbase : attributeBase o name X.env (eval o X.env) = eval o X.env := by rfl)
    (hfew : ((backTo cpos (starEach (e :: es) X.env)).all (fun x => !x.1) && (backToKw cpos (keywordEach [] X.env)).all (fun x => x.1.isSome)
      && decide ((e :: es).length + ([] : List Keyword).length + (if ([] : List Keyword).isEmpty then 0 else 1) < 30)) = true := by rfl)
    (hline : (apos.endLine == cpos.line) = true := by rfl) (hs : starEach (e :: es) X.env = (false, eval e X.env) :: starEach es X.env := by rfl) (hplain : (backTo cpos (starEach es X.env)).any (·.1) = false := by rfl) :
    PE X (.Call (.Attribute o name apos) (e :: es) [] cpos) (tBM X.K T r to t) := by
  intro pins s σ H Q I h
  refine wpAny_Call_method_late hbase hfew hline rfl (thn (ho pins s σ H _ I h) fun v s1 ⟨x, H1, I1, r1, ty, q1⟩ => ?_)
  obtain ⟨h1, h2⟩ := zUH I1 r1 ty
  refine ⟨T, id, pa, slot, hty, h1, h2, ?_⟩
  have hA := ha cpos pins s1 σ H1 _ I1 q1
  rw [hs] at hA ⊢
  refine Calls.callWith_builtin (by show (false || (backTo cpos (starEach es X.env)).any (·.1)) = false; rw [hplain] <;> rfl) (Calls.evalArgs_plain ?_)
  exact thn hA fun us s2 ⟨vs, H2, I2, r2, q2⟩ => hm pins s2 σ H2 x vs v us Q I2 r1 r2 q2
end
end L2
namespace L2
open PySem PySem.Spec PyProof.Rows
theorem Vals.rep {xs : List V} {us : List Value} (h : Vals xs us) : ∀ k : Nat, Vals (List.replicate k xs).flatten (List.replicate k us).flatten
  | 0 => .nil
  | k + 1 => by
    rw [List.replicate_succ, List.replicate_succ, List.flatten_cons, List.flatten_cons]
    exact Vals.append h (Vals.rep h k)
theorem foldl_rep (its : List Value) : ∀ (k : Nat) (acc : List Value),
    List.foldl (fun x1 x2 => x1 ++ x2) acc.toArray (List.replicate k its.toArray) = (acc ++ (List.replicate k its).flatten).toArray
  | 0, acc => by simp
  | k + 1, acc => by
    have e : acc.toArray ++ its.toArray = (acc ++ its).toArray := by simp
    have e2 : (acc ++ its) ++ (List.replicate k its).flatten = acc ++ (List.replicate (k + 1) its).flatten := by
      rw [List.replicate_succ, List.flatten_cons, List.append_assoc]
    rw [← e2, ← foldl_rep its k (acc ++ its), ← e, List.replicate_succ, List.foldl_cons]
section
variable {X : Cx} {pins : List (Addr × Obj)} {σ : St} {H : Hp} {s : Shared} {l b : Addr} {xs ys zs : List V}
theorem Inv.lnew {its : List Value} {t' : Nat} (I : Inv X pins σ H s) (hv : Vals ys its) (hz : ys.length ≤ sizeLine) :
    Inv X pins σ (upd H s.heap.objs.size (.lst ys)) { s with heap := s.heap.push { cls := .type "list", data := .seq its.toArray }, toks := t' } :=
  I.laid (fun _ _ q => Heap.get?_push_of_some _ q) (Nat.le_refl _) ⟨hz, its, 0, hv, Heap.get?_push_size _ rfl⟩
theorem Inv.fresh (I : Inv X pins σ H s) : H s.heap.objs.size = none := I.hok.fresh (Nat.le_refl _)
theorem Inv.lstM (I : Inv X pins σ H s) (hH : H l = some (.lst xs)) : xs.length ≤ sizeLine ∧ ∃ (its : List Value) (n : Nat), Vals xs its ∧ xs.length = its.length ∧ s.heap.get? l = some { cls := .type "list", data := .seq its.toArray n } := by
  obtain ⟨z, its, n, r, e⟩ := I.hok l _ hH
  exact ⟨z, its, n, r, r.length, e⟩
theorem zOD {n : Nat} (h : n ≤ sizeLine) : Builtin.List.listTooLong n = false := by
  unfold Builtin.List.listTooLong
  exact decide_eq_false (by omega)
end
section
variable {X : Cx}
noncomputable def rCat : R2 := fun x y H Q => ∃ l b xs zs, x = .ref l ∧ y = .ref b ∧ H l = some (.lst xs) ∧ H b = some (.lst zs) ∧ xs.length + zs.length ≤ sizeLine ∧ ∀ p, H p = none → Q (.ref p) (upd H p (.lst (xs ++ zs)))
theorem zUI : OpR X (binaryOp .Add) rCat := by
  intro pins s σ H x y v u Q I rx ry h
  obtain ⟨l, b, xs, zs, rfl, rfl, hH, hB, hz, q⟩ := h
  cases rx
  cases ry
  obtain ⟨z, its, n, r, hl, e⟩ := I.lstM hH
  obtain ⟨z2, its2, n2, r2, hl2, e2⟩ := I.lstM hB
  refine PySem.P.add_list e e2 ?_ (by rw [List.size_toArray, List.size_toArray]; omega)
  have ea : its.toArray ++ its2.toArray = (its ++ its2).toArray := by simp
  rw [ea]
  exact ⟨.ref _, _, I.lnew (t' := s.toks) (r.append r2) (by rw [List.length_append]; omega), rfl, q _ I.fresh⟩
noncomputable def rRep : R2 := fun x y H Q => ∃ l k xs, x = .ref l ∧ y = .int k ∧ H l = some (.lst xs) ∧ -(2 ^ 63) ≤ k ∧ k < 2 ^ 63 ∧ xs.length * k.toNat ≤ sizeLine ∧
  ∀ p, H p = none → Q (.ref p) (upd H p (.lst (List.replicate k.toNat xs).flatten))
theorem len_rep {α : Type} (xs : List α) (k : Nat) : (List.replicate k xs).flatten.length = k * xs.length := by
  induction k with
  | zero => simp
  | succ k ih => rw [List.replicate_succ, List.flatten_cons, List.length_append, ih, Nat.succ_mul, Nat.add_comm]
theorem zUJ : OpR X (binaryOp .Mult) rRep := by
  intro pins s σ H x y v u Q I rx ry h
  obtain ⟨l, k, xs, rfl, rfl, hH, h1, h2, hz, q⟩ := h
  cases rx
  obtain ⟨t, rfl⟩ := ry
  obtain ⟨z, its, n, r, hl, e⟩ := I.lstM hH
  have hlen : its.toArray.size * k.toNat ≤ sizeLine := by rw [List.size_toArray, ← hl]; exact hz
  have hcap : ¬ its.toArray.size * k.toNat > (2 ^ 63 - 1) / 8 := by
    have : (sizeLine : Nat) ≤ (2 ^ 63 - 1) / 8 := by decide
    omega
  have hfit : ¬ (!Builtin.List.listFitsIndex k) = true := by
    rw [fitsIndex_both h1 h2]
    exact Bool.false_ne_true
  have hlong : ¬ Builtin.List.listTooLong (its.toArray.size * k.toNat) = true := by
    rw [zOD hlen]
    exact Bool.false_ne_true
  have hnew : List.foldl (fun x1 x2 => x1 ++ x2) #[] (List.replicate (if its.toArray.isEmpty = true then 0 else k.toNat) its.toArray) = (List.replicate k.toNat its).flatten.toArray := by
    have f0 : ∀ m : Nat, List.foldl (fun x1 x2 => x1 ++ x2) #[] (List.replicate m its.toArray) = (List.replicate m its).flatten.toArray := fun m => by
      have := foldl_rep its m []
      rw [List.nil_append] at this
      exact this
    rw [f0]
    cases its with
    | nil => simp
    | cons a r' => rw [if_neg (by simp)]
  refine wpAny_binaryOp_repeat_ref (T := "list") (U := "int") (by decide) ⟨_, e, rfl⟩ (fun s' => typeIs_int s' k t) noFill_list_mul F.fills_int_mul F.slot_int_rmul repeat_list F.slot_int_index.lookup
    (call_meets F.slot_int_rmul (typeIs_int s k t) F.entry_int_rmul (F.args_int_rmul_2 _ _) (int___rmul___int_list k t l its.toArray n)
      ⟨e, rfl, ⟨_, e, rfl⟩, call_meets F.slot_list_mul ⟨_, e, rfl⟩ F.entry_list_mul (F.args_list_mul_2 _ _) (AutoListH.list___mul___list_int_3 l its.toArray n k t hfit hcap hlong) ⟨e, ?_⟩⟩)
  rw [hnew]
  exact ⟨.ref _, _, I.lnew (t' := s.toks) (r.rep k.toNat) (by rw [len_rep, Nat.mul_comm]; exact hz), rfl, q _ I.fresh⟩
end
end L2
namespace Att
open PySem PySem.W PySem.Calls PyProof.Rows
theorem zCA {P : Params} {h : Heap} : ∀ (ns : List Int) (vs : List Value), WellAll P h vs (ns.map WData.int) → IntsAre vs ns := by
  intro ns
  induction ns with
  | nil =>
    intro vs w
    rw [List.map_nil] at w
    cases w
    exact .nil
  | cons n ns ih =>
    intro vs w
    rw [List.map_cons] at w
    cases w with
    | cons a b =>
      cases a
      exact .cons _ _ (ih _ b)
theorem zMM {l : OpenLaw} {n : Nat} (hn : l.most = some n) {P : Params} {h : Heap} {args : List WData} {vals : List Value}
    (hpre : l.row.toRowW.claim.pre args = true) (hwl : WellAll P h vals args) :
    ∃ a vs ns, vals = [Value.ref a] ∧ args = [WData.list (ns.map WData.int)] ∧ h.get? a = some { cls := .type "list", data := .seq vs.toArray } ∧ IntsAre vs ns ∧ ns.length ≤ n := by
  have hsh : WShape.hasAll [] args [.list .int] = true := (pre_splitW hpre).1
  have hc : l.pre.holds [] { args := args } = true := (pre_splitW hpre).2
  obtain ⟨d, r, rfl, h1, h2⟩ := hasAllW_cons hsh
  obtain rfl := hasAllW_nil h2
  obtain ⟨xs, rfl, h3⟩ := hasW_list h1
  obtain ⟨ns, rfl⟩ := items_int h3
  have hlen : ns.length ≤ n := by
    unfold OpenLaw.pre at hc
    have h4 : (WTm.not (.lt (.lit (.int (n : Int))) (.len (.arg 0)))).holds [] { args := [.list (ns.map .int)] } = true := by
      have h4 := (holds_andW hc).1
      rw [hn] at h4
      exact h4
    have h5 := condW_of h4 (w_not (w_lt w_lit (w_len_list (w_arg rfl))))
    rw [List.length_map] at h5
    refine Nat.le_of_not_lt fun q => ?_
    have q' : (n : Int) < ((ns.length : Nat) : Int) := by omega
    first
      | (rw [decide_eq_true q'] at h5; exact absurd h5 (by decide))
      | (simp at h5; omega)
  cases hwl with
  | cons w1 w2 =>
    cases w2
    cases w1 with
    | list ho hall => exact ⟨_, _, ns, rfl, rfl, ho, zCA ns _ hall, hlen⟩
theorem zMN (l : OpenLaw) (args : List WData) : l.row.toRowW.claim.post args (.bool true) args = true :=
  postW_of (r := l.row.toRowW) (X := (true == true))
    (show WShape.has [] (.bool true) .bool = true by first | rfl | decide | simp [WShape.has, WShape.arms, WShape.armsAll])
    (show (WTm.eq .res (.lit (.bool true))).value [] { args := args, res := some (.bool true), after := args } = some (.bool (true == true)) from w_eq_bool (w_res rfl) w_lit) rfl
theorem attach_call {l : OpenLaw} {n : Nat} {q : Program} {loose : List Str} {XP : (Str → Option Value) → Heap → Prop} {YP : World → Heap → Prop} {d : DefRec}
    (hn : l.most = some n) (hdf : d.params.defaults = [])
    (call : ∀ (w : World) (s₀ s₁ : Shared) (mg mb : Str → Option Value) (fa : Addr) (o : Obj) (pm cd doc : Value) (a : Addr) (vs : List Value) (ns : List Int),
      Ground q loose [] XP w s₀ mg mb s₁.heap → YP w s₁.heap →
      s₁.heap.get? fa = some o → o.data = .func (docDef d.name d.params d.body d.scope pm cd doc) → s₁.heap.CodeRec cd d.name → mg d.name = some (.ref fa) →
      s₁.heap.get? a = some { cls := .type "list", data := .seq vs.toArray } → IntsAre vs ns → ns.length ≤ n → s₁.gens = #[] →
      codeAny (model l.prog w) callerA (.call (.ref fa) ⟨[.ref a], []⟩) (fun r s' => r = .ok (.ret (.bool true)) ∧ OldK s₁.heap s'.heap ∧ s'.os = s₁.os ∧ AllBare s'.gens) s₁) :
    WalkO q loose XP YP l.row.toRowW d [] (fun f vs => PySem.call f vs) := by
  intro w s₀ s₁ mg mb G Y fa o pm cd doc dV kV ho hd hcd hD hmg hg args vals as hpre hlay hrd hwl hlo
  obtain rfl : dV = .none := Dflts.none hD hdf
  obtain rfl : kV = .none := Dflts.noKw hD
  obtain ⟨a, vs, ns, rfl, rfl, hobj, hints, hlen⟩ := zMM hn hpre hwl
  refine enter_call (codeAny_mono (call w s₀ s₁ mg mb fa o pm cd doc a vs ns G Y ho (fd_plain hd) hcd hmg hobj hints hlen hg) fun r s' hq => ?_)
  obtain ⟨rfl, h2, h3, h4⟩ := hq
  exact ⟨.inl ⟨.bool true, .bool true, [], rfl, fun _ => rfl, .bool true, zMN l _, fun _ => ⟨List.Pairwise.nil, fun _ hm => (nomatch hm)⟩⟩, h2, h3, h4⟩
end Att
namespace L2
open PySem PySem.Spec PyProof.Rows
theorem zFH : ∀ {vs : List Value} {ns : List Int}, IntsAre vs ns → Vals (ns.map V.int) vs
  | _, _, .nil => .nil
  | _, _, .cons n t h => .cons ⟨t, rfl⟩ (zFH h)
noncomputable def zOE (H : Hp) : Prop := ∀ b, H b = none ∨ ∃ o xs, H b = some (.frz o (.lst xs))
theorem zOF {P : Program} {w : World} {K : PySem.W.Frag} {mg mb : Str → Option Value} {CX : CXT} {k : Nat} {fa a : Addr} {fd : FuncData} {x : Str} {sp : Sp} {s₁ : Shared} {vs : List Value} {ns : List Int}
    (KX : K.In s₁.heap) (hns : s₁.heap.Ns mainGlobals mg) (hb : s₁.heap.Ns builtinsNs mb) (hbb : ∀ x : Str, x ≠ "__name__" → mb x = bootBuiltins x) (hlim : s₁.heap.NoLimit) (hg : s₁.gens = #[])
    (ha : s₁.heap.get? a = some { cls := .type "list", data := .seq vs.toArray }) (hi : IntsAre vs ns) (hl : ns.length ≤ sizeLine) (hr : Room k callerA)
    (F : ∀ base : Heap, K.In base → base.Ns mainGlobals mg → FnOk P w K mg base CX k fa fd [x] sp) (hbind : ∀ (s : Shared) (u : Value), BindsTo s fd ⟨[u], []⟩ [(x, u)])
    (hsp : ∀ H : Hp, zOE H → SqL K H a (ns.map V.int) → sp [.ref a] H (fun v _ => v = .bl true) fun _ _ _ => False)
    (hCX : ∀ H e s', CX [] H s₁ (fun _ _ _ => False) e s' → False) :
    codeAny (model P w) callerA (.call (.ref fa) ⟨[.ref a], []⟩) (fun r s' => r = .ok (.ret (.bool true)) ∧ OldK s₁.heap s'.heap ∧ s'.os = s₁.os ∧ AllBare s'.gens) s₁ := by
  have rv := zFH hi
  have lenV := hi.length
  have core : ∀ H : Hp, zOE H → SqL K H a (ns.map V.int) → HOk P w H s₁.heap → (∀ b, H b ≠ none → b = a) → (H a ≠ none → K.lookup a = none) →
      codeAny (model P w) callerA (.call (.ref fa) ⟨[.ref a], []⟩) (fun r s' => r = .ok (.ret (.bool true)) ∧ OldK s₁.heap s'.heap ∧ s'.os = s₁.os ∧ AllBare s'.gens) s₁ := by
    intro H hO hS hok hA hK
    have base_of : ∀ {b : Addr} {o : Obj}, s₁.heap.get? b = some o → H b = none → (zFX s₁.heap H).get? b = some o := fun e n => zNP e n
    have noA : ∀ {b : Addr} {o : Obj} {es : Array DictEntry} {ep : Nat}, s₁.heap.get? b = some o → o.data = .dict es ep → H b = none := fun {b o es ep} e d => by
      cases q : H b with
      | none => rfl
      | some u =>
        have e' : b = a := hA b (by rw [q]; simp)
        subst e'
        rw [ha] at e; cases e
        have d' : Data.seq vs.toArray _ = Data.dict es ep := d
        cases d'
    have nsK : ∀ {b : Addr} {m : Str → Option Value}, s₁.heap.Ns b m → (zFX s₁.heap H).Ns b m := fun {b m} ⟨o, es, ep, e, d, r⟩ => ⟨o, es, ep, base_of e (noA e d), d, r⟩
    have hKb : K.In (zFX s₁.heap H) := fun b o e => base_of (KX b o e) (by
      cases q : H b with
      | none => rfl
      | some u =>
        have e' : b = a := hA b (by rw [q]; simp)
        subst e'
        rw [hK (by rw [q]; simp)] at e; cases e)
    have hM : Mod K mg (zFX s₁.heap H) := ⟨hKb, nsK hns, ⟨mb, nsK hb, hbb⟩, let ⟨mc, h1, h2⟩ := hlim; ⟨mc, nsK h1, h2⟩⟩
    have e0 : Env0 P w K mg (zFX s₁.heap H) callerA [] s₁ H := ⟨rfl, hM, fun b o e => zQM e, Nat.le_of_eq (zME _ _), trivial, fun b hb => absurd (show b ∈ ([] : List Addr) from hb) (by simp), hok, .of_eq hg⟩
    refine codeAny_mono ((F _ hKb (nsK hns)).run callerA [] s₁ H ⟨[.ref a], []⟩ [.ref a] [.ref a] _ _ hr e0 (hbind s₁ (.ref a)) (.cons rfl .nil) (hsp H hO hS)) fun r s' h => ?_
    cases r with
    | error e => exact (hCX H e s' h).elim
    | ok fl =>
      cases fl with
      | next => exact False.elim h
      | brk => exact False.elim h
      | cont => exact False.elim h
      | ret u =>
        obtain ⟨v, H', os, bare, un, hok', r', q⟩ := h
        have q' : v = .bl true := q
        subst q'
        obtain rfl : u = Value.bool true := r'
        refine ⟨rfl, OldK.of_keep fun b o e => ?_, os, bare⟩
        cases q : H b with
        | none => exact un.keep b o e q (by intro z; exact absurd (show b ∈ ([] : List Addr) from z) (by simp)) (by simp)
        | some u =>
          rcases hO b with z | ⟨ob, xs, z⟩
          · rw [q] at z; cases z
          · have z2 := un.frzs b ob _ z
            obtain ⟨e1, _⟩ := hok b _ z
            obtain ⟨e2, _⟩ := hok' b _ z2
            rw [e] at e1; cases e1
            exact e2
  cases hk : K.lookup a with
  | some o =>
    have e := KX a o hk
    rw [ha] at e
    cases e
    refine core (fun _ => none) (fun _ => .inl rfl) (.inr ⟨_, vs.toArray, _, hk, rfl, rfl, rfl, by rw [List.size_toArray, lenV]; exact hl, by simpa using rv⟩) (fun b u z => by have z' : (none : Option HO) = some u := z; cases z') (fun b z => absurd rfl z) fun z => absurd rfl z
  | none =>
    refine core (fun b => if b = a then some (.frz { cls := .type "list", data := .seq vs.toArray } (.lst (ns.map V.int))) else none) (fun b => ?_) (.inl (.inr ⟨{ cls := .type "list", data := .seq vs.toArray }, if_pos rfl⟩)) (fun b u z => ?_) (fun b z => ?_) fun _ => hk
    · by_cases hb : b = a
      · exact .inr ⟨_, _, if_pos hb⟩
      · exact .inl (if_neg hb)
    · by_cases hb : b = a
      · have z' := (if_pos hb).symm.trans z
        cases z'
        subst hb
        exact ⟨ha, by rw [List.length_map]; exact hl, vs, _, rv, ha⟩
      · have z' := (if_neg hb).symm.trans z
        cases z'
    · by_cases hb : b = a
      · exact hb
      · exact absurd (if_neg hb) z
end L2
namespace L2
open PySem PySem.Spec PyProof.Rows
theorem walk_of {l : PySem.W.OpenLaw} {n k : Nat} {q : Program} {loose : List Str} {XP : (Str → Option Value) → Heap → Prop} {YP : World → Heap → Prop} {d : DefRec} {K : Params → PySem.W.Frag} {CX : World → CXT} {sp : World → Sp} {x : Str}
    (hn : l.most = some n) (hn2 : n ≤ sizeLine) (hdf : d.params.defaults = []) (hr : Room k callerA)
    (hY : ∀ (w : World) (h : Heap), YP w h → (K w.params).In h)
    (F : ∀ (w : World) (mg : Str → Option Value) (fa : Addr) (h : Heap), (K w.params).In h → h.Ns mainGlobals mg → mg d.name = some (.ref fa) →
      ∃ fd : FuncData, (∀ (s : Shared) (u : Value), BindsTo s fd ⟨[u], []⟩ [(x, u)]) ∧
        ∀ base : Heap, (K w.params).In base → base.Ns mainGlobals mg → FnOk l.prog w (K w.params) mg base (CX w) k fa fd [x] (sp w))
    (hsp : ∀ (w : World) (H : Hp) (a : Addr) (ns : List Int), ns.length ≤ n → zOE H → SqL (K w.params) H a (ns.map V.int) → sp w [.ref a] H (fun v _ => v = .bl true) fun _ _ _ => False)
    (hCX : ∀ (w : World) (H : Hp) (s : Shared) (e : Value) (s' : Shared), CX w [] H s (fun _ _ _ => False) e s' → False) :
    PySem.W.WalkO q loose XP YP l.row.toRowW d [] (fun f vs => PySem.call f vs) := by
  refine Att.attach_call hn hdf fun w s₀ s₁ mg mb fa o pm cd doc a vs ns G Y ho hd hcd hmg hobj hints hlen hg => ?_
  have KX := hY w _ Y
  obtain ⟨fd, hb, hF⟩ := F w mg fa _ KX G.T.g hmg
  exact zOF KX G.T.g G.T.b G.T.builtins G.T.nolimit hg hobj hints (Nat.le_trans hlen hn2) hr hF hb (fun H hO hS => hsp w H a ns hlen hO hS) fun H e s' => hCX w H s₁ e s'
end L2
namespace L2
open PySem PySem.Spec PyProof.Rows
noncomputable def yG (s : Stmt) : Arguments := match s with
  | .FunctionDef _ a _ _ _ _ _ _ _ _ => a
  | _ => { posonlyargs := [], args := [], vararg := none, kwonlyargs := [], kw_defaults := [], kwarg := none, defaults := [] }
noncomputable def zV (s : Stmt) : List Stmt := match s with
  | .FunctionDef _ _ b _ _ _ _ _ _ _ => b
  | _ => []
noncomputable def zG (s : Stmt) : Scope := match s with
  | .FunctionDef _ _ _ _ _ _ sc _ _ _ => sc
  | _ => { kind := .function, names := [], isGenerator := false, isCoroutine := false }
abbrev CX0 : CXT := fun _ _ _ _ _ _ => False
abbrev E0 : XK := fun _ _ _ => False
theorem pass0 {X : Cx} : zGB CX0 X E0 := fun _ _ _ _ _ _ _ h => h.elim
structure Fun (K : PySem.W.Frag) (x qual : Str) (st : Stmt) (f : Addr) (fd : FuncData) : Prop where
  ex : ∃ (oc : Value) (od : Option Addr) (kV doc pm : Value) (an : Option Addr) (cdv ct : Value) (osl : Array (Option Value)),
    fd = PySem.W.fnOf x qual (yG st) (zV st) (zG st) .none kV doc pm an cdv ct ∧ K.lookup f = some ⟨oc, od, .func fd, osl⟩ ∧ PySem.W.codeIn K cdv qual = true
  kp : PySem.W.keepIn K (.ref f) = true
section
variable {P : Program} {w : World} {K : PySem.W.Frag} {mg : Str → Option Value} {base : Heap}
theorem Fun.ok {x qual : Str} {st : Stmt} {f : Addr} {fd : FuncData} {N ps : List Str} {k : Nat} {sp : Sp} (F : Fun K x qual st f fd) (S : FnScope N ps (zG st)) (len : ∀ vs H Q E, sp vs H Q E → vs.length = ps.length)
    (hbody : ∀ (cdv : Value) (A : Around) (outer : List Env) (s : Shared) (H : Hp) (vs : List V) (Q : VK) (E : XK), Room k (A.deeper (envOfC qual (zG st) s.heap.objs.size f cdv)) → sp vs H Q E →
      ∃ t, PSs (zGC CX0 P w K mg base N qual (zG st) f cdv A outer s H E).nox (zV st) t ∧ t { nx := fun _ H' => Q .non H', rt := Q } (start N vs) H) : FnOk P w K mg base CX0 (k + 1) f fd ps sp := by
  obtain ⟨oc, od, kV, doc, pm, an, cdv, ct, osl, rfl, lk, hcd⟩ := F.ex
  refine zSW lk hcd S len fun A outer s H vs Q E hr hsp => ?_
  obtain ⟨t, h, q⟩ := hbody cdv A outer s H vs Q E hr hsp
  exact ⟨t, h.nox, q⟩
theorem Fun.binds {x qual : Str} {st : Stmt} {f : Addr} {fd : FuncData} {ps : List Str} (F : Fun K x qual st f fd)
    (h : ∀ (kV doc pm : Value) (an : Option Addr) (cdv ct : Value) (us : List Value), us.length = ps.length → bindArgs (PySem.W.fnOf x qual (yG st) (zV st) (zG st) .none kV doc pm an cdv ct) ⟨us, []⟩ = pure (ps.zip us)) : Binds K fd ps [] := by
  obtain ⟨oc, od, kV, doc, pm, an, cdv, ct, osl, rfl, lk, hcd⟩ := F.ex
  exact .all (h kV doc pm an cdv ct)
theorem kI {x qual : Str} {st : Stmt} {f : Addr} {oc : Value} {od an : Option Addr} {osl : Array (Option Value)} {kV doc pm cdv ct : Value} (l : K.lookup f = some ⟨oc, od, .func (PySem.W.fnOf x qual (yG st) (zV st) (zG st) .none kV doc pm an cdv ct), osl⟩)
    (c : PySem.W.codeIn K cdv qual = true) (k : PySem.W.keepIn K (.ref f) = true) : Fun K x qual st f (PySem.W.fnOf x qual (yG st) (zV st) (zG st) .none kV doc pm an cdv ct) := ⟨⟨oc, od, kV, doc, pm, an, cdv, ct, osl, rfl, l, c⟩, k⟩
end
section
variable {X : Cx}
theorem pv (i : Nat) {x : Str} {pos : Pos} (hN : X.N[i]? = some x := by rfl) (hv : Vis X.env.scope x := by first | exact Or.inl rfl | exact Or.inr (Or.inl rfl) | exact Or.inr (Or.inr rfl)) (hd : (x == ("__debug__" : Str)) = false := by decide)
    (hcd : (x == ("__classdict__" : Str)) = false := by decide) : PE X (.Name x pos) (tVar i) := zTI hN hv hd hcd
end
noncomputable def Same (H H' : Hp) : Prop := ∀ b o, H b = some o → H' b = some o
theorem Same.seq {K : PySem.W.Frag} {H H' : Hp} {a : Addr} {xs : List V} (e : Same H H') (h : SqL K H a xs) : SqL K H' a xs := by
  rcases h with (h | ⟨o, h⟩) | h
  · exact .inl (.inl (e _ _ h))
  · exact .inl (.inr ⟨o, e _ _ h⟩)
  · exact .inr h
end L2
set_option maxHeartbeats 4000000
namespace L2
open PySem PySem.Spec PyProof.Rows
noncomputable def gC (env : Env) (l : List (Str × NameKind)) (cs : List (Str × Addr)) : List (Str × Addr) :=
  l.foldl (fun c y => if y.2 == .free then (y.1, (env.cells.lookup y.1).getD 0) :: c else c) cs
theorem zGI {α β : Type} {l : List α} {f : α → β → Sem (ForInStep β)} {g : β → α → β} : ∀ (c : β), (∀ x ∈ l, ∀ c, f x c = pure (.yield (g c x))) →
    forIn l c f = pure (l.foldl g c) := by
  induction l with
  | nil => intro c _; rfl
  | cons x l ih =>
    intro c h
    rw [List.forIn_cons, h x List.mem_cons_self, pure_bind]
    exact ih _ fun y hy => h y (List.mem_cons_of_mem _ hy)
theorem nJ {scope : Scope} {env : Env} (h : ∀ y ∈ scope.names, y.2 = .free → ∃ c, env.cells.lookup y.1 = some c) : closureFor scope env = pure (gC env scope.names []) := by
  unfold closureFor gC
  dsimp only
  rw [zGI (g := fun c y => if y.2 == .free then (y.1, (env.cells.lookup y.1).getD 0) :: c else c) [] ?_]
  · rfl
  · intro y hy c
    obtain ⟨n, k⟩ := y
    by_cases hk : k = .free
    · subst hk
      obtain ⟨a, ha⟩ := h _ hy rfl
      have ha' : env.cells.lookup n = some a := ha
      simp [cellOf, ha']
    · have e : (k == NameKind.free) = false := by simpa using hk
      simp [e]
theorem zBU {env : Env} : ∀ (l : List (Str × NameKind)) (cs : List (Str × Addr)), (∀ y ∈ l, y.2 = .free → ∃ c, env.cells.lookup y.1 = some c) → (∀ p ∈ cs, env.cells.lookup p.1 = some p.2) →
    ∀ p ∈ gC env l cs, env.cells.lookup p.1 = some p.2
  | [], _, _, h => h
  | (n, k) :: l, cs, hl, h => by
    refine zBU l _ (fun y hy => hl y (List.mem_cons_of_mem _ hy)) fun p hp => ?_
    by_cases hk : k = .free
    · subst hk
      obtain ⟨c, hc⟩ := hl _ List.mem_cons_self rfl
      have hc' : env.cells.lookup n = some c := hc
      have hp' : p ∈ (n, (env.cells.lookup n).getD 0) :: cs := hp
      rcases List.mem_cons.mp hp' with rfl | hp
      · show env.cells.lookup n = some ((env.cells.lookup n).getD 0)
        rw [hc']; rfl
      · exact h p hp
    · have hp' : p ∈ (if (k == NameKind.free) = true then (n, (env.cells.lookup n).getD 0) :: cs else cs) := hp
      rw [if_neg (by simpa using hk)] at hp'
      exact h p hp'
theorem zCW {env : Env} : ∀ (l : List (Str × NameKind)) (cs : List (Str × Addr)) (p : Str × Addr), p ∈ cs → p ∈ gC env l cs
  | [], _, _, h => h
  | (n, k) :: l, cs, p, h => by
    refine zCW l _ p ?_
    show p ∈ (if (k == .free) = true then (n, (env.cells.lookup n).getD 0) :: cs else cs)
    split
    · exact List.mem_cons_of_mem _ h
    · exact h
theorem cU {env : Env} : ∀ (l : List (Str × NameKind)) (cs : List (Str × Addr)) (n : Str), (n, NameKind.free) ∈ l → ∃ c, (n, c) ∈ gC env l cs
  | [], _, _, h => nomatch h
  | (m, k) :: l, cs, n, h => by
    rcases List.mem_cons.mp h with e | h
    · have e1 : n = m := congrArg Prod.fst e
      have e2 : NameKind.free = k := congrArg Prod.snd e
      subst e1 e2
      exact ⟨(env.cells.lookup n).getD 0, zCW l _ _ List.mem_cons_self⟩
    · exact cU l _ n h
theorem gJ {β : Type} : ∀ {l : List (Str × β)} {n : Str}, (∃ c, (n, c) ∈ l) → ∃ c, l.lookup n = some c
  | [], _, h => let ⟨_, z⟩ := h; nomatch z
  | (m, b) :: l, n, h => by
    by_cases e : n = m
    · subst e
      exact ⟨b, by simp [List.lookup_cons]⟩
    · obtain ⟨c, hc⟩ := h
      rcases List.mem_cons.mp hc with z | z
      · cases z; exact absurd rfl e
      · obtain ⟨c', h'⟩ := gJ ⟨c, z⟩
        refine ⟨c', ?_⟩
        have e' : (n == m) = false := by simpa using e
        simp [List.lookup_cons, e', h']
noncomputable def zEP (scope osc : Scope) : List (Str × NameKind) := scope.names.map fun (n, k) => if (k == .free && osc.kind == .function && osc.names.lookup n == some .cell) then (n, .cell) else (n, k)
noncomputable def zCX (osc : Scope) (N : List Str) (sc : Scope) (idx : List Nat) : Bool :=
  decide (sc.kind = .function) && sc.names.all (fun y => decide (y.2 ≠ .cell)) && sc.names.all (fun y => decide (y.2 ≠ .local) || decide (sc.names.lookup y.1 = some .local)) &&
  sc.names.all (fun y => decide (y.2 ≠ .free) || decide (osc.names.lookup y.1 = some .cell) || decide (osc.names.lookup y.1 = some .free)) &&
  idx.all (fun i => match N[i]? with
    | some y => (decide (osc.names.lookup y = some .cell) || decide (osc.names.lookup y = some .free)) && (decide ((zEP sc osc).lookup y = some .cell) || decide ((zEP sc osc).lookup y = some .free))
    | none => false)
noncomputable def cV (σ : St) (idx : List Nat) : St := idx.map fun i => (σ[i]?).join
theorem gD (σ : St) (idx : List Nat) : (cV σ idx).length = idx.length := by unfold cV; rw [List.length_map]
noncomputable def zJ (X : Cx) (sc : Scope) (T : List Str) (idx : List Nat) (C : Addr) (s₂ : Shared) (H1 : Hp) (fp : List Addr) : Cx where
  prog := X.prog
  w := X.w
  K := X.K
  mg := X.mg
  base := X.base
  A := X.A
  N := T ++ idx.map fun i => (X.N[i]?).getD Str.empty
  s₀ := s₂
  H₀ := H1
  env := compEnvC sc (gC X.env sc.names []) C X.env
  outer := X.stack
  stack := X.stack
  ex := fp
  fn := fun _ => false
  calm := X.calm
  pn := []
  xe := fun _ _ => False
noncomputable def zOG (wi : TI) (g : TG) (tc : Addr → Shared → Hp → List Addr → TT) (te : Addr → Shared → Hp → List Addr → TE) (nt : Nat) (idx : List Nat) : TE := fun σ H Q => wi σ H fun J H1 => ∃ W : Nat → Nat → List V → Hp → Prop, (∃ m, W 0 m [] H1) ∧ ∀ i m ys H2, W i m ys H2 → ys.length ≤ sizeLine ∧
  ((J.stop i H2 ∧ ∀ D, H2 D = none → Q (.ref D) (upd H2 D (.lst ys))) ∨
   (J.go i H2 ∧ ys.length < sizeLine ∧ ∀ x H3, J.yld i H2 x H3 → ∀ τ : St, τ.length = nt → g x (τ ++ cV σ idx) H3 fun σ4 H4 => (∃ τ', σ4 = τ' ++ cV σ idx ∧ τ'.length = nt) ∧
     ∀ C s₂ fp, tc C s₂ H1 fp σ4 H4 fun b H5 => if b = true then te C s₂ H1 fp σ4 H5 fun y H6 => ∃ m', m' < m ∧ W (i + 1) m' (ys ++ [y]) H6 else ∃ m', m' < m ∧ W (i + 1) m' ys H5))
section
variable {prog : Program} {w : World} {A : Around} {R : Result → Shared → Prop} {s : Shared}
theorem zAH {elt target iter : Expr} {ifs : List Expr} {scope : Scope} {pos : Pos} {it acc : Value} {env : Env} (I : Nat → Shared → Prop)
    (turn : ∀ n s, I n s → wpAny (model prog w) A (pyNext it) (fun r s₁ => match r with
      | none => R (.ok .next) s₁
      | some v => wpAny (model prog w) A (letOwnedTupleGo target it v) (fun _ s₁' => wpAny (model prog w) A (assign target env v) (fun _ s₂ =>
          wpAny (model prog w) A (forIn ifs true fun c r => if r = true then do let ok ← isTrue c env (eval c env); pure (ForInStep.yield ok) else pure (ForInStep.yield r)) (fun ok s₃ =>
            if ok = true then wpAny (model prog w) A (eval elt env) (fun x s₄ =>
              wpAny (model prog w) A (call (.builtin "list.append") [acc, x]) (fun _ s₅ => ∃ m, m < n ∧ I m s₅) (fun _ _ => False) s₄) (fun _ _ => False) s₃
            else ∃ m, m < n ∧ I m s₃) (fun _ _ => False) s₂) (fun _ _ => False) s₁') (fun _ _ => False) s₁) (fun _ _ => False) s)
    (n : Nat) (h : I n s) : codeAny (model prog w) A (.compLoop (.ListComp elt [⟨target, iter, ifs, 0⟩] scope pos) 0 it acc env) R s := by
  refine codeAny_loop rfl I (fun n s hI => ?_) n h
  show wpAny _ A ((compTurn (.ListComp elt [⟨target, iter, ifs, 0⟩] scope pos) 0 it acc env).onRaise (fun x => do noteFrame x env; theTreesLotGoes x)) _ _ s
  refine wpAny_noted ?_
  rw [compTurn_list]
  have no : ∀ {E' : Value → Shared → Prop} (v : Value) (s' : Shared), False → E' v s' := fun _ _ z => z.elim
  refine wpAny_bind (wpAny_standAt (wpAny_bind (wpAny_mono (turn n s hI) (fun r s₁ h₁ => ?_) (no))))
  cases r with
  | none => exact wpAny_pure h₁
  | some v =>
    refine wpAny_bind (wpAny_mono h₁ (fun _ s₁' h₁' => wpAny_bind (wpAny_mono h₁' (fun _ s₂ h₂ => wpAny_bind (wpAny_mono h₂ (fun ok s₃ h₃ => ?_) no)) no)) no)
    cases ok with
    | false => exact wpAny_pure ⟨rfl, h₃⟩
    | true =>
      exact wpAny_bind (wpAny_bind (wpAny_mono h₃ (fun x s₄ h₄ => wpAny_bind (wpAny_mono h₄ (fun _ s₅ h₅ => wpAny_pure (wpAny_pure ⟨rfl, h₅⟩)) no)) no))
end
noncomputable def zMO (X : Cx) (ifs : List Expr) (t : TT) : Prop :=
  ∀ (pins : List (Addr × Obj)) (s : Shared) (σ : St) (H : Hp) (Q : Bool → Hp → Prop), Inv X pins σ H s → t σ H Q →
    wpAny (model X.prog X.w) X.A (forIn ifs true fun c r => if r = true then do let ok ← isTrue c X.env (eval c X.env); pure (ForInStep.yield ok) else pure (ForInStep.yield r)) (TP X pins σ Q) X.xe s
noncomputable def tNoIf : TT := fun _ H Q => Q true H
theorem zOH {X : Cx} : zMO X [] tNoIf := fun _ _ _ H _ I h => wpAny_tests_nil ⟨H, I, h⟩
theorem zOI {X : Cx} {c : Expr} {t : TT} (h : PT X c t) : zMO X [c] t := fun pins s σ H Q I q => wpAny_tests_one (h pins s σ H Q I q)
end L2
namespace L2
open PySem PySem.Spec PyProof.Rows
structure CompF (osc : Scope) (N : List Str) (sc : Scope) (idx : List Nat) : Prop where
  kind : sc.kind = .function
  nocell : ∀ y ∈ sc.names, y.2 ≠ .cell
  locs : ∀ y ∈ sc.names, y.2 = .local → sc.names.lookup y.1 = some .local
  frees : ∀ y ∈ sc.names, y.2 = .free → osc.names.lookup y.1 = some .cell ∨ osc.names.lookup y.1 = some .free
  cap : ∀ i ∈ idx, ∃ y, N[i]? = some y ∧ (osc.names.lookup y = some .cell ∨ osc.names.lookup y = some .free) ∧ ((zEP sc osc).lookup y = some .cell ∨ (zEP sc osc).lookup y = some .free)
theorem zLB {osc : Scope} {N : List Str} {sc : Scope} {idx : List Nat} (h : zCX osc N sc idx = true) : CompF osc N sc idx := by
  unfold zCX at h
  simp only [Bool.and_eq_true, List.all_eq_true, decide_eq_true_eq, Bool.or_eq_true] at h
  obtain ⟨⟨⟨⟨h1, h2⟩, h3⟩, h4⟩, h5⟩ := h
  refine ⟨h1, fun y hy => h2 y hy, fun y hy e => ?_, fun y hy e => ?_, fun i hi => ?_⟩
  · rcases h3 y hy with z | z
    · exact absurd e z
    · exact z
  · rcases h4 y hy with (z | z) | z
    · exact absurd e z
    · exact .inl z
    · exact .inr z
  · have q := h5 i hi
    cases e : N[i]? with
    | none => rw [e] at q; cases q
    | some y =>
      rw [e] at q
      simp only [Bool.and_eq_true, decide_eq_true_eq, Bool.or_eq_true] at q
      exact ⟨y, rfl, q.1, q.2⟩
theorem zFI {sc osc : Scope} {x : Str} (hno : ∀ y ∈ sc.names, y.2 ≠ .cell) (h : (zEP sc osc).lookup x = some .cell ∨ (zEP sc osc).lookup x = some .free) : (x, NameKind.free) ∈ sc.names := by
  have key : ∀ k', (k' = .cell ∨ k' = .free) → (x, k') ∈ zEP sc osc → (x, NameKind.free) ∈ sc.names := by
    intro k' hk' hm
    unfold zEP at hm
    obtain ⟨⟨n, k⟩, hy, e⟩ := List.mem_map.mp hm
    dsimp only at e
    split at e
    · rename_i hc
      cases e
      rw [Bool.and_eq_true, Bool.and_eq_true] at hc
      have : k = .free := by simpa using hc.1.1
      subst this
      exact hy
    · cases e
      rcases hk' with rfl | rfl
      · exact absurd rfl (hno _ hy)
      · exact hy
  rcases h with h | h
  · exact key _ (.inl rfl) (PySem.mem_of_lookup h)
  · exact key _ (.inr rfl) (PySem.mem_of_lookup h)
section
variable {X : Cx} {pins : List (Addr × Obj)} {σ : St} {H1 : Hp} {s₂ : Shared} {sc : Scope} {T : List Str} {idx : List Nat} {C : Addr} {fp : List Addr}
theorem zCY (I : Inv X pins σ H1 s₂) (F : CompF X.env.scope X.N sc idx) : ∀ y ∈ sc.names, y.2 = .free → ∃ c, X.env.cells.lookup y.1 = some c :=
  fun y hy e => I.ok.has y.1 (F.frees y hy e)
theorem yY (I : Inv X pins σ H1 s₂) (F : CompF X.env.scope X.N sc idx) {x : Str} {c : Addr} (e : (gC X.env sc.names []).lookup x = some c) : X.env.cells.lookup x = some c :=
  zBU sc.names [] (zCY I F) (fun _ z => nomatch z) (x, c) (PySem.mem_of_lookup e)
theorem zRD (I : Inv X pins σ H1 s₂) (F : CompF X.env.scope X.N sc idx) {x : Str} {c : Addr} (hx : (x, NameKind.free) ∈ sc.names) (e : X.env.cells.lookup x = some c) : (gC X.env sc.names []).lookup x = some c := by
  obtain ⟨c', h'⟩ := gJ (cU (env := X.env) sc.names [] x hx)
  rw [h']
  rw [yY I F h'] at e
  exact e
theorem zMP (I : Inv X pins σ H1 s₂) (F : CompF X.env.scope X.N sc idx) (hC : s₂.heap.objs.size ≤ C) (hfp : ∀ b ∈ fp, nW X pins H1 b) (hlt : ∀ b ∈ fp, b < s₂.heap.objs.size) : (zJ X sc T idx C s₂ H1 fp).Ok where
  mod := I.ok.mod
  kind := F.kind
  glob := I.ok.glob
  blt := I.ok.blt
  above := hC
  inj := fun x y c h1 h2 => I.ok.inj x y c (yY I F h1) (yY I F h2)
  has := fun x hx => by
    have hx' : (zEP sc X.env.scope).lookup x = some .cell ∨ (zEP sc X.env.scope).lookup x = some .free := hx
    exact gJ (cU sc.names [] x (zFI F.nocell hx'))
  cab := fun x c h _ => nomatch h
  hd := I.ok.hd
  frames := I.ok.frames
  stk := .inl rfl
  exf := fun b hb => ⟨Nat.ne_of_lt (Nat.lt_of_lt_of_le (hlt b hb) hC), fun x c e => (hfp b hb).2.2.2.2.1 x c (yY I F e)⟩
  bs := I.bs
  bsz := Nat.le_trans I.ok.bsz I.sz
  noex := fun b o e hb => by
    rcases (hfp b hb).2.2.2.1 with z | z
    · exact I.ok.noex b o e z
    · exact absurd (Nat.lt_of_lt_of_le (Heap.lt_size e) (Nat.le_trans I.ok.bsz z)) (Nat.lt_irrefl _)
  exfs := fun b hb z => by
    rcases List.mem_cons.mp (I.stkSub b z) with e | e
    · exact (hfp b hb).2.1 e
    · exact (hfp b hb).2.2.1 e
  funs := I.stack
  frf := I.stkFree
theorem zCZ {s₄ : Shared} {m : Str → Option Value} (I : Inv X pins σ H1 s₂) (F : CompF X.env.scope X.N sc idx) (hC : s₂.heap.objs.size ≤ C) (hfp : ∀ b ∈ fp, nW X pins H1 b) (hlt : ∀ b ∈ fp, b < s₂.heap.objs.size)
    (kp : ∀ b o, s₂.heap.get? b = some o → s₄.heap.get? b = some o) (ho : s₄.os = s₂.os) (hg : s₄.gens = s₂.gens) (hn : s₄.heap.Ns C m) :
    Inv (zJ X sc T idx C s₂ H1 fp) [] (T.map (fun _ => none) ++ cV σ idx) H1 s₄ := by
  have cellK : ∀ c v, s₂.heap.IsCell c v → s₄.heap.IsCell c v := fun c v ⟨o, h1, h2⟩ => ⟨o, kp c o h1, h2⟩
  refine ⟨zMP I F hC hfp hlt, ho, by rw [hg]; exact I.bare, Un.kept kp, ⟨m, hn, fun i x v e1 e2 e3 => ?_⟩, fun x c e => ?_, I.hok.fresh hC, fun x c e => I.freeC x c (yY I F e), fun p hp => absurd (show p ∈ ([] : List (Addr × Obj)) from hp) (by simp), I.hok.kept kp, ?_⟩
  · have e1' : (T ++ idx.map fun i => (X.N[i]?).getD Str.empty)[i]? = some x := e1
    by_cases hi : i < T.length
    · rw [List.getElem?_append_left (by simpa using hi), List.getElem?_map] at e2
      cases z : T[i]? with
      | none => rw [z] at e2; cases e2
      | some y => rw [z] at e2; cases e2
    · rw [List.getElem?_append_right (by simpa using hi)] at e2
      rw [List.getElem?_append_right (by omega)] at e1'
      rw [List.length_map] at e2
      unfold cV at e2
      rw [List.getElem?_map] at e1' e2
      cases z : idx[i - T.length]? with
      | none => rw [z] at e2; cases e2
      | some j =>
        rw [z] at e1' e2
        have hj : j ∈ idx := List.mem_of_getElem? z
        obtain ⟨y, hy, k1, k2⟩ := F.cap j hj
        have ex : y = x := by
          have q : (X.N[j]?).getD Str.empty = x := Option.some.inj e1'
          rw [hy] at q; exact q
        subst ex
        have ev : σ[j]? = some (some v) := by
          have q : (σ[j]?).join = some v := Option.some.inj e2
          cases w' : σ[j]? with
          | none => rw [w'] at q; cases q
          | some a => rw [w'] at q; have q' : a = some v := q; rw [q']
        obtain ⟨m0, hn0, hl0⟩ := I.loc
        have vis : Vis X.env.scope y := k1.elim (fun z => .inr (.inl z)) fun z => .inr (.inr z)
        obtain ⟨u, r, l⟩ := hl0 j y v hy ev vis
        refine ⟨u, r, ?_⟩
        rcases l with ⟨kl, _⟩ | ⟨_, c, hc, q⟩
        · have kl' : X.env.scope.names.lookup y = some .local := kl
          rcases k1 with z | z <;> rw [z] at kl' <;> cases kl'
        · exact .inr ⟨k2, c, zRD I F (zFI F.nocell k2) hc, cellK c _ q⟩
  · obtain ⟨v, q⟩ := I.cell x c (yY I F e)
    exact ⟨v, cellK c v q⟩
  · show (T.map (fun _ => (none : Option V)) ++ cV σ idx).length = (T ++ idx.map fun i => (X.N[i]?).getD Str.empty).length
    rw [List.length_append, List.length_append, List.length_map, List.length_map, gD]
theorem zDA {σ1 : St} {H' : Hp} {s' : Shared} {h' : Heap} {D : Addr} {ys : List V} {its : List Value} {n : Nat} (I : Inv X pins σ H1 s₂) (hC : s₂.heap.objs.size ≤ C) (hfp : ∀ b ∈ fp, nW X pins H1 b)
    (J : Inv (zJ X sc T idx C s₂ H1 fp) [] σ1 H' s') (hs : Heap.SameBut C s'.heap h') (hD : s₂.heap.objs.size ≤ D) (hDC : D ≠ C) (eD : s'.heap.get? D = some { cls := .type "list", data := .seq its.toArray n }) (nD : H' D = none) (r : Vals ys its) (hz : ys.length ≤ sizeLine) :
    Inv X pins σ (upd H' D (.lst ys)) { s' with heap := h' } := by
  have old : ∀ b o, s₂.heap.get? b = some o → b ≠ C ∧ b ≠ D := fun b o e => ⟨Nat.ne_of_lt (Nat.lt_of_lt_of_le (Heap.lt_size e) hC), Nat.ne_of_lt (Nat.lt_of_lt_of_le (Heap.lt_size e) hD)⟩
  have oldH : ∀ b u, H1 b = some u → b ≠ D := fun b u e => Nat.ne_of_lt (Nat.lt_of_lt_of_le (I.hok.lt e) hD)
  have nC : H' C = none := J.free
  have B : Un (frs X.stack) fp H1 H' s₂.heap s'.heap := J.base
  have mv : ∀ b o, b ≠ C → s'.heap.get? b = some o → h'.get? b = some o := fun b o hb e => (hs.2 b hb).trans e
  refine I.call' (s' := { s' with heap := h' }) (ch := fp) J.os ⟨fun b o e q hb hx => ?_, fun b o e q hb hx => ?_, fun b o e q hx => ?_, fun b o e hx => ?_, fun b xs e => ?_, fun b o u e => ?_, fun b ps e => ?_⟩ ?_ J.bare fun b hb => ⟨(hfp b hb).2.2.2.1, (hfp b hb).2.1, (hfp b hb).2.2.2.2.1, (hfp b hb).2.2.2.2.2⟩
  · exact mv b o (old b o e).1 (B.keep b o e q hb hx)
  · obtain ⟨sl, z⟩ := B.slot b o e q hb hx
    exact ⟨sl, mv b _ (old b o e).1 z⟩
  · rw [zP (old b o e).2]; exact B.free b o e q hx
  · obtain ⟨o', z⟩ := B.there b o e hx
    exact ⟨o', mv b o' (old b o e).1 z⟩
  · rw [zP (oldH b _ e)]; exact B.tups b xs e
  · rw [zP (oldH b _ e)]; exact B.frzs b o u e
  · obtain ⟨more, z⟩ := B.tbls b ps e
    exact ⟨more, by rw [zP (oldH b _ e)]; exact z⟩
  · intro b u e
    by_cases hb : b = D
    · subst hb
      rw [jD] at e; cases e
      exact ⟨hz, its, n, r, mv b _ hDC eD⟩
    · rw [zP hb] at e
      refine (J.hok b u e).stay (fun c v hc q => mv c v ?_ q) (fun c q => by rw [zP (zN q nD)]; exact q) fun c xs q => by rw [zP (zN q nD)]; exact q
      rcases hc with z | z
      · rw [z]; exact zN e nC
      · exact zN z nC
end
end L2
namespace L2
open PySem PySem.Spec PyProof.Rows
section
variable {X : Cx}
theorem zRE {elt tg iter : Expr} {ifs : List Expr} {pos : Pos} {sc : Scope} {wi : TI} {g : TG} {tc : Addr → Shared → Hp → List Addr → TT} {te : Addr → Shared → Hp → List Addr → TE} (T : List Str) (idx : List Nat)
    (hi : PI X tg iter wi) (hcalm : X.calm = true) (hB : zCX X.env.scope X.N sc idx = true)
    (hg : ∀ C s₂ H1 fp, PG (zJ X sc T idx C s₂ H1 fp) tg g)
    (hc : ∀ C s₂ H1 fp, zMO (zJ X sc T idx C s₂ H1 fp) ifs (tc C s₂ H1 fp))
    (he : ∀ C s₂ H1 fp, PE (zJ X sc T idx C s₂ H1 fp) elt (te C s₂ H1 fp))
    (hs : ∀ x, foldedSetIterable iter X.env x = pure x := by intro _; rfl) :
    PE X (.ListComp elt [⟨tg, iter, ifs, 0⟩] sc pos) (zOG wi g tc te T.length idx) := by
  intro pins s σ H Q I h
  rw [eval_ListComp]
  have cf := zLB hB
  refine wpAny_comprehension_free (use := none) (cl := gC X.env sc.names []) rfl hs (nJ (zCY I cf)) cf.kind cf.locs ?_
  refine thn (hi pins s σ H _ I h) fun v s1 h1 => thn h1 fun itv s2 h2 => ?_
  obtain ⟨it, fp, tn, J, H2, e, I2, Tn, st2, f2, W, ⟨m0, w0⟩, turn⟩ := h2
  subst e
  have hlt : ∀ b ∈ fp, b < s2.heap.objs.size := fun b hb => let ⟨o, e, _⟩ := Tn.obj _ _ st2 b hb; Heap.lt_size e
  refine wpAny_newObj_type (wpAny_newFunctionEnv cf.nocell (by intro y hy; simp at hy) (fun h₁ hns₁ hsb₁ => ?_) cf.kind)
  dsimp only at hns₁ hsb₁ ⊢
  generalize hH2 : s2.heap.push { cls := .type "list", dict := none, data := .seq ([] : List Value).toArray } = HH at hns₁ hsb₁ ⊢
  have hC : HH.objs.size = s2.heap.objs.size + 1 := by rw [← hH2, Heap.size_push]
  have hDC : s2.heap.objs.size ≠ HH.objs.size := by rw [hC]; exact Nat.ne_of_lt (Nat.lt_succ_self _)
  have hCle : s2.heap.objs.size ≤ HH.objs.size := by rw [hC]; exact Nat.le_succ _
  have old : ∀ b o, s2.heap.get? b = some o → h₁.get? b = some o := fun b o e => hsb₁.extBut b o (by rw [hC]; exact Nat.ne_of_lt (Nat.lt_succ_of_lt (Heap.lt_size e))) (Heap.get?_push_of_some _ (hH2 ▸ Heap.get?_push_of_some _ e))
  have eD0 : h₁.get? s2.heap.objs.size = some { cls := .type "list", data := .seq ([] : List Value).toArray 0 } := hsb₁.extBut _ _ hDC (Heap.get?_push_of_some _ (hH2 ▸ Heap.get?_push_size _ rfl))
  have nD0 : H2 s2.heap.objs.size = none := I2.hok.fresh (Nat.le_refl _)
  have cD : ∀ x c, (gC X.env sc.names []).lookup x = some c → c ≠ s2.heap.objs.size := fun x c e => by
    obtain ⟨v, q⟩ := I2.cell x c (yY I2 cf e)
    exact Nat.ne_of_lt q.lt
  have loop : ∀ s4 : Shared, s4 = { s2 with heap := h₁, toks := s2.toks + ([] : List (Str × Value)).length } →
      codeAny (model X.prog X.w) X.A (.compLoop (.ListComp elt [⟨tg, iter, ifs, 0⟩] sc pos) 0 (.ref it) (.ref s2.heap.objs.size) (compEnvC sc (gC X.env sc.names []) HH.objs.size X.env))
        (compPost (model X.prog X.w) X.A X.xe none (EP X pins σ Q) (.ref s2.heap.objs.size) HH.objs.size) s4 := by
    rintro s4 rfl
    have J0 : Inv (zJ X sc T idx HH.objs.size s2 H2 fp) [] (T.map (fun _ => none) ++ cV σ idx) H2 { s2 with heap := h₁, toks := s2.toks + ([] : List (Str × Value)).length } :=
      zCZ I2 cf hCle f2 hlt old rfl rfl hns₁
    refine zAH (fun k s' => ∃ (i : Nat) (ys : List V) (its : List Value) (n : Nat) (H' : Hp) (τ : St), Inv (zJ X sc T idx HH.objs.size s2 H2 fp) [] (τ ++ cV σ idx) H' s' ∧ τ.length = T.length ∧ tn i s'.heap ∧ (∀ b ∈ fp, H' b = none) ∧
      s'.heap.get? s2.heap.objs.size = some { cls := .type "list", data := .seq its.toArray n } ∧ H' s2.heap.objs.size = none ∧ Vals ys its ∧ W i k ys H') ?_ m0
      ⟨0, [], [], 0, H2, T.map (fun _ => none), J0, by rw [List.length_map], Tn.keep _ _ _ st2 fun b _ o e => old b o e, fun b hb => (f2 b hb).1, eD0, nD0, .nil, w0⟩
    rintro k s3 ⟨i, ys, its, n, H3, τ, I3, hτ, st3, fr3, eD3, nD3, r3, w3⟩
    obtain ⟨hz, alt⟩ := turn i k ys H3 w3
    have hDfs : s2.heap.objs.size ∉ (zJ X sc T idx HH.objs.size s2 H2 fp).fs := fun z => by
      obtain ⟨_, o, ho, _⟩ := I2.stack.mem (show s2.heap.objs.size ∈ frs X.stack from z)
      exact absurd (Heap.lt_size ho) (Nat.lt_irrefl _)
    have pinD : ∀ {H' : Hp} {s' : Shared}, s'.heap.get? s2.heap.objs.size = some { cls := .type "list", data := .seq its.toArray n } → H' s2.heap.objs.size = none →
        ∀ p ∈ [(s2.heap.objs.size, ({ cls := .type "list", data := .seq its.toArray n } : Obj))], s'.heap.get? p.1 = some p.2 ∧ H' p.1 = none ∧ p.1 ≠ (zJ X sc T idx HH.objs.size s2 H2 fp).env.locals ∧ p.1 ∉ (zJ X sc T idx HH.objs.size s2 H2 fp).fs ∧ ∀ v, p.2.data ≠ .cell v :=
      fun {H' s'} e1 e2 p hp => by
        have ep : p = (s2.heap.objs.size, { cls := .type "list", data := .seq its.toArray n }) := by simpa using hp
        subst ep
        exact ⟨e1, e2, hDC, hDfs, fun v z => by cases z⟩
    have P3 : Inv (zJ X sc T idx HH.objs.size s2 H2 fp) [(s2.heap.objs.size, { cls := .type "list", data := .seq its.toArray n })] (τ ++ cV σ idx) H3 s3 := I3.pins_of (pinD eD3 nD3)
    have stat : ∀ {H' : Hp}, (∀ b ∈ fp, H' b = none) → ∀ b ∈ fp, nW (zJ X sc T idx HH.objs.size s2 H2 fp) [(s2.heap.objs.size, { cls := .type "list", data := .seq its.toArray n })] H' b := fun {H'} hn b hb => by
      have hb2 := hlt b hb
      refine ⟨hn b hb, Nat.ne_of_lt (Nat.lt_of_lt_of_le hb2 hCle), I3.ok.exfs b hb, .inl hb, fun x c e => (f2 b hb).2.2.2.2.1 x c (yY I2 cf e), fun p hp => ?_⟩
      have ep : p = (s2.heap.objs.size, ({ cls := .type "list", data := .seq its.toArray n } : Obj)) := by simpa [zJ] using hp
      subst ep
      exact Nat.ne_of_gt hb2
    rcases alt with ⟨stop, q⟩ | ⟨go, hl2, step⟩
    · refine thn (Tn.done (zJ X sc T idx HH.objs.size s2 H2 fp) rfl rfl rfl hcalm i _ s3 _ H3 (fun _ _ => False) P3 (stat fr3) st3 stop) fun r s4 ⟨hr, I4⟩ => ?_
      subst hr
      obtain ⟨m, hn, _⟩ := id I4.loc
      refine ⟨m, hn, fun h' hs' => ?_⟩
      have eD4 := (I4.pin (s2.heap.objs.size, { cls := .type "list", data := .seq its.toArray n }) (by simp)).1
      exact ⟨.ref s2.heap.objs.size, _, zDA I2 hCle f2 (I4.pins_of (fun p hp => nomatch hp)) hs' (Nat.le_refl _) hDC eD4 nD3 r3 hz, rfl, q _ nD3⟩
    · refine thn (Tn.item (zJ X sc T idx HH.objs.size s2 H2 fp) rfl rfl rfl hcalm i _ s3 _ H3 (fun _ _ => False) P3 (stat fr3) st3 go) fun r s4 ⟨u, hr, h4⟩ => ?_
      subst hr
      refine thn h4 fun _ s5 ⟨x, H5, I5, r5, y5, st5, fr5⟩ => ?_
      have I5' := I5.pinned (stat fr5) (Tn.obj _ _ st5)
      refine thn (hg HH.objs.size s2 H2 fp _ s5 _ H5 x u _ I5' r5 (step x H5 y5 τ hτ)) fun _ s6 ⟨σ6, H6, I6, ⟨τ', e6, l6⟩, q6⟩ => ?_
      subst e6
      refine thn (hc HH.objs.size s2 H2 fp _ s6 _ H6 _ I6 (q6 HH.objs.size s2 fp)) fun ok s7 ⟨H7, I7, q7⟩ => ?_
      have mD : (s2.heap.objs.size, ({ cls := .type "list", data := .seq its.toArray n } : Obj)) ∈ (zJ X sc T idx HH.objs.size s2 H2 fp).pn ++ ([(s2.heap.objs.size, { cls := .type "list", data := .seq its.toArray n })] ++ cT fp s5.heap) :=
        List.mem_append_right _ (List.mem_append_left _ (by simp))
      have mF : ∀ b ∈ fp, ∀ o, s5.heap.get? b = some o → (b, o) ∈ (zJ X sc T idx HH.objs.size s2 H2 fp).pn ++ ([(s2.heap.objs.size, { cls := .type "list", data := .seq its.toArray n })] ++ cT fp s5.heap) := fun b hb o e =>
        List.mem_append_right _ (List.mem_append_right _ (bJ hb e))
      cases ok with
      | false =>
        rw [if_neg Bool.false_ne_true] at q7 ⊢
        obtain ⟨m', hm', w7⟩ := q7
        refine ⟨m', hm', i + 1, ys, its, n, H7, τ', I7.pins_of (fun p hp => nomatch hp), l6, Tn.keep _ _ _ st5 fun b hb o e => (I7.pin _ (mF b hb o e)).1, fun b hb => ?_, (I7.pin _ mD).1, (I7.pin _ mD).2.1, r3, w7⟩
        obtain ⟨o, e, d⟩ := Tn.obj _ _ st5 b hb
        exact (I7.pin _ (mF b hb o e)).2.1
      | true =>
        rw [if_pos rfl] at q7 ⊢
        refine thn (he HH.objs.size s2 H2 fp _ s7 _ H7 _ I7 q7) fun y s8 ⟨yv, H8, I8, r8, m', hm', w8⟩ => ?_
        have eD8 := (I8.pin _ mD).1
        have nD8 := (I8.pin _ mD).2.1
        have hl := r3.length
        have q := PySem.IsL.update eD8 (fun z => z.push y)
        rw [show its.toArray.push y = (its ++ [y]).toArray by simp] at q
        refine call_meets PySem.F.slot_list_append ⟨_, eD8, rfl⟩ PySem.F.entry_list_append (PySem.F.args_list_append_2 _ _) (PySem.list_append s2.heap.objs.size its.toArray n y (by rw [List.size_toArray]; omega)) ⟨eD8, ?_⟩
        have I9 : Inv (zJ X sc T idx HH.objs.size s2 H2 fp) [] (τ' ++ cV σ idx) H8 s8 := I8.pins_of (fun p hp => nomatch hp)
        have up : ∀ b o, b ≠ s2.heap.objs.size → s8.heap.get? b = some o → (s8.heap.update s2.heap.objs.size (Obj.mapSeq fun z => z.push y)).get? b = some o := fun b o hb e => (Heap.get?_update_other s8.heap _ (Ne.symm hb)).trans e
        refine ⟨m', hm', i + 1, ys ++ [yv], its ++ [y], _, H8, τ', I9.turned (t' := s8.toks) up nD8 hDC (.inr (Nat.le_refl _)) cD (fun p hp => nomatch hp), l6, ?_, fun b hb => ?_, q, nD8, r3.append (.cons r8 .nil), w8⟩
        · exact Tn.keep _ _ _ st5 fun b hb o e => up b o (Nat.ne_of_lt (hlt b hb)) (I8.pin _ (mF b hb o e)).1
        · obtain ⟨o, e, d⟩ := Tn.obj _ _ st5 b hb
          exact (I8.pin _ (mF b hb o e)).2.1
  exact codeAny_compStart_list (loop _ rfl) (Tn.self X.A 0 _ _ _ (Tn.keep _ _ _ st2 fun b _ o e => old b o e) (loop _ rfl))
end
end L2
namespace L2
open PySem PySem.Spec PyProof.Rows
noncomputable def mkS (x : List Nat) : Str := ⟨x.toArray⟩
theorem yH (x : List Nat) : (mkS x).length = x.length := by simp [mkS, Str.length]
theorem kT (x : List Nat) : (mkS x).cps.toList = x := by simp [mkS]
theorem zLC {x y : List Nat} (h : mkS x = mkS y) : x = y := by
  have := congrArg (fun s => s.cps.toList) h
  simpa [mkS] using this
theorem zRF (x y : List Nat) : mkS x ++ mkS y = mkS (x ++ y) := by
  show Str.append (mkS x) (mkS y) = _
  simp [Str.append, mkS]
theorem zRG (c : Nat) : (⟨#[c]⟩ : Str) = mkS [c] := rfl
noncomputable def xG {α : Type} (xs : List α) (lo hi : Option Int) : List α := (xs.drop (HT.sIx xs.length 0 lo)).take (HT.sIx xs.length xs.length hi - HT.sIx xs.length 0 lo)
theorem strIdx (lo hi : Option Int) (n : Nat) : Builtin.Str.strSliceIndices lo hi 1 n = (List.range (HT.sIx n n hi - HT.sIx n 0 lo)).map (HT.sIx n 0 lo + ·) := by
  have e1 : (match lo with | none => (if (1 : Int) > 0 then (0 : Int) else (n : Int) - 1) | some i => if (1 : Int) > 0 then max 0 (min (if i < 0 then i + (n : Int) else i) (n : Int)) else max (-1) (min (if i < 0 then i + (n : Int) else i) ((n : Int) - 1))) = ((HT.sIx n 0 lo : Nat) : Int) := by
    cases lo with
    | none => simp [HT.sIx]
    | some i =>
      simp only [HT.sIx, show (1 : Int) > 0 by decide, if_true]
      by_cases h : i < 0
      · simp only [h, if_true]; omega
      · simp only [h, if_false]; omega
  have e2 : (match hi with | none => (if (1 : Int) > 0 then (n : Int) else -1) | some i => if (1 : Int) > 0 then max 0 (min (if i < 0 then i + (n : Int) else i) (n : Int)) else max (-1) (min (if i < 0 then i + (n : Int) else i) ((n : Int) - 1))) = ((HT.sIx n n hi : Nat) : Int) := by
    cases hi with
    | none => simp [HT.sIx]
    | some i =>
      simp only [HT.sIx, show (1 : Int) > 0 by decide, if_true]
      by_cases h : i < 0
      · simp only [h, if_true]; omega
      · simp only [h, if_false]; omega
  rw [← sliceRange_one]
  unfold Builtin.Str.strSliceIndices
  dsimp only
  rw [← e1, ← e2]
  cases lo <;> cases hi <;> rfl
theorem zMQ (x : List Nat) (lo hi : Option Int) : Txt.slice (mkS x) lo hi = mkS (xG x lo hi) := by
  unfold Txt.slice
  rw [strIdx, yH]
  have hp : ((List.range (HT.sIx x.length x.length hi - HT.sIx x.length 0 lo)).map (HT.sIx x.length 0 lo + ·)).filterMap ((mkS x).cps[·]?) = xG x lo hi := by
    have := pick_run (mkS x).cps (HT.sIx x.length 0 lo) (HT.sIx x.length x.length hi - HT.sIx x.length 0 lo)
    rw [kT] at this
    exact this
  rw [hp]
  split
  · rename_i hc
    rw [Bool.and_eq_true] at hc
    have hl : HT.sIx x.length x.length hi - HT.sIx x.length 0 lo = x.length := by simpa using hc.2
    have h2 : HT.sIx x.length x.length hi ≤ x.length := HT.sIx_le _ _ (Nat.le_refl _) _
    have h3 : HT.sIx x.length 0 lo ≤ x.length := HT.sIx_le _ _ (Nat.zero_le _) _
    have e : HT.sIx x.length 0 lo = 0 := by omega
    unfold xG
    rw [hl, e]
    simp
  · rfl
section
variable {X : Cx}
noncomputable def rSlS : V → Option Int → Option Int → Hp → VK → Prop := fun x lo hi H Q => ∃ cs, x = .str (mkS cs) ∧ cs.length ≤ sizeLine ∧ Q (.str (mkS (xG cs lo hi))) H
theorem zUK : SlR X rSlS := by
  intro pins s σ H x v vl vu lo hi sl Q I rx hs pl pu h
  obtain ⟨cs, rfl, hz, q⟩ := h
  obtain ⟨t, rfl⟩ := rx
  have hl : (Txt.slice (mkS cs) lo hi).length ≤ sizeLine := Nat.le_trans (Txt.slice_le _ _ _) (by rw [yH]; exact hz)
  rw [← zMQ] at q
  refine ⟨"str", _, slot_str_getitem.lookup, typeIs_str _ _ _, ?_⟩
  obtain ⟨o, ho, hc, hd⟩ := hs
  cases pl with
  | none =>
    cases pu with
    | none => exact wpAny_getItem_str_slice (l := none) (u := none) (st := none) ⟨o, ho, hc, hd⟩ rfl (post_val_or_str ⟨hl, fun t' k => ⟨.str _, H, I.tok _, ⟨_, rfl⟩, q⟩⟩)
    | int j uj => exact wpAny_getItem_str_slice (l := none) (u := some (j, uj)) (st := none) ⟨o, ho, hc, hd⟩ rfl (post_val_or_str ⟨hl, fun t' k => ⟨.str _, H, I.tok _, ⟨_, rfl⟩, q⟩⟩)
  | int i ui =>
    cases pu with
    | none => exact wpAny_getItem_str_slice (l := some (i, ui)) (u := none) (st := none) ⟨o, ho, hc, hd⟩ rfl (post_val_or_str ⟨hl, fun t' k => ⟨.str _, H, I.tok _, ⟨_, rfl⟩, q⟩⟩)
    | int j uj => exact wpAny_getItem_str_slice (l := some (i, ui)) (u := some (j, uj)) (st := none) ⟨o, ho, hc, hd⟩ rfl (post_val_or_str ⟨hl, fun t' k => ⟨.str _, H, I.tok _, ⟨_, rfl⟩, q⟩⟩)
theorem dX : OpR X (compareOp .LtE) (fun x y H Q => ∃ i j, x = .str i ∧ y = .str j ∧ Q (.bl (!(j.cps.toList < i.cps.toList))) H) := by
  intro pins s σ H x y v u Q I rx ry h
  obtain ⟨i, j, rfl, rfl, q⟩ := h
  obtain ⟨t, rfl⟩ := rx
  obtain ⟨t', rfl⟩ := ry
  exact PySem.P.le_str ⟨.bl _, H, I, rfl, q⟩
noncomputable def zDB (cs : List Nat) (k : Int) : List Nat := (List.replicate k.toNat cs).flatten
theorem zBC (cs : List Nat) : ∀ (k : Nat) (acc : List Nat), List.foldl (fun x1 x2 => x1 ++ x2) acc.toArray (List.replicate k cs.toArray) = (acc ++ (List.replicate k cs).flatten).toArray
  | 0, acc => by simp
  | k + 1, acc => by
    rw [List.replicate_succ, List.foldl_cons, List.replicate_succ, List.flatten_cons, ← List.append_assoc, ← zBC cs k (acc ++ cs)]
    simp
theorem zJS : OpR X (binaryOp .Mult) (fun x y H Q => ∃ cs k, x = .str (mkS cs) ∧ y = .int k ∧ 0 ≤ k ∧ k < 1000 ∧ cs.length ≤ 1000 ∧ Q (.str (mkS (zDB cs k))) H) := by
  intro pins s σ H x y v u Q I rx ry h
  obtain ⟨cs, k, rfl, rfl, h0, h1, hc, q⟩ := h
  obtain ⟨t, rfl⟩ := rx
  obtain ⟨t', rfl⟩ := ry
  have hs : sizeLine = 16777216 := sizeLine_eq
  have hprod : cs.length * k.toNat ≤ 1000 * 1000 := Nat.mul_le_mul hc (by omega)
  have e : ∀ b, Q (.str b) H → b = mkS (zDB cs k) → True := fun _ _ _ => trivial
  refine PySem.P.mul_str (by rw [decide_eq_false (by omega), decide_eq_false (by omega)]; rfl) (fun h2 _ => ?_) (fun _ _ => ?_) ?_
  · rw [yH]
    have hk : 1 ≤ k := by omega
    have : (1000 : Int) ≤ (2 ^ 63 - 1) / k := by
      rw [Int.le_ediv_iff_mul_le (by omega)]
      omega
    omega
  · rw [yH]
    unfold PySem.Builtin.Str.tooLong
    exact decide_eq_false (by omega)
  · have made : ∀ (z : Str), z = mkS (zDB cs k) → z.length ≤ sizeLine → (Made.str z).post (EP X pins σ Q) s := fun z ez hz => ⟨hz, by rw [ez]; exact ⟨.str _, H, I.tok _, ⟨_, rfl⟩, q⟩⟩
    have hlen : (zDB cs k).length = k.toNat * cs.length := by
      unfold zDB; rw [len_rep]
    by_cases hn : k < 1
    · rw [if_pos hn]
      have hk : k.toNat = 0 := by omega
      refine made _ ?_ (by decide)
      unfold zDB; rw [hk]; rfl
    · rw [if_neg hn]
      by_cases h3 : (k == 1 || (mkS cs).length == 0) = true
      · rw [if_pos h3]
        refine ⟨.str (mkS cs), H, I, ⟨_, rfl⟩, ?_⟩
        have : zDB cs k = cs := by
          unfold zDB
          rw [Bool.or_eq_true] at h3
          rcases h3 with h3 | h3
          · have : k = 1 := by simpa using h3
            subst this
            simp
          · rw [yH] at h3
            have : cs = [] := by cases cs with | nil => rfl | cons _ _ => simp at h3
            subst this
            simp
        rw [this] at q
        exact q
      · rw [if_neg h3]
        refine made _ ?_ ?_
        · unfold zDB mkS
          have := zBC cs k.toNat []
          rw [List.nil_append] at this
          exact congrArg Str.mk this
        · have e3 : (List.foldl (fun x1 x2 => x1 ++ x2) #[] (List.replicate k.toNat (mkS cs).cps)) = (zDB cs k).toArray := by
            have := zBC cs k.toNat []
            rw [List.nil_append] at this
            exact this
          show (List.foldl (fun x1 x2 => x1 ++ x2) #[] (List.replicate k.toNat (mkS cs).cps)).size ≤ sizeLine
          rw [e3, List.size_toArray, hlen, Nat.mul_comm]
          omega
theorem zAI : CallR X (.builtin "all") (fun xs H Q => ∃ (a : Addr) (bs : List Bool), xs = [.ref a] ∧ SqL X.K H a (bs.map V.bl) ∧ X.calm = true ∧ Q (.bl (bs.all id)) H) := by
  intro pins s σ H xs us Q I r h
  obtain ⟨a, bs, rfl, hq, hc, q⟩ := h
  obtain ⟨u, rfl, ru⟩ := vals1 r
  cases ru
  obtain ⟨its, rv, pl, hz⟩ := I.list hq
  have hlen : its.length = bs.length := by rw [← rv.length, List.length_map]
  refine PySem.call_all_walk (wpAny_pyIter_list pl.isList ?_)
  have hI : a ≠ s.heap.objs.size := by
    obtain ⟨o, ho, _⟩ := pl.isList
    exact Nat.ne_of_lt (Heap.lt_size ho)
  have I1 : ∀ (h' : Heap) (tk : Nat), (∀ b o, b ∉ [s.heap.objs.size] → (s.heap.push { cls := .type "list_iterator", data := .fields #[.ref a, .int 0 0] }).get? b = some o → h'.get? b = some o) → Inv X pins σ H { s with heap := h', toks := tk } := fun h' tk k =>
    I.kept fun b o e => k b o (by simpa using Nat.ne_of_lt (Heap.lt_size e)) (Heap.get?_push_of_some _ e)
  refine ⟨s.heap.objs.size, [s.heap.objs.size, a], [s.heap.objs.size], its.toArray.size, _, _, fun i => bs.getD i false, rfl, PySem.Walks.list (by first | exact I.ok.hd hc | exact (show X.A.in1.handled = none from I.ok.hd hc)) _ a hI its.toArray, ⟨⟨_, Heap.get?_push_size _ rfl, rfl, rfl⟩, pl.isList.at fun o e => Heap.get?_push_of_some _ e⟩, ?_, fun h' tk k => ?_⟩
  · intro i v s' Q' E' hv hQ'
    have hv' : its[i]? = some v := by simpa using hv
    have hi : i < bs.length := by rw [← hlen]; exact (List.getElem?_eq_some_iff.mp hv').1
    have hb : (bs.map V.bl)[i]? = some (V.bl (bs.getD i false)) := by
      rw [List.getElem?_map, List.getElem?_eq_getElem hi]
      simp [List.getD_eq_getElem?_getD, hi]
    obtain ⟨u', hu', rv'⟩ := rv.get hb
    rw [hv'] at hu'
    cases hu'
    cases rv'
    exact wpAny_truthy_bool hQ'
  · refine ⟨.bl (bs.all id), H, I1 h' tk k, ?_, q⟩
    show Value.bool _ = Value.bool _
    congr 1
    rw [List.size_toArray, hlen]
    have : ∀ (l : List Bool), (List.range l.length).all (fun i => l.getD i false) = l.all id := by
      intro l
      rw [Bool.eq_iff_iff, List.all_eq_true, List.all_eq_true]
      constructor
      · intro h x hx
        obtain ⟨i, hi, rfl⟩ := List.getElem_of_mem hx
        have := h i (List.mem_range.mpr hi)
        simpa [List.getD_eq_getElem?_getD, hi] using this
      · intro h i hi
        have hi' := List.mem_range.mp hi
        have := h l[i] (List.getElem_mem hi')
        simpa [List.getD_eq_getElem?_getD, hi'] using this
    exact this bs
noncomputable def Its (x : List Nat) : It := ⟨fun i _ => i < x.length, fun i H v H' => H' = H ∧ ∃ c, x[i]? = some c ∧ v = .str (mkS [c]), fun i _ => x.length ≤ i⟩
noncomputable def iStr (tl : TE) : TI := fun σ H R => tl σ H fun v H1 => ∃ x, v = .str (mkS x) ∧ R (Its x) H1
theorem zHV {P : Program} {w : World} {K : PySem.W.Frag} {tg : Expr} (it : Addr) (ty : String) (x : List Nat) (t : Tok) (hty : ty = "str_ascii_iterator" ∨ ty = "str_iterator") :
    Turn P w K tg (Its x) [it] it (fun i h => h.IsStrIter it ty (mkS x) t i) where
  mem := by simp
  obj := fun i h st b hb => by
    have e : b = it := by simpa using hb
    subst e
    obtain ⟨o, e, c, d⟩ := st
    exact ⟨o, e, fun v z => by rw [d] at z; cases z⟩
  keep := fun i h h' st k => let ⟨o, ho, r⟩ := st; ⟨o, k it (by simp) o ho, r⟩
  item := by
    intro X hP hw hK hc i pins s σ H E I hf st hg
    subst hP hw hK
    obtain ⟨f0, f1, f2, f3, f4, f5⟩ := hf it (by simp)
    have hi : i < x.length := hg
    have hxi : (mkS x).cps[i]? = some x[i] := by simp [mkS, hi]
    have fin : ∀ (h' : Heap), h'.IsStrIter it ty (mkS x) t (i + 1) → Heap.SameBut it s.heap h' → ∃ u, some (Value.str ⟨#[x[i]]⟩ s.toks) = some u ∧
        wpAny (model X.prog X.w) X.A (letOwnedTupleGo tg (.ref it) u) (fun _ s2 => ∃ y H', Inv X pins σ H' s2 ∧ RelV y u ∧ (Its x).yld i H y H' ∧ s2.heap.IsStrIter it ty (mkS x) t (i + 1) ∧ ∀ b ∈ [it], H' b = none) E { s with heap := h', toks := s.toks + 1 } := fun h' st' sb => by
      have I1 : Inv X pins σ H { s with heap := h', toks := s.toks + 1 } := I.turned (fun b o hb e => (sb.2 b hb).trans e) f0 f1 f3 f4 f5
      obtain ⟨o, e, c, d⟩ := id st'
      refine ⟨_, rfl, zNU (s := { s with heap := h', toks := s.toks + 1 }) e c d (by rcases hty with rfl | rfl <;> decide) ⟨.str (mkS [x[i]]), H, I1, ⟨_, rfl⟩, ⟨rfl, x[i], by simp [hi], rfl⟩, st', fun b hb => (hf b hb).1⟩⟩
    rcases hty with rfl | rfl
    · exact wpAny_pyNext_ascii_item st hxi fun h' st' sb => fin h' st' sb
    · exact wpAny_pyNext_wide_item st hxi fun h' st' sb => fin h' st' sb
  done := by
    intro X hP hw hK hc i pins s σ H E I hf st hg
    subst hP hw hK
    obtain ⟨f0, f1, f2, f3, f4, f5⟩ := hf it (by simp)
    have hi : x.length ≤ i := hg
    have hxi : (mkS x).cps[i]? = none := by simp [mkS, hi]
    rcases hty with rfl | rfl
    · exact wpAny_pyNext_ascii_end (I.ok.hd hc) st hxi fun h' eb => ⟨rfl, I.turned (t' := s.toks) (fun b o hb e => eb b o hb e) f0 f1 f3 f4 f5⟩
    · exact wpAny_pyNext_wide_end (I.ok.hd hc) st hxi fun h' eb => ⟨rfl, I.turned (t' := s.toks) (fun b o hb e => eb b o hb e) f0 f1 f3 f4 f5⟩
  self := fun _ _ _ _ _ st h => by
    rcases hty with rfl | rfl
    · exact wpAny_pyIter_striter_ascii st h
    · exact wpAny_pyIter_striter_wide st h
theorem zUL {tg l : Expr} {tl : TE} (hl : PE X l tl) : PI X tg l (iStr tl) := by
  intro pins s σ H R I h
  refine thn (hl pins s σ H _ I h) fun v s1 ⟨x, H1, I1, r1, q1⟩ => ?_
  obtain ⟨cs, e, q⟩ := q1
  subst e
  obtain ⟨t, rfl⟩ := r1
  have fp : ∀ (o : Obj), ∀ b ∈ [s1.heap.objs.size], nW X pins H1 b := fun o b hb => by
    have e : b = s1.heap.objs.size := by simpa using hb
    subst e
    exact I1.fpOk (Nat.le_refl _) (I1.hok.fresh (Nat.le_refl _))
  cases ha : (mkS cs).cps.all (· < 128)
  · refine wpAny_pyIter_wide ha ?_
    exact ⟨s1.heap.objs.size, [s1.heap.objs.size], _, _, H1, rfl, I1.kept (t' := s1.toks) fun b o e => Heap.get?_push_of_some _ e, zHV _ "str_iterator" cs t (.inr rfl), ⟨_, Heap.get?_push_size _ rfl, rfl, rfl⟩, fp default, q⟩
  · refine wpAny_pyIter_ascii ha ?_
    exact ⟨s1.heap.objs.size, [s1.heap.objs.size], _, _, H1, rfl, I1.kept (t' := s1.toks) fun b o e => Heap.get?_push_of_some _ e, zHV _ "str_ascii_iterator" cs t (.inl rfl), ⟨_, Heap.get?_push_size _ rfl, rfl, rfl⟩, fp default, q⟩
end
end L2
namespace L2
open PySem PySem.Spec PyProof.Rows
section
variable {X : Cx}
theorem zOJ {elt tg iter : Expr} {ifs : List Expr} {pos : Pos} {sc : Scope} {wi : TI} {g : TG} {tc : Addr → Shared → Hp → List Addr → TT} {te : Addr → Shared → Hp → List Addr → TE} (T : List Str) (idx : List Nat)
    (hi : PI X tg iter wi) (hcalm : X.calm = true) (hB : zCX X.env.scope X.N sc idx = true)
    (hg : ∀ C s₂ H1 fp, PG (zJ X sc T idx C s₂ H1 fp) tg g)
    (hc : ∀ C s₂ H1 fp, zMO (zJ X sc T idx C s₂ H1 fp) ifs (tc C s₂ H1 fp))
    (he : ∀ C s₂ H1 fp, PE (zJ X sc T idx C s₂ H1 fp) elt (te C s₂ H1 fp))
    (hs : ∀ x, foldedSetIterable iter X.env x = pure x := by intro _; rfl)
    {pins : List (Addr × Obj)} {s : Shared} {σ : St} {H : Hp} {Q : VK} {use : Value → Sem Unit} {Q' : Value → Shared → Prop} (I : Inv X pins σ H s) (h : zOG wi g tc te T.length idx σ H Q)
    (fin : ∀ (D C : Addr) (s4 : Shared) (H' : Hp), Inv X pins σ H' s4 → nW X pins H' C → (∃ m, s4.heap.Ns C m) → Q (.ref D) H' →
      wpAny (model X.prog X.w) X.A (use (.ref D)) (fun _ s'' => ∃ m, s''.heap.Ns C m ∧ ∀ h', Heap.SameBut C s''.heap h' → Q' .none { s'' with heap := h' }) X.xe s4) :
    wpAny (model X.prog X.w) X.A (comprehension (.ListComp elt [⟨tg, iter, ifs, 0⟩] sc pos) sc X.env (firstIterPos [⟨tg, iter, ifs, 0⟩] pos) (newList []) false (eval iter X.env) (some use)) Q' X.xe s := by
  have cf := zLB hB
  refine wpAny_comprehension_free (use := some use) (cl := gC X.env sc.names []) rfl hs (nJ (zCY I cf)) cf.kind cf.locs ?_
  refine thn (hi pins s σ H _ I h) fun v s1 h1 => thn h1 fun itv s2 h2 => ?_
  obtain ⟨it, fp, tn, J, H2, e, I2, Tn, st2, f2, W, ⟨m0, w0⟩, turn⟩ := h2
  subst e
  have hlt : ∀ b ∈ fp, b < s2.heap.objs.size := fun b hb => let ⟨o, e, _⟩ := Tn.obj _ _ st2 b hb; Heap.lt_size e
  refine wpAny_newObj_type (wpAny_newFunctionEnv cf.nocell (by intro y hy; simp at hy) (fun h₁ hns₁ hsb₁ => ?_) cf.kind)
  dsimp only at hns₁ hsb₁ ⊢
  generalize hH2 : s2.heap.push { cls := .type "list", dict := none, data := .seq ([] : List Value).toArray } = HH at hns₁ hsb₁ ⊢
  have hC : HH.objs.size = s2.heap.objs.size + 1 := by rw [← hH2, Heap.size_push]
  have hDC : s2.heap.objs.size ≠ HH.objs.size := by rw [hC]; exact Nat.ne_of_lt (Nat.lt_succ_self _)
  have hCle : s2.heap.objs.size ≤ HH.objs.size := by rw [hC]; exact Nat.le_succ _
  have old : ∀ b o, s2.heap.get? b = some o → h₁.get? b = some o := fun b o e => hsb₁.extBut b o (by rw [hC]; exact Nat.ne_of_lt (Nat.lt_succ_of_lt (Heap.lt_size e))) (Heap.get?_push_of_some _ (hH2 ▸ Heap.get?_push_of_some _ e))
  have eD0 : h₁.get? s2.heap.objs.size = some { cls := .type "list", data := .seq ([] : List Value).toArray 0 } := hsb₁.extBut _ _ hDC (Heap.get?_push_of_some _ (hH2 ▸ Heap.get?_push_size _ rfl))
  have nD0 : H2 s2.heap.objs.size = none := I2.hok.fresh (Nat.le_refl _)
  have cD : ∀ x c, (gC X.env sc.names []).lookup x = some c → c ≠ s2.heap.objs.size := fun x c e => by
    obtain ⟨v, q⟩ := I2.cell x c (yY I2 cf e)
    exact Nat.ne_of_lt q.lt
  have loop : ∀ s4 : Shared, s4 = { s2 with heap := h₁, toks := s2.toks + ([] : List (Str × Value)).length } →
      codeAny (model X.prog X.w) X.A (.compLoop (.ListComp elt [⟨tg, iter, ifs, 0⟩] sc pos) 0 (.ref it) (.ref s2.heap.objs.size) (compEnvC sc (gC X.env sc.names []) HH.objs.size X.env))
        (compPost (model X.prog X.w) X.A X.xe (some use) Q' (.ref s2.heap.objs.size) HH.objs.size) s4 := by
    rintro s4 rfl
    have J0 : Inv (zJ X sc T idx HH.objs.size s2 H2 fp) [] (T.map (fun _ => none) ++ cV σ idx) H2 { s2 with heap := h₁, toks := s2.toks + ([] : List (Str × Value)).length } :=
      zCZ I2 cf hCle f2 hlt old rfl rfl hns₁
    refine zAH (fun k s' => ∃ (i : Nat) (ys : List V) (its : List Value) (n : Nat) (H' : Hp) (τ : St), Inv (zJ X sc T idx HH.objs.size s2 H2 fp) [] (τ ++ cV σ idx) H' s' ∧ τ.length = T.length ∧ tn i s'.heap ∧ (∀ b ∈ fp, H' b = none) ∧
      s'.heap.get? s2.heap.objs.size = some { cls := .type "list", data := .seq its.toArray n } ∧ H' s2.heap.objs.size = none ∧ Vals ys its ∧ W i k ys H') ?_ m0
      ⟨0, [], [], 0, H2, T.map (fun _ => none), J0, by rw [List.length_map], Tn.keep _ _ _ st2 fun b _ o e => old b o e, fun b hb => (f2 b hb).1, eD0, nD0, .nil, w0⟩
    rintro k s3 ⟨i, ys, its, n, H3, τ, I3, hτ, st3, fr3, eD3, nD3, r3, w3⟩
    obtain ⟨hz, alt⟩ := turn i k ys H3 w3
    have hDfs : s2.heap.objs.size ∉ (zJ X sc T idx HH.objs.size s2 H2 fp).fs := fun z => by
      obtain ⟨_, o, ho, _⟩ := I2.stack.mem (show s2.heap.objs.size ∈ frs X.stack from z)
      exact absurd (Heap.lt_size ho) (Nat.lt_irrefl _)
    have pinD : ∀ {H' : Hp} {s' : Shared}, s'.heap.get? s2.heap.objs.size = some { cls := .type "list", data := .seq its.toArray n } → H' s2.heap.objs.size = none →
        ∀ p ∈ [(s2.heap.objs.size, ({ cls := .type "list", data := .seq its.toArray n } : Obj))], s'.heap.get? p.1 = some p.2 ∧ H' p.1 = none ∧ p.1 ≠ (zJ X sc T idx HH.objs.size s2 H2 fp).env.locals ∧ p.1 ∉ (zJ X sc T idx HH.objs.size s2 H2 fp).fs ∧ ∀ v, p.2.data ≠ .cell v :=
      fun {H' s'} e1 e2 p hp => by
        have ep : p = (s2.heap.objs.size, { cls := .type "list", data := .seq its.toArray n }) := by simpa using hp
        subst ep
        exact ⟨e1, e2, hDC, hDfs, fun v z => by cases z⟩
    have P3 : Inv (zJ X sc T idx HH.objs.size s2 H2 fp) [(s2.heap.objs.size, { cls := .type "list", data := .seq its.toArray n })] (τ ++ cV σ idx) H3 s3 := I3.pins_of (pinD eD3 nD3)
    have stat : ∀ {H' : Hp}, (∀ b ∈ fp, H' b = none) → ∀ b ∈ fp, nW (zJ X sc T idx HH.objs.size s2 H2 fp) [(s2.heap.objs.size, { cls := .type "list", data := .seq its.toArray n })] H' b := fun {H'} hn b hb => by
      have hb2 := hlt b hb
      refine ⟨hn b hb, Nat.ne_of_lt (Nat.lt_of_lt_of_le hb2 hCle), I3.ok.exfs b hb, .inl hb, fun x c e => (f2 b hb).2.2.2.2.1 x c (yY I2 cf e), fun p hp => ?_⟩
      have ep : p = (s2.heap.objs.size, ({ cls := .type "list", data := .seq its.toArray n } : Obj)) := by simpa [zJ] using hp
      subst ep
      exact Nat.ne_of_gt hb2
    rcases alt with ⟨stop, q⟩ | ⟨go, hl2, step⟩
    · refine thn (Tn.done (zJ X sc T idx HH.objs.size s2 H2 fp) rfl rfl rfl hcalm i _ s3 _ H3 (fun _ _ => False) P3 (stat fr3) st3 stop) fun r s4 ⟨hr, I4⟩ => ?_
      subst hr
      obtain ⟨m, hn, _⟩ := id I4.loc
      have eD4 := (I4.pin (s2.heap.objs.size, { cls := .type "list", data := .seq its.toArray n }) (by simp)).1
      have J4 := zDA I2 hCle f2 (I4.pins_of (fun p hp => nomatch hp)) (Heap.SameBut.refl _ _) (Nat.le_refl _) hDC eD4 nD3 r3 hz
      exact fin _ _ s4 _ J4 (I2.fpOk hCle (by rw [zP (Ne.symm hDC)]; exact I4.free)) ⟨m, hn⟩ (q _ nD3)
    · refine thn (Tn.item (zJ X sc T idx HH.objs.size s2 H2 fp) rfl rfl rfl hcalm i _ s3 _ H3 (fun _ _ => False) P3 (stat fr3) st3 go) fun r s4 ⟨u, hr, h4⟩ => ?_
      subst hr
      refine thn h4 fun _ s5 ⟨x, H5, I5, r5, y5, st5, fr5⟩ => ?_
      have I5' := I5.pinned (stat fr5) (Tn.obj _ _ st5)
      refine thn (hg HH.objs.size s2 H2 fp _ s5 _ H5 x u _ I5' r5 (step x H5 y5 τ hτ)) fun _ s6 ⟨σ6, H6, I6, ⟨τ', e6, l6⟩, q6⟩ => ?_
      subst e6
      refine thn (hc HH.objs.size s2 H2 fp _ s6 _ H6 _ I6 (q6 HH.objs.size s2 fp)) fun ok s7 ⟨H7, I7, q7⟩ => ?_
      have mD : (s2.heap.objs.size, ({ cls := .type "list", data := .seq its.toArray n } : Obj)) ∈ (zJ X sc T idx HH.objs.size s2 H2 fp).pn ++ ([(s2.heap.objs.size, { cls := .type "list", data := .seq its.toArray n })] ++ cT fp s5.heap) :=
        List.mem_append_right _ (List.mem_append_left _ (by simp))
      have mF : ∀ b ∈ fp, ∀ o, s5.heap.get? b = some o → (b, o) ∈ (zJ X sc T idx HH.objs.size s2 H2 fp).pn ++ ([(s2.heap.objs.size, { cls := .type "list", data := .seq its.toArray n })] ++ cT fp s5.heap) := fun b hb o e =>
        List.mem_append_right _ (List.mem_append_right _ (bJ hb e))
      cases ok with
      | false =>
        rw [if_neg Bool.false_ne_true] at q7 ⊢
        obtain ⟨m', hm', w7⟩ := q7
        refine ⟨m', hm', i + 1, ys, its, n, H7, τ', I7.pins_of (fun p hp => nomatch hp), l6, Tn.keep _ _ _ st5 fun b hb o e => (I7.pin _ (mF b hb o e)).1, fun b hb => ?_, (I7.pin _ mD).1, (I7.pin _ mD).2.1, r3, w7⟩
        obtain ⟨o, e, d⟩ := Tn.obj _ _ st5 b hb
        exact (I7.pin _ (mF b hb o e)).2.1
      | true =>
        rw [if_pos rfl] at q7 ⊢
        refine thn (he HH.objs.size s2 H2 fp _ s7 _ H7 _ I7 q7) fun y s8 ⟨yv, H8, I8, r8, m', hm', w8⟩ => ?_
        have eD8 := (I8.pin _ mD).1
        have nD8 := (I8.pin _ mD).2.1
        have hl := r3.length
        have q := PySem.IsL.update eD8 (fun z => z.push y)
        rw [show its.toArray.push y = (its ++ [y]).toArray by simp] at q
        refine call_meets PySem.F.slot_list_append ⟨_, eD8, rfl⟩ PySem.F.entry_list_append (PySem.F.args_list_append_2 _ _) (PySem.list_append s2.heap.objs.size its.toArray n y (by rw [List.size_toArray]; omega)) ⟨eD8, ?_⟩
        have I9 : Inv (zJ X sc T idx HH.objs.size s2 H2 fp) [] (τ' ++ cV σ idx) H8 s8 := I8.pins_of (fun p hp => nomatch hp)
        have up : ∀ b o, b ≠ s2.heap.objs.size → s8.heap.get? b = some o → (s8.heap.update s2.heap.objs.size (Obj.mapSeq fun z => z.push y)).get? b = some o := fun b o hb e => (Heap.get?_update_other s8.heap _ (Ne.symm hb)).trans e
        refine ⟨m', hm', i + 1, ys ++ [yv], its ++ [y], _, H8, τ', I9.turned (t' := s8.toks) up nD8 hDC (.inr (Nat.le_refl _)) cD (fun p hp => nomatch hp), l6, ?_, fun b hb => ?_, q, nD8, r3.append (.cons r8 .nil), w8⟩
        · exact Tn.keep _ _ _ st5 fun b hb o e => up b o (Nat.ne_of_lt (hlt b hb)) (I8.pin _ (mF b hb o e)).1
        · obtain ⟨o, e, d⟩ := Tn.obj _ _ st5 b hb
          exact (I8.pin _ (mF b hb o e)).2.1
  exact codeAny_compStart_list (loop _ rfl) (Tn.self X.A 0 _ _ _ (Tn.keep _ _ _ st2 fun b _ o e => old b o e) (loop _ rfl))
noncomputable def PU (X : Cx) (e : Expr) (t : TE) : Prop := ∀ (i : Nat) (x : Str) (pos' pos : Pos), X.N.Nodup → X.N[i]? = some x → Loc X.env.scope x → (X.fn x = true ∨ X.env.scope.names.lookup x = some .local) →
  swapsWith e (some (.Name x pos')) pos.line X.env = pure true → PS X (.Assign [.Name x pos'] e pos) (tAsg t (zNS i))
theorem zRH {elt tg iter : Expr} {ifs : List Expr} {pos : Pos} {sc : Scope} {wi : TI} {g : TG} {tc : Addr → Shared → Hp → List Addr → TT} {te : Addr → Shared → Hp → List Addr → TE} (T : List Str) (idx : List Nat)
    (hi : PI X tg iter wi) (hcalm : X.calm = true) (hB : zCX X.env.scope X.N sc idx = true)
    (hg : ∀ C s₂ H1 fp, PG (zJ X sc T idx C s₂ H1 fp) tg g)
    (hc : ∀ C s₂ H1 fp, zMO (zJ X sc T idx C s₂ H1 fp) ifs (tc C s₂ H1 fp))
    (he : ∀ C s₂ H1 fp, PE (zJ X sc T idx C s₂ H1 fp) elt (te C s₂ H1 fp))
    (hs : ∀ x, foldedSetIterable iter X.env x = pure x := by intro _; rfl) :
    PU X (.ListComp elt [⟨tg, iter, ifs, 0⟩] sc pos) (zOG wi g tc te T.length idx) := by
  intro i x pos' spos hN hix hx hf hsw pins s σ H D I h
  rw [exec_Assign_Name_used _ _ _ _ hsw]
  refine wpAny_bind (wpAny_standAt (wpAny_bind ?_))
  rw [arm_evalThenUse_ListComp]
  refine wpAny_bind (thn (zOJ T idx hi hcalm hB hg hc he hs (use := assign (.Name x pos') X.env) (Q' := fun _ s' => ∃ σ' H', Inv X pins σ' H' s' ∧ D.nx σ' H') I h fun Dd C s4 H' I4 fo hm q => ?_) fun _ s' hq => wpAny_pure (wpAny_pure hq))
  refine wpAny_assign_Name (zFC I4 hN hix hx (show RelV (.ref Dd) (.ref Dd) from rfl) (fun s' I' ⟨a, hs', ha⟩ => ?_) hf)
  obtain ⟨m, hm⟩ := hm
  have hCa : C ≠ a := by
    rintro rfl
    rcases ha with ha | ha
    · exact fo.2.1 ha
    · exact fo.2.2.2.2.1 x _ ha rfl
  refine ⟨m, hm.sameBut hs' hCa, fun h' hs'' => ⟨_, H', ?_, q⟩⟩
  exact I'.turned (t' := s'.toks) (fun b o hb e => (hs''.2 b hb).trans e) fo.1 fo.2.1 fo.2.2.2.1 fo.2.2.2.2.1 fo.2.2.2.2.2
end
end L2
namespace L2
namespace M
open PySem PySem.Spec PyProof.Rows
theorem zUM {A : Around} {s : Shared} {y x : V} {u v : Value} (ry : RelV y u) (rx : RelV x v) (fy : yW y = true) (fx : yW x = true) : SeqAt.RcAt A s u v (eqV y x) := by
  cases y with
  | non =>
    cases ry
    cases x with
    | non => cases rx; exact SeqAt.RcAt.none_none
    | bl b => cases rx; exact SeqAt.RcAt.none_bool b
    | int b => obtain ⟨t, rfl⟩ := rx; exact SeqAt.RcAt.none_int b t
    | str b => obtain ⟨t, rfl⟩ := rx; exact SeqAt.RcAt.none_str b t
    | _ => exact absurd (show false = true from fx) Bool.false_ne_true
  | bl a =>
    cases ry
    cases x with
    | non => cases rx; exact SeqAt.RcAt.bool_none a
    | bl b => cases rx; exact SeqAt.RcAt.bool_bool a b
    | int b => obtain ⟨t, rfl⟩ := rx; exact SeqAt.RcAt.bool_int a b t
    | str b => obtain ⟨t, rfl⟩ := rx; exact SeqAt.RcAt.bool_str a b t
    | _ => exact absurd (show false = true from fx) Bool.false_ne_true
  | int a =>
    obtain ⟨t', rfl⟩ := ry
    cases x with
    | non => cases rx; exact SeqAt.RcAt.int_none a t'
    | bl b => cases rx; exact SeqAt.RcAt.int_bool a t' b
    | int b => obtain ⟨t, rfl⟩ := rx; exact SeqAt.RcAt.int_int a t' b t
    | str b => obtain ⟨t, rfl⟩ := rx; exact SeqAt.RcAt.int_str a t' b t
    | _ => exact absurd (show false = true from fx) Bool.false_ne_true
  | str a =>
    obtain ⟨t', rfl⟩ := ry
    cases x with
    | non => cases rx; exact SeqAt.RcAt.str_none a t'
    | bl b => cases rx; exact SeqAt.RcAt.str_bool a t' b
    | int b => obtain ⟨t, rfl⟩ := rx; exact SeqAt.RcAt.str_int a t' b t
    | str b => obtain ⟨t, rfl⟩ := rx; exact SeqAt.RcAt.str_str a t' b t
    | _ => exact absurd (show false = true from fx) Bool.false_ne_true
  | _ => exact absurd (show false = true from fy) Bool.false_ne_true
theorem zUN {A : Around} {s : Shared} {y x : V} {u v : Value} (ry : RelV y u) (rx : RelV x v) (fy : yW y = true) (fx : yW x = true) : SeqAt.RcNeAt A s u v (!eqV y x) := by
  cases y with
  | non =>
    cases ry
    cases x with
    | non => cases rx; exact SeqAt.RcNeAt.none_none
    | bl b => cases rx; exact SeqAt.RcNeAt.none_bool b
    | int b => obtain ⟨t, rfl⟩ := rx; exact SeqAt.RcNeAt.none_int b t
    | str b => obtain ⟨t, rfl⟩ := rx; exact SeqAt.RcNeAt.none_str b t
    | _ => exact absurd (show false = true from fx) Bool.false_ne_true
  | bl a =>
    cases ry
    cases x with
    | non => cases rx; exact SeqAt.RcNeAt.bool_none a
    | bl b => cases rx; exact SeqAt.RcNeAt.bool_bool a b
    | int b => obtain ⟨t, rfl⟩ := rx; exact SeqAt.RcNeAt.bool_int a b t
    | str b => obtain ⟨t, rfl⟩ := rx; exact SeqAt.RcNeAt.bool_str a b t
    | _ => exact absurd (show false = true from fx) Bool.false_ne_true
  | int a =>
    obtain ⟨t', rfl⟩ := ry
    cases x with
    | non => cases rx; exact SeqAt.RcNeAt.int_none a t'
    | bl b => cases rx; exact SeqAt.RcNeAt.int_bool a t' b
    | int b => obtain ⟨t, rfl⟩ := rx; exact SeqAt.RcNeAt.int_int a t' b t
    | str b => obtain ⟨t, rfl⟩ := rx; exact SeqAt.RcNeAt.int_str a t' b t
    | _ => exact absurd (show false = true from fx) Bool.false_ne_true
  | str a =>
    obtain ⟨t', rfl⟩ := ry
    cases x with
    | non => cases rx; exact SeqAt.RcNeAt.str_none a t'
    | bl b => cases rx; exact SeqAt.RcNeAt.str_bool a t' b
    | int b => obtain ⟨t, rfl⟩ := rx; exact SeqAt.RcNeAt.str_int a t' b t
    | str b => obtain ⟨t, rfl⟩ := rx; exact SeqAt.RcNeAt.str_str a t' b t
    | _ => exact absurd (show false = true from fx) Bool.false_ne_true
  | _ => exact absurd (show false = true from fy) Bool.false_ne_true
theorem eq_ll {A : Around} {s : Shared} {x : V} {v : Value} {l : Addr} {items : Array Value} (rx : RelV x v) (fx : yW x = true) (hl : s.heap.IsList l items) (hu : A.units < cLine) : SeqAt.EqAt A s (.ref l) v false := by
  cases x with
  | non => cases rx; exact SeqAt.EqAt.list_none hl hu
  | bl b => cases rx; exact SeqAt.EqAt.list_bool b hl hu
  | int b => obtain ⟨t, rfl⟩ := rx; exact SeqAt.EqAt.list_int b t hl hu
  | str b => obtain ⟨t, rfl⟩ := rx; exact SeqAt.EqAt.list_str b t hl hu
  | _ => exact absurd (show false = true from fx) Bool.false_ne_true
theorem eq_lr {A : Around} {s : Shared} {x : V} {v : Value} {l : Addr} {items : Array Value} (rx : RelV x v) (fx : yW x = true) (hl : s.heap.IsList l items) (hu : A.units < cLine) : SeqAt.EqAt A s v (.ref l) false := by
  cases x with
  | non => cases rx; exact SeqAt.EqAt.none_list hl hu
  | bl b => cases rx; exact SeqAt.EqAt.bool_list b hl hu
  | int b => obtain ⟨t, rfl⟩ := rx; exact SeqAt.EqAt.int_list b t hl hu
  | str b => obtain ⟨t, rfl⟩ := rx; exact SeqAt.EqAt.str_list b t hl hu
  | _ => exact absurd (show false = true from fx) Bool.false_ne_true
theorem zSX {A : Around} {s : Shared} {x : V} {v : Value} {l : Addr} {items : Array Value} (rx : RelV x v) (fx : yW x = true) (hl : s.heap.IsTuple l items) (hu : A.units < cLine) : SeqAt.EqAt A s (.ref l) v false := by
  cases x with
  | non => cases rx; exact SeqAt.EqAt.tuple_none hl hu
  | bl b => cases rx; exact SeqAt.EqAt.tuple_bool b hl hu
  | int b => obtain ⟨t, rfl⟩ := rx; exact SeqAt.EqAt.tuple_int b t hl hu
  | str b => obtain ⟨t, rfl⟩ := rx; exact SeqAt.EqAt.tuple_str b t hl hu
  | _ => exact absurd (show false = true from fx) Bool.false_ne_true
theorem zSY {A : Around} {s : Shared} {x : V} {v : Value} {l : Addr} {items : Array Value} (rx : RelV x v) (fx : yW x = true) (hl : s.heap.IsTuple l items) (hu : A.units < cLine) : SeqAt.EqAt A s v (.ref l) false := by
  cases x with
  | non => cases rx; exact SeqAt.EqAt.none_tuple hl hu
  | bl b => cases rx; exact SeqAt.EqAt.bool_tuple b hl hu
  | int b => obtain ⟨t, rfl⟩ := rx; exact SeqAt.EqAt.int_tuple b t hl hu
  | str b => obtain ⟨t, rfl⟩ := rx; exact SeqAt.EqAt.str_tuple b t hl hu
  | _ => exact absurd (show false = true from fx) Bool.false_ne_true
theorem rc_ll {A : Around} {s : Shared} {x : V} {v : Value} {l : Addr} {items : Array Value} (rx : RelV x v) (fx : yW x = true) (hl : s.heap.IsList l items) (hu : A.units < cLine) : SeqAt.RcAt A s (.ref l) v false := by
  cases x with
  | non => cases rx; exact SeqAt.RcAt.list_none hl hu
  | bl b => cases rx; exact SeqAt.RcAt.list_bool b hl hu
  | int b => obtain ⟨t, rfl⟩ := rx; exact SeqAt.RcAt.list_int b t hl hu
  | str b => obtain ⟨t, rfl⟩ := rx; exact SeqAt.RcAt.list_str b t hl hu
  | _ => exact absurd (show false = true from fx) Bool.false_ne_true
theorem rc_lr {A : Around} {s : Shared} {x : V} {v : Value} {l : Addr} {items : Array Value} (rx : RelV x v) (fx : yW x = true) (hl : s.heap.IsList l items) (hu : A.units < cLine) : SeqAt.RcAt A s v (.ref l) false := by
  cases x with
  | non => cases rx; exact SeqAt.RcAt.none_list hl hu
  | bl b => cases rx; exact SeqAt.RcAt.bool_list b hl hu
  | int b => obtain ⟨t, rfl⟩ := rx; exact SeqAt.RcAt.int_list b t hl hu
  | str b => obtain ⟨t, rfl⟩ := rx; exact SeqAt.RcAt.str_list b t hl hu
  | _ => exact absurd (show false = true from fx) Bool.false_ne_true
theorem rc_tl {A : Around} {s : Shared} {x : V} {v : Value} {l : Addr} {items : Array Value} (rx : RelV x v) (fx : yW x = true) (hl : s.heap.IsTuple l items) (hu : A.units < cLine) : SeqAt.RcAt A s (.ref l) v false := by
  cases x with
  | non => cases rx; exact SeqAt.RcAt.tuple_none hl hu
  | bl b => cases rx; exact SeqAt.RcAt.tuple_bool b hl hu
  | int b => obtain ⟨t, rfl⟩ := rx; exact SeqAt.RcAt.tuple_int b t hl hu
  | str b => obtain ⟨t, rfl⟩ := rx; exact SeqAt.RcAt.tuple_str b t hl hu
  | _ => exact absurd (show false = true from fx) Bool.false_ne_true
theorem rc_tr {A : Around} {s : Shared} {x : V} {v : Value} {l : Addr} {items : Array Value} (rx : RelV x v) (fx : yW x = true) (hl : s.heap.IsTuple l items) (hu : A.units < cLine) : SeqAt.RcAt A s v (.ref l) false := by
  cases x with
  | non => cases rx; exact SeqAt.RcAt.none_tuple hl hu
  | bl b => cases rx; exact SeqAt.RcAt.bool_tuple b hl hu
  | int b => obtain ⟨t, rfl⟩ := rx; exact SeqAt.RcAt.int_tuple b t hl hu
  | str b => obtain ⟨t, rfl⟩ := rx; exact SeqAt.RcAt.str_tuple b t hl hu
  | _ => exact absurd (show false = true from fx) Bool.false_ne_true
theorem rn_ll {A : Around} {s : Shared} {x : V} {v : Value} {l : Addr} {items : Array Value} (rx : RelV x v) (fx : yW x = true) (hl : s.heap.IsList l items) (hu : A.units < cLine) : SeqAt.RcNeAt A s (.ref l) v true := by
  cases x with
  | non => cases rx; exact SeqAt.RcNeAt.list_none hl hu
  | bl b => cases rx; exact SeqAt.RcNeAt.list_bool b hl hu
  | int b => obtain ⟨t, rfl⟩ := rx; exact SeqAt.RcNeAt.list_int b t hl hu
  | str b => obtain ⟨t, rfl⟩ := rx; exact SeqAt.RcNeAt.list_str b t hl hu
  | _ => exact absurd (show false = true from fx) Bool.false_ne_true
theorem rn_lr {A : Around} {s : Shared} {x : V} {v : Value} {l : Addr} {items : Array Value} (rx : RelV x v) (fx : yW x = true) (hl : s.heap.IsList l items) (hu : A.units < cLine) : SeqAt.RcNeAt A s v (.ref l) true := by
  cases x with
  | non => cases rx; exact SeqAt.RcNeAt.none_list hl hu
  | bl b => cases rx; exact SeqAt.RcNeAt.bool_list b hl hu
  | int b => obtain ⟨t, rfl⟩ := rx; exact SeqAt.RcNeAt.int_list b t hl hu
  | str b => obtain ⟨t, rfl⟩ := rx; exact SeqAt.RcNeAt.str_list b t hl hu
  | _ => exact absurd (show false = true from fx) Bool.false_ne_true
theorem rn_tl {A : Around} {s : Shared} {x : V} {v : Value} {l : Addr} {items : Array Value} (rx : RelV x v) (fx : yW x = true) (hl : s.heap.IsTuple l items) (hu : A.units < cLine) : SeqAt.RcNeAt A s (.ref l) v true := by
  cases x with
  | non => cases rx; exact SeqAt.RcNeAt.tuple_none hl hu
  | bl b => cases rx; exact SeqAt.RcNeAt.tuple_bool b hl hu
  | int b => obtain ⟨t, rfl⟩ := rx; exact SeqAt.RcNeAt.tuple_int b t hl hu
  | str b => obtain ⟨t, rfl⟩ := rx; exact SeqAt.RcNeAt.tuple_str b t hl hu
  | _ => exact absurd (show false = true from fx) Bool.false_ne_true
theorem rn_tr {A : Around} {s : Shared} {x : V} {v : Value} {l : Addr} {items : Array Value} (rx : RelV x v) (fx : yW x = true) (hl : s.heap.IsTuple l items) (hu : A.units < cLine) : SeqAt.RcNeAt A s v (.ref l) true := by
  cases x with
  | non => cases rx; exact SeqAt.RcNeAt.none_tuple hl hu
  | bl b => cases rx; exact SeqAt.RcNeAt.bool_tuple b hl hu
  | int b => obtain ⟨t, rfl⟩ := rx; exact SeqAt.RcNeAt.int_tuple b t hl hu
  | str b => obtain ⟨t, rfl⟩ := rx; exact SeqAt.RcNeAt.str_tuple b t hl hu
  | _ => exact absurd (show false = true from fx) Bool.false_ne_true
theorem zOK {y : V} (h : yW y = true) : eqV y y = true := by
  cases y <;> first | rfl | (simp [eqV]; done) | exact absurd (show false = true from h) Bool.false_ne_true
inductive NK where
  | key (k : Key) | tup (ks : List NK)
noncomputable instance : DecidableEq NK := fun _ _ => Classical.propDecidable _
section
variable {prog : Program} {w : World} (knd : KeyKind prog w Key)
mutual
noncomputable def isN (h : Heap) : NK → Value → Prop
  | .key k, v => knd.is k v = true
  | .tup ks, v => ∃ a o items n, v = .ref a ∧ h.get? a = some o ∧ o.cls = .type "tuple" ∧ o.data = .seq items n ∧ nH h ks items.toList
noncomputable def nH (h : Heap) : List NK → List Value → Prop
  | [], vs => vs = []
  | k :: ks, vs => ∃ v r, vs = v :: r ∧ isN h k v ∧ nH h ks r
end
mutual
noncomputable def cW : NK → Int
  | .key k => knd.hash k
  | .tup ks => reduceHash (Builtin.Tuple.tupleHashOf (zDC ks))
noncomputable def zDC : List NK → List Int
  | [] => []
  | k :: ks => cW k :: zDC ks
end
mutual
noncomputable def zDD : NK → Nat
  | .key _ => 1
  | .tup ks => wT ks + 1
noncomputable def wT : List NK → Nat
  | [] => 0
  | k :: ks => zDD k + wT ks
end
mutual
noncomputable def zCB : NK → Nat
  | .key _ => 0
  | .tup ks => zBV ks + 1
noncomputable def zBV : List NK → Nat
  | [] => 0
  | k :: ks => max (zCB k) (zBV ks)
end
variable {knd}
theorem xW {h : Heap} {k : Key} {v : Value} : isN knd h (.key k) v ↔ knd.is k v = true := by unfold isN; exact Iff.rfl
theorem yS {h : Heap} {ks : List NK} {v : Value} : isN knd h (.tup ks) v ↔ ∃ a o items n, v = .ref a ∧ h.get? a = some o ∧ o.cls = .type "tuple" ∧ o.data = .seq items n ∧ nH knd h ks items.toList := by
  conv => lhs; unfold isN
theorem xA {h : Heap} {vs : List Value} : nH knd h [] vs ↔ vs = [] := by unfold nH; exact Iff.rfl
theorem zW {h : Heap} {k : NK} {ks : List NK} {vs : List Value} : nH knd h (k :: ks) vs ↔ ∃ v r, vs = v :: r ∧ isN knd h k v ∧ nH knd h ks r := by
  conv => lhs; unfold nH
mutual
theorem zGJ {h : Heap} : ∀ {x y : NK} {v : Value}, isN knd h x v → isN knd h y v → x = y
  | .key k, .key k', v, hx, hy => by rw [knd.inj v k k' (xW.mp hx) (xW.mp hy)]
  | .key k, .tup ks, v, hx, hy => by
    obtain ⟨a, o, items, n, rfl, _⟩ := yS.mp hy
    have := knd.byValue _ _ (xW.mp hx)
    simp [carriedByValue] at this
  | .tup ks, .key k, v, hx, hy => by
    obtain ⟨a, o, items, n, rfl, _⟩ := yS.mp hx
    have := knd.byValue _ _ (xW.mp hy)
    simp [carriedByValue] at this
  | .tup ks, .tup ks', v, hx, hy => by
    obtain ⟨a, o, items, n, e, ho, _, hd, hi⟩ := yS.mp hx
    obtain ⟨a', o', items', n', e', ho', _, hd', hi'⟩ := yS.mp hy
    rw [e] at e'
    cases e'
    obtain rfl : o = o' := Option.some.inj (ho.symm.trans ho')
    rw [hd] at hd'
    injection hd' with h1 _
    subst h1
    rw [zHW hi hi']
theorem zHW {h : Heap} : ∀ {xs ys : List NK} {vs : List Value}, nH knd h xs vs → nH knd h ys vs → xs = ys
  | [], [], _, _, _ => rfl
  | [], y :: ys, vs, hx, hy => by
    obtain ⟨v, r, e, _⟩ := zW.mp hy
    rw [xA.mp hx] at e; cases e
  | x :: xs, [], vs, hx, hy => by
    obtain ⟨v, r, e, _⟩ := zW.mp hx
    rw [xA.mp hy] at e; cases e
  | x :: xs, y :: ys, vs, hx, hy => by
    obtain ⟨v, r, e, h1, h2⟩ := zW.mp hx
    obtain ⟨v', r', e', h1', h2'⟩ := zW.mp hy
    rw [e] at e'
    cases e'
    rw [zGJ h1 h1', zHW h2 h2']
end
mutual
theorem zHX {h h' : Heap} (m : ∀ a o items n, h.get? a = some o → o.data = .seq items n → h'.get? a = some o) : ∀ {x : NK} {v : Value}, isN knd h x v → isN knd h' x v
  | .key k, v, hx => xW.mpr (xW.mp hx)
  | .tup ks, v, hx => by
    obtain ⟨a, o, items, n, e, ho, hc, hd, hi⟩ := yS.mp hx
    exact yS.mpr ⟨a, o, items, n, e, m a o items n ho hd, hc, hd, zFJ m hi⟩
theorem zFJ {h h' : Heap} (m : ∀ a o items n, h.get? a = some o → o.data = .seq items n → h'.get? a = some o) : ∀ {xs : List NK} {vs : List Value}, nH knd h xs vs → nH knd h' xs vs
  | [], vs, hx => xA.mpr (xA.mp hx)
  | x :: xs, vs, hx => by
    obtain ⟨v, r, e, h1, h2⟩ := zW.mp hx
    exact zW.mpr ⟨v, r, e, zHX m h1, zFJ m h2⟩
end
theorem zDE : ∀ ks : List NK, zDC knd ks = ks.map (cW knd)
  | [] => by unfold zDC; rfl
  | k :: ks => by unfold zDC; rw [zDE ks]; rfl
theorem nX : wT [] = 0 := by rw [wT]
theorem cX (k : NK) (ks : List NK) : wT (k :: ks) = zDD k + wT ks := by rw [wT]
theorem zDF (k : NK) (ks : List NK) : zBV (k :: ks) = max (zCB k) (zBV ks) := by rw [zBV]
theorem gZ (ks : List NK) : zCB (.tup ks) = zBV ks + 1 := by rw [zCB]
theorem nK : ∀ (xs ys : List NK), wT (xs ++ ys) = wT xs + wT ys
  | [], ys => by rw [nX, List.nil_append, Nat.zero_add]
  | x :: xs, ys => by rw [List.cons_append, cX, cX, nK xs ys]; omega
theorem zAJ {s : Shared} {ks : List NK} {a : Addr} (h : isN knd s.heap (.tup ks) (.ref a)) : s.TypeIs (.ref a) "tuple" := by
  obtain ⟨a', o, items, n, e, ho, hc, _⟩ := yS.mp h
  cases e
  exact ⟨o, ho, hc⟩
theorem zHY : ∀ (n : Nat) {A : Around} {E : Value → Shared → Prop} {s : Shared} {k : NK} {v : Value} {Q : Int → Shared → Prop}, zCB k ≤ n → A.units + n < cLine → isN knd s.heap k v → Q (cW knd k) { s with toks := s.toks + zDD k } → wpAny (model prog w) A (pyHash v) Q E s
  | n, A, E, s, .key k, v, Q, _, _, hk, h => knd.pyHash (xW.mp hk) (by rw [cW, zDD] at h; exact h)
  | 0, A, E, s, .tup ks, v, Q, hd, _, _, _ => by rw [gZ] at hd; omega
  | n + 1, A, E, s, .tup ks, v, Q, hdep, hu, hk, h => by
    obtain ⟨a, o, items, m, rfl, ho, hc, hd, hi⟩ := yS.mp hk
    have hT : s.TypeIs (.ref a) "tuple" := ⟨o, ho, hc⟩
    rw [gZ] at hdep
    have hdl : ∀ k ∈ ks, zCB k ≤ n := by
      have : ∀ ks : List NK, zBV ks ≤ n → ∀ k ∈ ks, zCB k ≤ n := by
        intro ks
        induction ks with
        | nil => intro _ k hk; simp at hk
        | cons x xs ih =>
          intro hx k hk
          rw [zDF] at hx
          rcases List.mem_cons.mp hk with rfl | hk
          · omega
          · exact ih (by omega) k hk
      exact this ks (by omega)
    rw [cW, zDD, zDE] at h
    unfold pyHash
    first | unfold pyHashByItsType | skip
    first | refine wpAny_bind (wpAny_cRoomFor_or (.inr (show A.units < cLine by omega)) ?_) | skip
    refine wpAny_bind (wpAny_specialOf hT F.slot_tuple_hash.lookup ?_)
    show wpAny _ _ (if (some (Value.builtin "tuple.__hash__") == some Value.none) = true then _ else _) Q E s
    rw [if_neg (by rw [beq_builtin_none]; exact Bool.false_ne_true)]
    refine wpAny_bind (wpAny_specialOf hT F.slot_tuple_hash.lookup ?_)
    show wpAny _ _ (callSpecialIfBoundUnlessNone? (.ref a) "__hash__" _ >>= _) Q E s
    refine wpAny_bind (wpAny_callSpecialIfBoundUnlessNone?_slot hT F.slot_tuple_hash (wpAny_call_entry F.slot_tuple_hash hT F.entry_tuple_hash ?_ (F.args_tuple_hash_1 _)))
    show wpAny _ _ (Builtin.Tuple.tupleItemsOf (.ref a) >>= _) _ _ s
    refine wpAny_bind (wpAny_tupleItemsOf ho hd ?_)
    refine wpAny_bind ?_
    rw [← Array.forIn_toList]
    refine wpAny_forIn_list _
      (fun rest (b : Array Int) s' => ∃ done left, ks = done ++ left ∧ nH knd s.heap left rest ∧ b.toList = done.map (cW knd) ∧ s' = { s with toks := s.toks + wT done })
      _ ?_ ?_ _ _ ⟨[], ks, rfl, hi, rfl, by rw [nX]; rfl⟩
    · rintro x rest b s' ⟨done, left, rfl, hl, hb, rfl⟩
      cases left with
      | nil => rw [xA] at hl; cases hl
      | cons k ks' =>
        obtain ⟨v, r, e, h1, hl'⟩ := zW.mp hl
        cases e
        refine wpAny_bind (zHY n (hdl k (by simp)) (show A.units + 1 + n < cLine by omega) h1 ?_)
        have e1 : wT (done ++ [k]) = wT done + zDD k := by rw [nK, cX, nX]; rfl
        first
          | exact wpAny_pure ⟨done ++ [k], ks', by simp, hl', by simp [hb], by simp [Nat.add_assoc, e1]⟩
          | exact wpAny_bind (wpAny_pure (wpAny_pure ⟨done ++ [k], ks', by simp, hl', by simp [hb], by simp [Nat.add_assoc, e1]⟩))
    · rintro b s' ⟨done, left, rfl, hl, hb, rfl⟩
      cases left with
      | cons k ks' => obtain ⟨v, r, e, _⟩ := zW.mp hl; cases e
      | nil =>
        rw [List.append_nil] at h
        show wpAny _ _ (retInt (Builtin.Tuple.tupleHashOf b.toList)) _ _ _
        rw [hb]
        refine wpAny_ret_mkInt ?_
        show wpAny _ _ (if (decide (-(2 : Int) ^ 63 ≤ Builtin.Tuple.tupleHashOf (done.map (cW knd))) && decide (Builtin.Tuple.tupleHashOf (done.map (cW knd)) < 2 ^ 63)) = true then _ else _) Q E _
        unfold reduceHash at h
        by_cases hr : (decide (-(2 : Int) ^ 63 ≤ Builtin.Tuple.tupleHashOf (done.map (cW knd))) && decide (Builtin.Tuple.tupleHashOf (done.map (cW knd)) < 2 ^ 63)) = true
        · rw [if_pos hr]
          rw [if_pos hr] at h
          exact wpAny_pure (by simpa [Nat.add_assoc] using h)
        · rw [if_neg hr]
          rw [if_neg hr] at h
          exact wpAny_bind (wpAny_rule (wpAny_pure (by simpa [Nat.add_assoc] using h)))
end
section
variable {prog : Program} {w : World}
abbrev mk (prog : Program) (w : World) : KeyKind prog w Key := zCH prog w
theorem zRI (a b : Key) : decide (NK.key a = NK.key b) = decide (a = b) := by
  by_cases h : a = b
  · subst h; simp
  · rw [decide_eq_false h, decide_eq_false fun z => h (NK.key.inj z)]
theorem zUO (a : Key) (b : List NK) : decide (NK.key a = NK.tup b) = false := decide_eq_false fun z => nomatch z
theorem zUP (a : Key) (b : List NK) : decide (NK.tup b = NK.key a) = false := decide_eq_false fun z => nomatch z
theorem zUQ (a b : List NK) : decide (NK.tup a = NK.tup b) = decide (a = b) := by
  by_cases h : a = b
  · subst h; simp
  · rw [decide_eq_false h, decide_eq_false fun z => h (NK.tup.inj z)]
theorem zHZ {k : Key} {v : Value} (h : (mk prog w).is k v = true) : ∃ x : V, RelV x v ∧ yW x = true := by
  rcases yD (show zNO k v = true from h) with ⟨i, t, rfl, rfl⟩ | ⟨x, t, rfl, rfl⟩
  · exact ⟨.int i, ⟨t, rfl⟩, rfl⟩
  · exact ⟨.str x, ⟨t, rfl⟩, rfl⟩
theorem zMR {A : Around} {E : Value → Shared → Prop} {s : Shared} {x y : List NK} {a b : Addr} {P : Fin → Shared → Prop}
    (he : ∀ k1 ∈ x, ∀ k2 u v (Q : Bool → Shared → Prop), isN (mk prog w) s.heap k1 u → isN (mk prog w) s.heap k2 v → Q (decide (k1 = k2)) s → wpAny (model prog w) A (eqBool u v) Q E s)
    (hx : isN (mk prog w) s.heap (.tup x) (.ref a)) (hy : isN (mk prog w) s.heap (.tup y) (.ref b)) (h : P (.done (.ret (.bool (decide (x = y))))) s) :
    wpAny (model prog w) A (Builtin.«tuple.__eq__» ⟨[.ref a, .ref b], []⟩) P E s := by
  have hTb := zAJ hy
  obtain ⟨_, oa, xs, na, e, hoa, _, hda, hia⟩ := yS.mp hx
  cases e
  obtain ⟨_, ob, ys, nb, e, hob, _, hdb, hib⟩ := yS.mp hy
  cases e
  show wpAny _ _ (isInstance (.ref b) (.type "tuple") >>= _) _ _ s
  refine wpAny_bind (wpAny_isInstance hTb isSubtype_tuple_tuple ?_)
  simp only [Bool.not_true, Bool.false_eq_true, if_false]
  refine wpAny_bind (wpAny_tupleItemsOf hoa hda ?_)
  refine wpAny_bind (wpAny_tupleItemsOf hob hdb ?_)
  refine wpAny_bind ?_
  refine wpAny_forIn_list _
    (fun rest r s' => r.1 = none ∧ s' = s ∧ ∃ x' y' xs' ys', rest = List.zip xs' ys' ∧ (∀ k ∈ x', k ∈ x) ∧ nH (mk prog w) s.heap x' xs' ∧ nH (mk prog w) s.heap y' ys' ∧ decide (x' = y') = decide (x = y) ∧ (xs'.length == ys'.length) = (xs.size == ys.size))
    _ ?_ ?_ _ _ ⟨rfl, rfl, x, y, xs.toList, ys.toList, rfl, fun k hk => hk, hia, hib, rfl, by simp⟩
  · rintro ⟨u, v⟩ rest r s' ⟨hr, rfl, x', y', xs', ys', hz, hm, hx', hy', hdec, hlen⟩
    cases x' with
    | nil => rw [xA.mp hx'] at hz; simp at hz
    | cons k1 x'' =>
      cases y' with
      | nil => rw [xA.mp hy'] at hz; simp at hz
      | cons k2 y'' =>
        obtain ⟨u', xs'', rfl, h1, hx''⟩ := zW.mp hx'
        obtain ⟨v', ys'', rfl, h2, hy''⟩ := zW.mp hy'
        simp only [List.zip_cons_cons, List.cons.injEq, Prod.mk.injEq] at hz
        obtain ⟨⟨rfl, rfl⟩, rfl⟩ := hz
        refine wpAny_bind (he k1 (hm k1 List.mem_cons_self) k2 _ _ _ h1 h2 ?_)
        by_cases hk : k1 = k2
        · subst hk
          rw [decide_eq_true rfl]
          simp only [Bool.not_true, Bool.false_eq_true, if_false]
          refine wpAny_pure ⟨rfl, rfl, x'', y'', xs'', ys'', rfl, fun k hk => hm k (List.mem_cons_of_mem _ hk), hx'', hy'', ?_, by simpa using hlen⟩
          rw [← hdec]
          by_cases hxy : x'' = y''
          · simp [hxy]
          · simp [hxy]
        · rw [decide_eq_false hk]
          simp only [Bool.not_false, if_true]
          have hf : decide (x = y) = false := by rw [← hdec]; simp [hk]
          rw [hf] at h
          exact wpAny_bind (wpAny_pure (wpAny_pure (wpAny_pure h)))
  · rintro ⟨r1, r2⟩ s' ⟨hr, rfl, x', y', xs', ys', hz, hm, hx', hy', hdec, hlen⟩
    simp only at hr
    subst hr
    refine wpAny_pure ?_
    have hfin : (xs.size == ys.size) = decide (x = y) := by
      rw [← hdec, ← hlen]
      cases x' with
      | nil =>
        rw [xA.mp hx']
        cases y' with
        | nil => rw [xA.mp hy']; simp
        | cons k2 y'' => obtain ⟨v', ys'', rfl, h2, hy''⟩ := zW.mp hy'; simp
      | cons k1 x'' =>
        obtain ⟨u', xs'', rfl, h1, hx''⟩ := zW.mp hx'
        cases y' with
        | nil => rw [xA.mp hy']; simp
        | cons k2 y'' => obtain ⟨v', ys'', rfl, h2, hy''⟩ := zW.mp hy'; simp at hz
    show P (.done (.ret (.bool (xs.size == ys.size)))) s'
    rw [hfin]; exact h
theorem zDG {n : Nat} : ∀ {ks : List NK}, zBV ks ≤ n → ∀ k ∈ ks, zCB k ≤ n
  | [], _, k, hk => by simp at hk
  | x :: xs, hx, k, hk => by
    rw [zDF] at hx
    rcases List.mem_cons.mp hk with rfl | hk
    · omega
    · exact zDG (by omega) k hk
theorem zIA : ∀ (n : Nat) {A : Around} {E : Value → Shared → Prop} {s : Shared} {x y : NK} {u v : Value} {Q : Bool → Shared → Prop}, zCB x ≤ n → A.units + n < cLine → isN (mk prog w) s.heap x u → isN (mk prog w) s.heap y v → Q (decide (x = y)) s → wpAny (model prog w) A (eqBool u v) Q E s
  | n, A, E, s, .key a, .key b, u, v, Q, _, _, hx, hy, h => (mk prog w).eqBool (xW.mp hx) (xW.mp hy) (by rw [zRI] at h; exact h)
  | n, A, E, s, .key a, .tup b, u, v, Q, _, hu, hx, hy, h => by
    obtain ⟨z, rz, fz⟩ := zHZ (xW.mp hx)
    obtain ⟨l, o, items, m, rfl, ho, hc, hd, _⟩ := yS.mp hy
    rw [zUO] at h
    exact zSY rz fz (items := items) ⟨o, ho, hc, m, hd⟩ (by omega) prog w E Q h
  | n, A, E, s, .tup a, .key b, u, v, Q, _, hu, hx, hy, h => by
    obtain ⟨z, rz, fz⟩ := zHZ (xW.mp hy)
    obtain ⟨l, o, items, m, rfl, ho, hc, hd, _⟩ := yS.mp hx
    rw [zUP] at h
    exact zSX rz fz (items := items) ⟨o, ho, hc, m, hd⟩ (by omega) prog w E Q h
  | 0, A, E, s, .tup a, .tup b, u, v, Q, hd, _, hx, hy, h => by rw [gZ] at hd; omega
  | n + 1, A, E, s, .tup x, .tup y, u, v, Q, hd, hu, hx, hy, h => by
    obtain ⟨a, _, _, _, ea, _⟩ := yS.mp hx
    obtain ⟨b, _, _, _, eb, _⟩ := yS.mp hy
    subst ea eb
    rw [gZ] at hd
    rw [zUQ] at h
    unfold eqBool
    try with_reducible refine wpAny_holding ?_
    show wpAny _ _ (if (Value.ref a == Value.ref b) = true then _ else _) Q E s
    by_cases hab : (Value.ref a == Value.ref b) = true
    · rw [if_pos hab]
      have e : a = b := by have := eq_of_beq hab; injection this
      subst e
      have : x = y := NK.tup.inj (zGJ hx hy)
      subst this
      exact wpAny_bind (wpAny_rule (wpAny_pure (by simpa using h)))
    · rw [if_neg hab]
      refine wpAny_bind (wpAny_richCompare_same_room (op := .Eq) (zAJ hx) (zAJ hy) F.slot_tuple_eq
        (wpAny_call_entry F.slot_tuple_eq (zAJ hx) F.entry_tuple_eq (zMR (fun k1 hk1 k2 u v Q h1 h2 h3 => zIA n (zDG (by omega) k1 hk1) (show A.units + 1 + n < cLine by omega) h1 h2 h3) hx hy ⟨_, rfl, (fun e => nomatch e), wpAny_truthy_bool h⟩) (F.args_tuple_eq_2 _ _)) (by omega))
theorem zLD : ∀ (n m : Nat) {A : Around} {E : Value → Shared → Prop} {s : Shared} {x : NK} {u : Value} {Q : Bool → Shared → Prop}, zCB x ≤ n → n < m → isN (mk prog w) s.heap x u → Q true s → wpAny (model prog w) A (eqIsQuiet m u) Q E s
  | n, m, A, E, s, .key k, u, Q, _, _, hx, h => by
    rw [eqIsQuiet_byValue m ((mk prog w).byValue _ _ (xW.mp hx))]
    exact wpAny_pure h
  | 0, m, A, E, s, .tup ks, u, Q, hd, _, hx, h => by rw [gZ] at hd; omega
  | n + 1, 0, A, E, s, .tup ks, u, Q, hd, hm, hx, h => by omega
  | n + 1, m + 1, A, E, s, .tup ks, u, Q, hdp, hm, hx, h => by
    obtain ⟨a, o, items, j, rfl, ho, hc, hd, hi⟩ := yS.mp hx
    have hT : s.TypeIs (.ref a) "tuple" := ⟨o, ho, hc⟩
    rw [gZ] at hdp
    unfold eqIsQuiet
    refine wpAny_bind (wpAny_specialOf hT F.slot_tuple_eq.lookup ?_)
    show wpAny _ _ (isInstance (.ref a) (.type "tuple") >>= _) _ _ s
    refine wpAny_bind (wpAny_isInstance hT isSubtype_tuple_tuple ?_)
    simp only [Bool.not_true, Bool.false_eq_true, if_false]
    refine wpAny_bind (wpAny_seqItems ho hd ?_)
    refine wpAny_bind ?_
    show wpAny _ _ (forIn items _ _) _ _ s
    rw [← Array.forIn_toList]
    refine wpAny_forIn_list _ (fun rest r s' => r.1 = none ∧ s' = s ∧ ∃ left, (∀ k ∈ left, k ∈ ks) ∧ nH (mk prog w) s.heap left rest) _ ?_ ?_ _ _ ⟨rfl, rfl, ks, fun k hk => hk, hi⟩
    · rintro v rest r s' ⟨hr, rfl, left, hm', hl⟩
      cases left with
      | nil => rw [xA] at hl; cases hl
      | cons k left =>
        obtain ⟨v', r', e, h1, h2⟩ := zW.mp hl
        cases e
        refine wpAny_bind (zLD n m (zDG (by omega) k (hm' k List.mem_cons_self)) (by omega) h1 ?_)
        simp only [Bool.not_true, Bool.false_eq_true, if_false]
        exact wpAny_pure ⟨rfl, rfl, left, fun k hk => hm' k (List.mem_cons_of_mem _ hk), h2⟩
    · rintro ⟨r1, r2⟩ s' ⟨hr, rfl, _⟩
      simp only at hr
      subst hr
      exact wpAny_pure h
end
noncomputable def zOL (prog : Program) (w : World) : HeapKind prog w NK where
  is := fun h k a => isN (mk prog w) h k (.ref a) ∧ zCB k ≤ 4
  hash := cW (mk prog w)
  draws := zDD
  room := fun A => A.units + 4 < cLine
  inj := fun hx hy => zGJ hx.1 hy.1
  keeps := fun x ho hd hs => ⟨zHX (fun a o' items n e q => (hs.2 a fun z => by
    subst z
    rw [ho] at e; cases e
    rw [hd] at q; cases q).trans e) x.1, x.2⟩
  pyHash := fun hu hk h => zHY 4 hk.2 hu hk.1 h
  eqBool := fun hu hx hy h => zIA 4 hx.2 hu hx.1 hy.1 h
  quiet := fun hk h => zLD 4 8 hk.2 (by decide) hk.1 h
noncomputable def DN (P : Program) (w : World) (a : Addr) (xs : List (NK × Addr × Value)) : HO :=
  .ext fun h => xs.length ≤ sizeLine ∧ (a == sysModules) = false ∧ ∃ o es ep, h.get? a = some o ∧ o.ExactDict ∧ o.data = .dict es ep ∧ es.toList = xs.map (entryOfKey (zOL P w)) ∧ (xs.map (·.1)).Nodup
end M
end L2
namespace L2
open PySem PySem.Spec PyProof.Rows
noncomputable def Fly (h : Heap) (e T : Addr) (cls : Value) (d : Option Addr) (fl : Value) : Prop :=
  ∃ oe vs oT ts, h.get? e = some oe ∧ oe.cls = cls ∧ oe.dict = d ∧ oe.data = .fields vs ∧ vs[1]? = some (.ref T) ∧ T ≠ e ∧ h.get? T = some oT ∧ oT.data = .fields ts ∧ ts[3]? = some fl
noncomputable def Born (h : Heap) (e : Addr) (cls : Value) (d : Option Addr) : Prop := ∃ oe vs, h.get? e = some oe ∧ oe.cls = cls ∧ oe.dict = d ∧ oe.data = .fields vs ∧ vs[1]? = some .none
structure Mvd (fs : List Addr) (e T : Addr) (h h' : Heap) : Prop where
  keep : ∀ b o, b ≠ e → b ≠ T → b ∉ fs → h.get? b = some o → h'.get? b = some o
  slot : ∀ b o, b ≠ e → b ≠ T → h.get? b = some o → ∃ sl, h'.get? b = some { o with slots := sl }
  there : ∀ b o, h.get? b = some o → ∃ o', h'.get? b = some o'
theorem Mvd.new {fs : List Addr} {e T T' : Addr} {h h1 h2 : Heap} (a : Mvd fs e T h h1) (n : h.get? T' = none) (b : Mvd fs e T' h1 h2) : Mvd fs e T h h2 := by
  have ne : ∀ c o, h.get? c = some o → c ≠ T' := fun c o q z => by rw [z, n] at q; cases q
  exact ⟨fun c o h1 h2 h3 q => b.keep c o h1 (ne c o q) h3 (a.keep c o h1 h2 h3 q), fun c o h1 h2 q => by
    obtain ⟨sl, e1⟩ := a.slot c o h1 h2 q
    obtain ⟨sl', e2⟩ := b.slot c _ h1 (ne c o q) e1
    exact ⟨sl', e2⟩, fun c o q => let ⟨o', e1⟩ := a.there c o q; b.there c o' e1⟩
theorem zDH (f : Array Value → Array Value) (o : Obj) : (Obj.mapFields f o).dict = o.dict := by
  obtain ⟨c, d, dt, sl⟩ := o; cases dt <;> rfl
section
variable {M : Model} {A : Around} {E : Value → Shared → Prop} {s : Shared} {base : Heap} {env : Env} {outer : List Env} {L e T : Addr} {cls : Value} {d : Option Addr} {Q : Unit → Shared → Prop}
theorem zOM {oe : Obj} {vs : Array Value} {head : Value} {hadNext : Bool} (hfr : A.frames = some (env :: outer)) (hl : s.heap.FunFrames base (env :: outer)) (hf : env.frame = some L)
    (he : s.heap.get? e = some oe) (hd : oe.data = .fields vs) (hsz : 1 < vs.size)
    (h : ∀ h' T', s.heap.get? T' = none → Mvd (frs (env :: outer)) e e s.heap h' → Fly h' e T' oe.cls oe.dict (rawInt L) → Q () { s with heap := h' }) :
    wpAny M A (do let a ← frameOf env; let pl ← entryPlaceOf L hadNext; let b ← EntryCells.newEntry head a .none (rawInt L) .none pl; setField (.ref e) 1 b) Q E s := by
  have hene : e ∉ (env :: outer).filterMap (·.frame) := fun hm => by
    obtain ⟨_, o, ho, hnf⟩ := hl.mem hm
    rw [he] at ho; injection ho with ho; subst ho; exact hnf vs hd
  refine wpAny_bind (wpAny_frameOf_fun hfr hl hf fun h₁ hs₁ => ?_)
  refine wpAny_bind (wpAny_entryPlaceOf fun pl hpl => ?_)
  unfold EntryCells.newEntry newFields
  refine wpAny_bind (wpAny_newObj_type ?_ (hpl.sizeOk5 _ _ _ _ _))
  have he₁ : h₁.get? e = some oe := (hs₁.2.1 e hene).trans he
  have he₂ := Heap.get?_push_of_some (h := h₁) { cls := .type "traceback", dict := none, data := .fields ([head, .ref L, .none, rawInt L, .none] ++ (if pl.isEmpty then List.replicate 6 Value.none else pl)).toArray } he₁
  refine wpAny_setField he₂ hd hsz ?_
  have hTe : h₁.objs.size ≠ e := Nat.ne_of_gt (Heap.lt_size he₁)
  have hd₃ := Obj.data_mapFields hd (·.setIfInBounds 1 (Value.ref h₁.objs.size))
  have he₃ := Heap.get?_update_self (Obj.mapFields (·.setIfInBounds 1 (Value.ref h₁.objs.size))) he₂ (Obj.isFreed_of_fields hd₃)
  have hT₃ := (Heap.get?_update_other (h₁.push { cls := .type "traceback", dict := none, data := .fields ([head, .ref L, .none, rawInt L, .none] ++ (if pl.isEmpty then List.replicate 6 Value.none else pl)).toArray })
    (Obj.mapFields (·.setIfInBounds 1 (Value.ref h₁.objs.size))) (Ne.symm hTe)).trans (Heap.get?_push_size h₁ rfl)
  have keep : ∀ b o, b ≠ e → h₁.get? b = some o →
      ((h₁.push { cls := .type "traceback", dict := none, data := .fields ([head, .ref L, .none, rawInt L, .none] ++ (if pl.isEmpty then List.replicate 6 Value.none else pl)).toArray }).update e (Obj.mapFields (·.setIfInBounds 1 (Value.ref h₁.objs.size)))).get? b = some o :=
    fun b o hbe hb => by
      rw [Heap.get?_update_other _ _ (Ne.symm hbe)]
      exact Heap.get?_push_of_some _ hb
  refine h _ h₁.objs.size ?_ ⟨fun b o hbe _ hbf hb => keep b o hbe ((hs₁.2.1 b hbf).trans hb), fun b o hbe _ hb => ?_, fun b o hb => ?_⟩ ?_
  · cases q : s.heap.get? h₁.objs.size with
    | none => rfl
    | some o =>
      obtain ⟨sl, hs⟩ := hs₁.2.2 _ o q
      exact absurd (Heap.lt_size hs) (Nat.lt_irrefl _)
  · obtain ⟨sl, hs⟩ := hs₁.2.2 b o hb
    exact ⟨sl, keep b _ hbe hs⟩
  · by_cases hbe : b = e
    · subst hbe; exact ⟨_, he₃⟩
    · obtain ⟨sl, hs⟩ := hs₁.2.2 b o hb
      exact ⟨_, keep b _ hbe hs⟩
  · exact ⟨_, _, _, _, he₃, Obj.cls_mapFields _ _, zDH _ _, hd₃, by simp [hsz], hTe, hT₃, rfl, by first | (simp; done) | (rcases hpl with rfl | ⟨_, _, _, _, _, _, _, rfl⟩ <;> simp)⟩
theorem zJT (hfr : A.frames = some (env :: outer)) (hl : s.heap.FunFrames base (env :: outer)) (hf : env.frame = some L) (hb : Born s.heap e cls d)
    (h : ∀ h' T', s.heap.get? T' = none → Mvd (frs (env :: outer)) e e s.heap h' → Fly h' e T' cls d (rawInt L) → Q () { s with heap := h' }) : wpAny M A (noteFrame (.ref e) env) Q E s := by
  obtain ⟨oe, vs, he, rfl, rfl, hd, h1⟩ := hb
  unfold noteFrame
  simp only [hf]
  refine wpAny_bind (wpAny_field he hd h1 ?_)
  rw [if_neg (by decide)]
  exact zOM hfr hl hf he hd (Array.getElem?_eq_some_iff.mp h1).1 h
theorem setT {oT : Obj} {ts : Array Value} {x : Value} {h0 : Heap} (hT : h0.get? T = some oT) (hdT : oT.data = .fields ts) : Mvd (frs (env :: outer)) e T h0 (h0.update T (Obj.mapFields (·.setIfInBounds 3 x))) := by
  have other : ∀ b, b ≠ T → (h0.update T (Obj.mapFields (·.setIfInBounds 3 x))).get? b = h0.get? b := fun b hb => Heap.get?_update_other _ _ (Ne.symm hb)
  refine ⟨fun b o _ hbT _ hb => (other b hbT).trans hb, fun b o _ hbT hb => ⟨o.slots, (other b hbT).trans hb⟩, fun b o hb => ?_⟩
  by_cases hbT : b = T
  · subst hbT
    exact ⟨_, Heap.get?_update_self _ hT (Obj.isFreed_of_fields (Obj.data_mapFields hdT _))⟩
  · exact ⟨o, (other b hbT).trans hb⟩
theorem zFK (hfr : A.frames = some (env :: outer)) (hl : s.heap.FunFrames base (env :: outer)) (hf : env.frame = some L) (hb : Fly s.heap e T cls d .none)
    (h : ∀ h' T', s.heap.get? T' = none → Mvd (frs (env :: outer)) e T s.heap h' → Fly h' e T' cls d (rawInt L) → Q () { s with heap := h' }) : wpAny M A (noteFrame (.ref e) env) Q E s := by
  obtain ⟨oe, vs, oT, ts, he, rfl, rfl, hd, h1, hTe, hT, hdT, h3⟩ := hb
  unfold noteFrame
  simp only [hf]
  refine wpAny_bind (wpAny_field he hd h1 ?_)
  rw [if_pos (show (Value.ref T != Value.none) = true from by simp)]
  refine wpAny_bind (wpAny_field hT hdT h3 ?_)
  rw [if_neg (show ¬ ((Value.none == rawInt L) = true) from by simp [rawInt])]
  refine wpAny_bind (wpAny_setField hT hdT (Array.getElem?_eq_some_iff.mp h3).1 ?_)
  have mv := setT (env := env) (outer := outer) (e := e) (x := Value.none) hT hdT
  have other : ∀ b, b ≠ T → (s.heap.update T (Obj.mapFields (·.setIfInBounds 3 Value.none))).get? b = s.heap.get? b := fun b hb => Heap.get?_update_other _ _ (Ne.symm hb)
  have noRecord : ∀ b o, s.heap.get? b = some o → (∀ vs, o.data ≠ .fields vs) → b ≠ T := fun b o hb hnf q => by
    rw [q, hT] at hb; injection hb with hb; subst hb; exact hnf ts hdT
  refine zOM (s := { s with heap := s.heap.update T (Obj.mapFields (·.setIfInBounds 3 Value.none)) }) hfr (hl.of_keeps fun b o hb hnf => ⟨o, (other b (noRecord b o hb hnf)).trans hb, rfl⟩) hf ((other e (Ne.symm hTe)).trans he) hd (Array.getElem?_eq_some_iff.mp h1).1
    fun h' T' n m f => h h' T' ?_ ⟨fun b o hbe hbT hbf hb => m.keep b o hbe hbe hbf (mv.keep b o hbe hbT hbf hb), fun b o hbe hbT hb => ?_, fun b o hb => ?_⟩ f
  · cases q : s.heap.get? T' with
    | none => rfl
    | some o =>
      obtain ⟨o', hs⟩ := mv.there _ o q
      have n' : (s.heap.update T (Obj.mapFields (·.setIfInBounds 3 Value.none))).get? T' = none := n
      rw [n'] at hs; cases hs
  · obtain ⟨sl, e1⟩ := mv.slot b o hbe hbT hb
    obtain ⟨sl', e2⟩ := m.slot b _ hbe hbe e1
    exact ⟨sl', e2⟩
  · obtain ⟨o', e1⟩ := mv.there b o hb
    exact m.there b o' e1
theorem gE {fl : Value} (hb : Fly s.heap e T cls d fl) (h : ∀ h', Mvd (frs (env :: outer)) e T s.heap h' → Fly h' e T cls d .none → Q () { s with heap := h' }) : wpAny M A (setFlight (.ref e) none) Q E s := by
  obtain ⟨oe, vs, oT, ts, he, rfl, rfl, hd, h1, hTe, hT, hdT, h3⟩ := hb
  have hsz3 : 3 < ts.size := (Array.getElem?_eq_some_iff.mp h3).1
  unfold setFlight
  refine wpAny_bind (wpAny_field he hd h1 ?_)
  rw [if_pos (show (Value.ref T != Value.none) = true from by simp)]
  refine wpAny_setField hT hdT hsz3 (h _ (setT hT hdT) ?_)
  exact ⟨oe, vs, _, _, (Heap.get?_update_other _ _ hTe).trans he, rfl, rfl, hd, h1, hTe, Heap.get?_update_self _ hT (Obj.isFreed_of_fields (Obj.data_mapFields hdT _)), Obj.data_mapFields hdT _, by simp [hsz3]⟩
theorem zIB (hfr : A.frames = some (env :: outer)) (hl : s.heap.FunFrames base (env :: outer)) (hf : env.frame = some L) (hb : Born s.heap e cls d)
    (h : ∀ h' T', s.heap.get? T' = none → Mvd (frs (env :: outer)) e e s.heap h' → Fly h' e T' cls d .none → Q () { s with heap := h' }) : wpAny M A (leaving env (.ref e)) Q E s := by
  unfold leaving
  refine wpAny_bind (zJT hfr hl hf hb fun h1 T' n m f => gE (env := env) (outer := outer) f fun h2 m2 f2 => h h2 T' n (m.new n m2) f2)
theorem zJU (hfr : A.frames = some (env :: outer)) (hl : s.heap.FunFrames base (env :: outer)) (hf : env.frame = some L) (hb : Fly s.heap e T cls d .none)
    (h : ∀ h' T', s.heap.get? T' = none → Mvd (frs (env :: outer)) e T s.heap h' → Fly h' e T' cls d .none → Q () { s with heap := h' }) : wpAny M A (leaving env (.ref e)) Q E s := by
  unfold leaving
  refine wpAny_bind (zFK hfr hl hf hb fun h1 T' n m f => gE (env := env) (outer := outer) f fun h2 m2 f2 => h h2 T' n (m.new n m2) f2)
end
end L2
namespace L2
open PySem PySem.Spec PyProof.Rows
theorem ObjOk.here {P : Program} {w : World} {H : Hp} {h : Heap} {a : Addr} {o : HO} (x : ObjOk P w H h a o) : ∃ ob, h.get? a = some ob := by
  cases o with
  | lst xs => obtain ⟨_, _, _, _, e⟩ := x; exact ⟨_, e⟩
  | tup xs => obtain ⟨_, _, _, ob, e, _⟩ := x; exact ⟨_, e⟩
  | dK kvs => obtain ⟨_, _, _, _, o, _, _, e, _⟩ := x; exact ⟨_, e⟩
  | dT kvs => obtain ⟨_, _, _, _, o, _, _, e, _⟩ := x; exact ⟨_, e⟩
  | set S n => obtain ⟨o, _, _, _, e, _⟩ := x; exact ⟨_, e⟩
  | ins C dx fs => obtain ⟨_, _, _, e, _⟩ := x; exact ⟨_, e⟩
  | own y => exact x
  | xd fs => obtain ⟨_, ⟨_, _, _, e, _⟩, _⟩ := x; exact ⟨_, e⟩
  | rng lo hi => obtain ⟨_, _, _, e⟩ := x; exact ⟨_, e⟩
  | frz ob u => obtain ⟨e, _⟩ := x; exact ⟨_, e⟩
  | tbl ps => exact ⟨_, (show h.get? a = some _ from x)⟩
  | met f y => exact ⟨_, (show h.get? a = some _ from x)⟩
  | ext φ => obtain ⟨_, e, _⟩ := x; exact e
theorem HOk.none_of {P : Program} {w : World} {H : Hp} {h : Heap} {a : Addr} (x : HOk P w H h) (n : h.get? a = none) : H a = none := by
  cases q : H a with
  | none => rfl
  | some u =>
    obtain ⟨ob, e⟩ := (x a u q).here
    rw [n] at e; cases e
section
variable {X : Cx} {pins : List (Addr × Obj)} {σ : St} {H : Hp} {s : Shared}
theorem Inv.older (J : Inv X pins σ H s) (hex : X.ex = []) {b : Addr} (n : s.heap.get? b = none) : X.s₀.heap.get? b = none := by
  cases q : X.s₀.heap.get? b with
  | none => rfl
  | some o =>
    obtain ⟨o', e⟩ := J.base.there b o q (by rw [hex]; simp)
    rw [n] at e; cases e
theorem Inv.moved {e T : Addr} {h' : Heap} (J : Inv X pins σ H s) (hex : X.ex = []) (m : Mvd (frs X.stack) e T s.heap h') (ne : X.s₀.heap.get? e = none) (nT : X.s₀.heap.get? T = none) (he : H e = none) (hT : H T = none) :
    Un X.fs [] X.H₀ H X.s₀.heap h' ∧ HOk X.prog X.w H h' := by
  have nex : ∀ b : Addr, b ∉ X.ex := fun b => by rw [hex]; simp
  have ne1 : ∀ b o, X.s₀.heap.get? b = some o → b ≠ e := fun b o q z => by rw [z, ne] at q; cases q
  have ne2 : ∀ b o, X.s₀.heap.get? b = some o → b ≠ T := fun b o q z => by rw [z, nT] at q; cases q
  refine ⟨⟨fun b o q n hb _ => ?_, fun b o q n hb _ => ?_, fun b o q n _ => J.base.free b o q n (nex b), fun b o q _ => ?_, J.base.tups, J.base.frzs, J.base.tbls⟩, fun b u q => (J.hok b u q).stay (fun c v hc r => ?_) (fun _ q => q) fun _ _ q => q⟩
  · refine m.keep b o (ne1 b o q) (ne2 b o q) (fun z => ?_) (J.base.keep b o q n hb (nex b))
    rcases List.mem_cons.mp (J.stkSub b z) with z | z
    · exact absurd z (Nat.ne_of_lt (Nat.lt_of_lt_of_le (Heap.lt_size q) J.ok.above))
    · exact hb z
  · obtain ⟨sl, e1⟩ := J.base.slot b o q n hb (nex b)
    obtain ⟨sl', e2⟩ := m.slot b _ (ne1 b o q) (ne2 b o q) e1
    exact ⟨sl', e2⟩
  · obtain ⟨o', e1⟩ := J.base.there b o q (nex b)
    exact m.there b o' e1
  · have hc' : ∃ z, H c = some z := by
      rcases hc with rfl | hc
      · exact ⟨_, q⟩
      · exact ⟨_, hc⟩
    obtain ⟨z, hz⟩ := hc'
    refine m.keep c v (fun y => by rw [y, he] at hz; cases hz) (fun y => by rw [y, hT] at hz; cases hz) (fun y => ?_) r
    rw [J.stkFree c y] at hz; cases hz
end
noncomputable def CXe (P : Program) (w : World) : CXT := fun outer H s E x s' => ∃ e T C d H', x = .ref e ∧ s'.os = s.os ∧ AllBare s'.gens ∧ Un (frs outer) [] H H' s.heap s'.heap ∧ HOk P w H' s'.heap ∧ Fly s'.heap e T (.ref C) d .none ∧
  s.heap.get? e = none ∧ s.heap.get? T = none ∧ H' e = none ∧ H' T = none ∧ E (.ref C) d H'
structure XOk (X : Cx) (E : XK) : Prop where
  pass : zGB (CXe X.prog X.w) X E
  born : ∀ (pins : List (Addr × Obj)) (σ : St) (H : Hp) (s : Shared) (e C : Addr) (d : Option Addr), Inv X pins σ H s → Born s.heap e (.ref C) d → X.s₀.heap.get? e = none → H e = none → E (.ref C) d H → X.xe (.ref e) s
section
variable {P : Program} {w : World} {K : PySem.W.Frag} {mg : Str → Option Value} {base : Heap} {N : List Str} {qual : Str} {scope : Scope} {f : Addr} {cd : Value} {A : Around} {outer : List Env} {s : Shared} {H : Hp} {E : XK}
theorem zON : XOk (zGC (CXe P w) P w K mg base N qual scope f cd A outer s H E) E := by
  refine ⟨fun pins σ H1 s1 x s2 I h => ?_, fun pins σ H1 s1 e C d J b ne he q => ?_⟩
  · obtain ⟨e, T, C, d, H', rfl, os, bare, un, hok, fl, ne, nT, he, hT, q⟩ := h
    have J : Inv _ pins σ H' s2 := I.call' (ch := []) os un hok bare (fun _ z => nomatch z)
    have ne' := I.older rfl ne
    have nT' := I.older rfl nT
    refine zJU J.ok.frames J.stack rfl fl fun h' T' n m f' => ?_
    obtain ⟨u, hk⟩ := J.moved rfl m ne' nT' he hT
    exact ⟨e, T', C, d, H', rfl, J.os, J.bare, u, hk, f', ne', J.older rfl n, he, J.hok.none_of n, q⟩
  · refine zIB J.ok.frames J.stack rfl b fun h' T' n m f' => ?_
    obtain ⟨u, hk⟩ := J.moved rfl m ne ne he he
    exact ⟨e, T', C, d, H1, rfl, J.os, J.bare, u, hk, f', ne, J.older rfl n, he, J.hok.none_of n, q⟩
end
end L2
namespace L2
open PySem PySem.Spec PyProof.Rows
abbrev bmV : List Value := [.type "ValueError", .type "Exception", .type "BaseException", .type "object"]
noncomputable def qn : List Str := ["__class__", "__getattribute__", "__getattr__"]
noncomputable def zBD (h : Heap) (C M : Addr) : Prop :=
  ∃ nm q N bs hd sn sub ab col dd k0 k1 k2 k3 k5 nw mN, h.get? C = some (excClassObj nm q C N bs (.ref M :: bmV) hd sn sub ab col dd k0 k1 k2 k3 k5 nw) ∧ h.Ns N mN ∧ (∀ n ∈ qn, mN n = none) ∧
    ∃ nm q N bs hd sn sub ab col dd k0 k1 k2 k3 k5 nw mN, h.get? M = some (excClassObj nm q M N bs bmV hd sn sub ab col dd k0 k1 k2 k3 k5 nw) ∧ h.Ns N mN ∧ (∀ n ∈ qn, mN n = none)
section
variable {Mo : Model} {A : Around} {E : Value → Shared → Prop} {h : Heap} {g : Array GenState} {d : Drawn} {t : Nat} {os : OsState} {C M : Addr}
theorem cY (O : zBD h C M) {base : Value} {Q : Bool → Shared → Prop} (hq : Q ((Value.ref C :: .ref M :: bmV).contains base) ⟨h, g, d, t, os⟩) : wpAny Mo A (isSubtype (.ref C) base) Q E ⟨h, g, d, t, os⟩ := by
  obtain ⟨nm, q, N, bs, hd, sn, sub, ab, col, dd, k0, k1, k2, k3, k5, nw, mN, hC, _⟩ := O
  exact wpAny_isSubtype_exc hC hq
theorem zGK (O : zBD h C M) {n : Str} (hn : n ∈ qn) {y : Option Value} (hB : typeLookup (.type "ValueError") n = pure y) {Q : Option Value → Shared → Prop} (hq : Q y ⟨h, g, d, t, os⟩) : wpAny Mo A (typeLookup (.ref C) n) Q E ⟨h, g, d, t, os⟩ := by
  obtain ⟨nm, q, N, bs, hd, sn, sub, ab, col, dd, k0, k1, k2, k3, k5, nw, mN, hC, hN, hmN, _, _, _, _, _, _, _, _, _, _, _, _, _, _, _, _, mM, hM, hNM, hmM⟩ := O
  have hrest : lookupAlong bmV n = pure y := by
    rw [typeLookup_eq, F.excBase_ValueError.mroIs] at hB
    exact hB
  rw [typeLookup_eq]
  refine wpAny_bind (wpAny_mroOf_exc hC ?_)
  rw [lookupAlong_cons]
  refine wpAny_bind (wpAny_classOwn_exc hC hN ?_)
  rw [hmN n hn, lookupAlong_cons]
  refine wpAny_bind (wpAny_classOwn_exc hM hNM ?_)
  rw [hmM n hn, hrest]
  exact wpAny_pure hq
theorem zOO (O : zBD h C M) : ∃ o, h.get? C = some o ∧ o.cls = .type "type" ∧ ∃ cd, o.data = .cls cd := by
  obtain ⟨_, _, _, _, _, _, _, _, _, _, _, _, _, _, _, _, _, hC, _⟩ := O
  exact ⟨_, hC, rfl, _, rfl⟩
end
theorem qn1 : ("__class__" : Str) ∈ qn := .head _
theorem qn2 : ("__getattribute__" : Str) ∈ qn := .tail _ (.head _)
theorem qn3 : ("__getattr__" : Str) ∈ qn := .tail _ (.tail _ (.head _))
theorem zOP : typeLookup (.type "ValueError") "__class__" = pure (some (.builtin "object.__class__")) := by rw [typeLookup_type, builtinLookup_eq_fast]; kernel_rfl
theorem lk_ga : typeLookup (.type "ValueError") "__getattribute__" = pure (some (.builtin "BaseException.__getattribute__")) := by rw [typeLookup_type, builtinLookup_eq_fast]; kernel_rfl
theorem zOQ : typeLookup (.type "ValueError") "__getattr__" = pure none := by rw [typeLookup_type, builtinLookup_eq_fast]; kernel_rfl
section
variable {prog : Program} {w : World} {A : Around} {E : Value → Shared → Prop} {h : Heap} {g : Array GenState} {d : Drawn} {t : Nat} {os : OsState} {C M a : Addr} {o : Obj}
theorem zJV {R : Result → Shared → Prop} (O : zBD h C M) (hx : h.get? a = some o) (hc : o.cls = .ref C) (hq : R (.ok (.ret (.ref C))) ⟨h, g, d, t, os⟩) :
    codeAny (model prog w) A (.call (.builtin "getset_descriptor.__get__") ⟨[.builtin "object.__class__", .ref a, .ref C], []⟩) R ⟨h, g, d, t, os⟩ := by
  have hT5 : (⟨h, g, d, t, os⟩ : Shared).TypeIs (.builtin "object.__class__") "getset_descriptor" := F.typeOf_object_class
  have ho : (Value.ref C :: .ref M :: bmV).contains (.type (".".intercalate ("object.__class__".cutAt '.').dropLast)) = true := by
    rw [F.owner_object_class]; simp [List.contains_cons]
  refine codeAny_call_builtin F.slot_gs_get.plain F.entry_gs_get (F.slot_gs_get.check _ _ _ _ _ _ _ _ hT5 (F.args_gs_get _ _ _) ?_)
  repeat (any_goals (first | assumption | (with_reducible refine wpAny_loadPart_at hx ?_; rw [hc]) | (with_reducible refine cY O ?_; rw [ho]) | wp_step))
  refine ⟨Code.quiet_builtin _ (by decide +kernel), codeAny_builtin F.entry_object_class ?_⟩
  repeat (any_goals (first | assumption | (with_reducible refine wpAny_loadPart_at hx ?_; rw [hc]) | wp_step))
theorem zMS {Mo : Model} {nameV : Value} {Q : Unit → Shared → Prop} (O : zBD h C M) (hx : h.get? a = some o) (hc : o.cls = .ref C) (hq : Q () ⟨h, g, d, t, os⟩) : wpAny Mo A (checkBuiltinCall "BaseException.__getattribute__" ⟨[.ref a, nameV], []⟩) Q E ⟨h, g, d, t, os⟩ := by
  have hk : builtinKind "BaseException.__getattribute__" = some .slot := by decide +kernel
  have hs : splitId "BaseException.__getattribute__" = some ("BaseException", "__getattribute__") := by decide +kernel
  have hb : (Value.ref C :: .ref M :: bmV).contains (.type "BaseException") = true := by simp [List.contains_cons]
  have ha := F.args_bexc_ga (.ref a) nameV
  simp only [checkBuiltinCall, hk, hs]
  refine wpAny_bind ?_
  unfold isInstance
  repeat (first | (with_reducible refine wpAny_loadPart_at hx ?_; rw [hc]) | (with_reducible refine cY O ?_; rw [hb]) | wp_step)
  exact hq
theorem zGL {tk : Tok} {Q : Fin → Shared → Prop} (O : zBD h C M) (hx : h.get? a = some o) (hc : o.cls = .ref C) (hq : Q (.done (.ret (.ref C))) ⟨h, g, d, t, os⟩) :
    wpAny (model prog w) A (Builtin.«object.__getattribute__» ⟨[.ref a, .str "__class__" tk], []⟩) Q E ⟨h, g, d, t, os⟩ := by
  have hT5 : (⟨h, g, d, t, os⟩ : Shared).TypeIs (.builtin "object.__class__") "getset_descriptor" := F.typeOf_object_class
  have f5 := F.typeOf_object_class
  have f6 := F.slot_gs_get.lookup
  have f7 := F.slot_gs_set.lookup
  repeat (any_goals (first | assumption | (with_reducible refine wpAny_loadPart_at hx ?_; rw [hc]) | with_reducible refine zGK O qn1 zOP ?_ | wp_step))
  refine zJV O hx hc ?_
  repeat (any_goals (first | assumption | wp_step))
theorem zIC {tk : Tok} {R : Result → Shared → Prop} (O : zBD h C M) (hx : h.get? a = some o) (hc : o.cls = .ref C) (hq : R (.ok (.ret (.ref C))) ⟨h, g, d, t, os⟩) :
    codeAny (model prog w) A (.call (.builtin "BaseException.__getattribute__") ⟨[.ref a, .str "__class__" tk], []⟩) R ⟨h, g, d, t, os⟩ :=
  codeAny_call_builtin F.attrBase_ValueError.ga.plain F.entry_bexc_ga (zMS O hx hc (zGL O hx hc hq))
theorem zMT {tk : Tok} {fill expr : Bool} {Q : Value → Shared → Prop} (O : zBD h C M) (hx : h.get? a = some o) (hc : o.cls = .ref C) (hq : Q (.ref C) ⟨h, g, d, t, os⟩) :
    wpAny (model prog w) A (getAttrBy (.ref a) (.str "__class__" tk) fill expr) Q E ⟨h, g, d, t, os⟩ := by
  have f3 := F.attrBase_ValueError.ga.bind (.ref a)
  have hx0 : (expr && onTheHeap (Value.builtin "BaseException.__getattribute__")) = false := by cases expr <;> rfl
  have hx2 : (Value.builtin "BaseException.__getattribute__" == Value.builtin "object.__getattribute__") = false := by decide +kernel
  have hx1 : (onTheHeap (Value.ref C) && Value.builtin "BaseException.__getattribute__" == Value.builtin "object.__getattribute__") = false := by rw [hx2]; rfl
  repeat (any_goals (first | assumption | (with_reducible refine wpAny_loadPart_at hx ?_; rw [hc]) | with_reducible refine zGK O qn2 lk_ga ?_ | with_reducible refine zGK O qn3 zOQ ?_ | wp_step))
  refine zIC O hx hc ?_
  repeat (any_goals (first | assumption | wp_step))
theorem zID {Q : Option Value → Shared → Prop} (O : zBD h C M) (hx : h.get? a = some o) (hc : o.cls = .ref C) (hq : Q (some (.ref C)) ⟨h, g, d, t + 1, os⟩) : wpAny (model prog w) A (getAttr? (.ref a) "__class__") Q E ⟨h, g, d, t, os⟩ := by
  unfold getAttr? getAttrBy?
  repeat (any_goals (first | assumption | with_reducible apply zMT O hx hc | wp_step))
theorem zRJ {D : Addr} {dD : Option Addr} {cD : ClassData} {sD : Array (Option Value)} {oC : Obj} {Q : Fin → Shared → Prop} (O : zBD h C M) (hx : h.get? a = some o) (hc : o.cls = .ref C) (hD : h.get? D = some { cls := .type "type", dict := dD, data := .cls cD, slots := sD }) (hC : h.get? C = some oC) (hCc : oC.cls = .type "type") (hCd : ∃ cd, oC.data = .cls cd) (hn : (Value.ref C :: .ref M :: bmV).contains (.ref D) = false) (hq : Q (.done (.ret (.bool false))) ⟨h, g, d, t + 1, os⟩) :
    wpAny (model prog w) A (Builtin.«isinstance.nested» ⟨[.ref a, .ref D, rawInt 0], []⟩) Q E ⟨h, g, d, t, os⟩ := by
  have hne : (Value.ref C == Value.ref D) = false := by
    rw [List.contains_cons, Bool.or_eq_false_iff] at hn
    have := hn.1
    rw [beq_eq_false_iff_ne] at this ⊢
    exact this.symm
  obtain ⟨cd, hCd⟩ := hCd
  obtain ⟨c1, c2, c3, c4⟩ := oC
  dsimp only at hCc hCd
  subst hCc hCd
  repeat (any_goals (first | assumption | (with_reducible refine wpAny_loadPart_at hx ?_; rw [hc]) | with_reducible refine wpAny_loadPart_at hD ?_ | with_reducible refine wpAny_loadPart_at hC ?_ | (with_reducible refine cY O ?_; rw [hn]) | with_reducible apply zID O hx hc | wp_step))
theorem zMU {Q : Fin → Shared → Prop} (hx : h.get? a = some o) (hc : o.cls = .ref C) (hq : Q (.done (.ret (.bool true))) ⟨h, g, d, t, os⟩) :
    wpAny (model prog w) A (Builtin.«isinstance.nested» ⟨[.ref a, .ref C, rawInt 0], []⟩) Q E ⟨h, g, d, t, os⟩ := by
  repeat (any_goals (first | assumption | (with_reducible refine wpAny_loadPart_at hx ?_; rw [hc]) | wp_step))
theorem zRK {T : String} {Q : Fin → Shared → Prop} (O : zBD h C M) (hx : h.get? a = some o) (hc : o.cls = .ref C) (hty : typeOf (.type T) = pure (.type "type")) (hn : (Value.ref C :: .ref M :: bmV).contains (.type T) = true) (hq : Q (.done (.ret (.bool true))) ⟨h, g, d, t, os⟩) :
    wpAny (model prog w) A (Builtin.«isinstance.nested» ⟨[.ref a, .type T, rawInt 0], []⟩) Q E ⟨h, g, d, t, os⟩ := by
  have hne : (Value.ref C == Value.type T) = false := rfl
  repeat (any_goals (first | assumption | (with_reducible refine wpAny_loadPart_at hx ?_; rw [hc]) | (with_reducible refine cY O ?_; rw [hn]) | wp_step))
end
end L2
namespace L2
namespace M
open PySem PySem.Spec PyProof.Rows
inductive MV where
  | non | bl (b : Bool) | int (i : Int) | str (x : List Nat) | tup (ds : List MV) | scr (ds : List MV) | loc (l : Nat) | typ (n : String)
instance : Inhabited MV := ⟨.non⟩
inductive MO where
  | lst (ds : List MV) | dic (kvs : List (MV × MV)) | ins (c : Str) (fs : List (Str × MV))
abbrev Sto := List MO
noncomputable def SqF (K : PySem.W.Frag) (H : Hp) (a : Addr) (xs : List V) : Prop :=
  (∃ o, H a = some (.frz o (.lst xs))) ∨
    ∃ (o : Obj) (its : Array Value) (n : Nat), K.lookup a = some o ∧ o.cls = .type "list" ∧ o.dict = none ∧ o.data = .seq its n ∧ its.size ≤ sizeLine ∧ Vals xs its.toList
theorem SqF.l {K : PySem.W.Frag} {H : Hp} {a : Addr} {xs : List V} (h : SqF K H a xs) : SqL K H a xs := by
  rcases h with ⟨o, h⟩ | h
  · exact .inl (.inr ⟨o, h⟩)
  · exact .inr h
mutual
noncomputable def Den (K : PySem.W.Frag) (α : List Addr) (H : Hp) : MV → V → Prop
  | .non, v => v = .non
  | .bl b, v => v = .bl b
  | .int i, v => v = .int i
  | .str x, v => v = .str (mkS x)
  | .tup ds, v => ∃ a vs, v = .ref a ∧ SqT K H a vs ∧ DenL K α H ds vs
  | .scr ds, v => ∃ a vs, v = .ref a ∧ SqF K H a vs ∧ DenL K α H ds vs
  | .loc l, v => ∃ a, v = .ref a ∧ α[l]? = some a
  | .typ n, v => v = .ty n
noncomputable def DenL (K : PySem.W.Frag) (α : List Addr) (H : Hp) : List MV → List V → Prop
  | [], vs => vs = []
  | d :: ds, vs => ∃ v r, vs = v :: r ∧ Den K α H d v ∧ DenL K α H ds r
end
structure Ex0 (α : List Addr) (H : Hp) (α' : List Addr) (H' : Hp) : Prop where
  pre : ∃ t, α' = α ++ t
  tup : ∀ b xs, H b = some (.tup xs) → H' b = some (.tup xs)
  frz : ∀ b o u, H b = some (.frz o u) → H' b = some (.frz o u)
structure Ext (α : List Addr) (H : Hp) (α' : List Addr) (H' : Hp) : Prop extends Ex0 α H α' H' where
  new : ∀ b ∈ α', b ∈ α ∨ H b = none
  keep : ∀ b o, H b = some o → b ∉ α → H' b = some o
  has : ∀ b o, H b = some o → ∃ o', H' b = some o'
section
variable {K : PySem.W.Frag} {α α' α'' : List Addr} {H H' H'' : Hp}
theorem Ext.refl (α : List Addr) (H : Hp) : Ext α H α H := ⟨⟨⟨[], by simp⟩, fun _ _ h => h, fun _ _ _ h => h⟩, fun b h => .inl h, fun _ _ h _ => h, fun _ o h => ⟨o, h⟩⟩
theorem Ex0.grow (α t : List Addr) (H : Hp) : Ex0 α H (α ++ t) H := ⟨⟨t, rfl⟩, fun _ _ h => h, fun _ _ _ h => h⟩
theorem Ext.free (x : Ext α H α' H') {b : Addr} (h : H' b = none) : H b = none := by
  cases e : H b with
  | none => rfl
  | some o => obtain ⟨o', h'⟩ := x.has b o e; rw [h] at h'; cases h'
theorem Ext.out (x : Ext α H α' H') {b : Addr} {o : HO} (h : H b = some o) (n : b ∉ α) : b ∉ α' := fun z => by
  rcases x.new b z with z | z
  · exact n z
  · rw [h] at z; cases z
theorem Ext.trans (x : Ext α H α' H') (y : Ext α' H' α'' H'') : Ext α H α'' H'' where
  pre := by
    obtain ⟨t, rfl⟩ := x.pre
    obtain ⟨u, rfl⟩ := y.pre
    exact ⟨t ++ u, by rw [List.append_assoc]⟩
  new := fun b h => (y.new b h).elim (x.new b) fun z => .inr (x.free z)
  keep := fun b o h n => y.keep b o (x.keep b o h n) (x.out h n)
  has := fun b o h => let ⟨o', h'⟩ := x.has b o h; y.has b o' h'
  tup := fun b xs h => y.tup b xs (x.tup b xs h)
  frz := fun b o u h => y.frz b o u (x.frz b o u h)
theorem Ex0.at (x : Ex0 α H α' H') {l : Nat} {a : Addr} (h : α[l]? = some a) : α'[l]? = some a := by
  obtain ⟨t, rfl⟩ := x.pre
  rw [List.getElem?_append_left (List.getElem?_eq_some_iff.mp h).1]
  exact h
theorem Ex0.sqT (x : Ex0 α H α' H') {a : Addr} {vs : List V} (q : SqT K H a vs) : SqT K H' a vs := by
  rcases q with (q | ⟨o, q⟩) | q
  · exact .inl (.inl (x.tup a vs q))
  · exact .inl (.inr ⟨o, x.frz a o _ q⟩)
  · exact .inr q
theorem Ex0.sqF (x : Ex0 α H α' H') {a : Addr} {vs : List V} (q : SqF K H a vs) : SqF K H' a vs := by
  rcases q with ⟨o, q⟩ | q
  · exact .inl ⟨o, x.frz a o _ q⟩
  · exact .inr q
mutual
theorem Den.ex0 (x : Ex0 α H α' H') : ∀ {d : MV} {v : V}, Den K α H d v → Den K α' H' d v
  | .non, _, q => by unfold Den at q ⊢; exact q
  | .bl _, _, q => by unfold Den at q ⊢; exact q
  | .int _, _, q => by unfold Den at q ⊢; exact q
  | .str _, _, q => by unfold Den at q ⊢; exact q
  | .typ _, _, q => by unfold Den at q ⊢; exact q
  | .loc _, _, q => by
    unfold Den at q ⊢
    obtain ⟨a, e, h⟩ := q
    exact ⟨a, e, x.at h⟩
  | .tup ds, _, q => by
    unfold Den at q ⊢
    obtain ⟨a, vs, e, s, l⟩ := q
    exact ⟨a, vs, e, x.sqT s, DenL.ex0 x l⟩
  | .scr ds, _, q => by
    unfold Den at q ⊢
    obtain ⟨a, vs, e, s, l⟩ := q
    exact ⟨a, vs, e, x.sqF s, DenL.ex0 x l⟩
theorem DenL.ex0 (x : Ex0 α H α' H') : ∀ {ds : List MV} {vs : List V}, DenL K α H ds vs → DenL K α' H' ds vs
  | [], _, q => by unfold DenL at q ⊢; exact q
  | d :: ds, _, q => by
    unfold DenL at q ⊢
    obtain ⟨v, r, e, a, l⟩ := q
    exact ⟨v, r, e, Den.ex0 x a, DenL.ex0 x l⟩
end
theorem Den.ext (x : Ext α H α' H') {d : MV} {v : V} (q : Den K α H d v) : Den K α' H' d v := q.ex0 x.toEx0
theorem DenL.ext (x : Ext α H α' H') {d : List MV} {v : List V} (q : DenL K α H d v) : DenL K α' H' d v := q.ex0 x.toEx0
theorem dY : Den K α H .non .non := by unfold Den; rfl
theorem yT (b : Bool) : Den K α H (.bl b) (.bl b) := by unfold Den; rfl
theorem yI (i : Int) : Den K α H (.int i) (.int i) := by unfold Den; rfl
theorem wI (x : List Nat) : Den K α H (.str x) (.str (mkS x)) := by unfold Den; rfl
theorem zLE (n : String) : Den K α H (.typ n) (.ty n) := by unfold Den; rfl
theorem dZ {ds : List MV} {a : Addr} {vs : List V} (s : SqT K H a vs) (l : DenL K α H ds vs) : Den K α H (.tup ds) (.ref a) := by unfold Den; exact ⟨a, vs, rfl, s, l⟩
theorem zLF {ds : List MV} {a : Addr} {vs : List V} (s : SqF K H a vs) (l : DenL K α H ds vs) : Den K α H (.scr ds) (.ref a) := by unfold Den; exact ⟨a, vs, rfl, s, l⟩
theorem zCI {l : Nat} {a : Addr} (h : α[l]? = some a) : Den K α H (.loc l) (.ref a) := by unfold Den; exact ⟨a, rfl, h⟩
theorem jE {v : V} (d : Den K α H .non v) : v = .non := by unfold Den at d; exact d
theorem bA {b : Bool} {v : V} (d : Den K α H (.bl b) v) : v = .bl b := by unfold Den at d; exact d
theorem kJ {i : Int} {v : V} (d : Den K α H (.int i) v) : v = .int i := by unfold Den at d; exact d
theorem kK {x : List Nat} {v : V} (d : Den K α H (.str x) v) : v = .str (mkS x) := by unfold Den at d; exact d
theorem jF {n : String} {v : V} (d : Den K α H (.typ n) v) : v = .ty n := by unfold Den at d; exact d
theorem wU {ds : List MV} {v : V} (d : Den K α H (.tup ds) v) : ∃ a vs, v = .ref a ∧ SqT K H a vs ∧ DenL K α H ds vs := by unfold Den at d; exact d
theorem kL {ds : List MV} {v : V} (d : Den K α H (.scr ds) v) : ∃ a vs, v = .ref a ∧ SqF K H a vs ∧ DenL K α H ds vs := by unfold Den at d; exact d
theorem wV {l : Nat} {v : V} (d : Den K α H (.loc l) v) : ∃ a, v = .ref a ∧ α[l]? = some a := by unfold Den at d; exact d
theorem yN : DenL K α H [] [] := by unfold DenL; rfl
theorem yE {d : MV} {v : V} {ds : List MV} {vs : List V} (a : Den K α H d v) (l : DenL K α H ds vs) : DenL K α H (d :: ds) (v :: vs) := by unfold DenL; exact ⟨v, vs, rfl, a, l⟩
theorem DenL.uncons {d : MV} {ds : List MV} {vs : List V} (l : DenL K α H (d :: ds) vs) : ∃ v r, vs = v :: r ∧ Den K α H d v ∧ DenL K α H ds r := by unfold DenL at l; exact l
theorem DenL.isnil {vs : List V} (l : DenL K α H [] vs) : vs = [] := by unfold DenL at l; exact l
theorem DenL.length : ∀ {ds : List MV} {vs : List V}, DenL K α H ds vs → vs.length = ds.length
  | [], _, q => by rw [q.isnil]; rfl
  | d :: ds, _, q => by
    obtain ⟨v, r, rfl, _, l⟩ := q.uncons
    rw [List.length_cons, List.length_cons, DenL.length l]
theorem DenL.append : ∀ {ds es : List MV} {vs us : List V}, DenL K α H ds vs → DenL K α H es us → DenL K α H (ds ++ es) (vs ++ us)
  | [], _, _, _, q, l => by rw [q.isnil]; exact l
  | d :: ds, _, _, _, q, l => by
    obtain ⟨v, r, rfl, a, l'⟩ := q.uncons
    exact yE a (DenL.append l' l)
theorem DenL.drop : ∀ {ds : List MV} {vs : List V} (n : Nat), DenL K α H ds vs → DenL K α H (ds.drop n) (vs.drop n)
  | _, _, 0, q => q
  | [], _, n + 1, q => by rw [q.isnil]; exact yN
  | d :: ds, _, n + 1, q => by
    obtain ⟨v, r, rfl, _, l⟩ := q.uncons
    exact DenL.drop n l
theorem DenL.take : ∀ {ds : List MV} {vs : List V} (n : Nat), DenL K α H ds vs → DenL K α H (ds.take n) (vs.take n)
  | _, _, 0, q => yN
  | [], _, n + 1, q => by rw [q.isnil]; exact yN
  | d :: ds, _, n + 1, q => by
    obtain ⟨v, r, rfl, a, l⟩ := q.uncons
    exact yE a (DenL.take n l)
theorem DenL.set {d : MV} {v : V} (a : Den K α H d v) : ∀ {ds : List MV} {vs : List V} (n : Nat), DenL K α H ds vs → DenL K α H (ds.set n d) (vs.set n v)
  | [], _, _, q => by rw [q.isnil]; exact yN
  | e :: ds, _, 0, q => by
    obtain ⟨v', r, rfl, a', l⟩ := q.uncons
    exact yE a l
  | e :: ds, _, n + 1, q => by
    obtain ⟨v', r, rfl, a', l⟩ := q.uncons
    exact yE a' (DenL.set a n l)
theorem DenL.get : ∀ {ds : List MV} {vs : List V} {i : Nat} {v : V}, DenL K α H ds vs → vs[i]? = some v → ∃ d, ds[i]? = some d ∧ Den K α H d v
  | [], _, _, _, q, e => by rw [q.isnil] at e; simp at e
  | d :: ds, _, 0, _, q, e => by
    obtain ⟨v, r, rfl, a, l⟩ := q.uncons
    simp at e; subst e
    exact ⟨d, rfl, a⟩
  | d :: ds, _, i + 1, _, q, e => by
    obtain ⟨v, r, rfl, a, l⟩ := q.uncons
    obtain ⟨d', h1, h2⟩ := DenL.get (i := i) l (by simpa using e)
    exact ⟨d', by simpa using h1, h2⟩
theorem DenL.at {ds : List MV} {vs : List V} {i : Nat} {d : MV} (q : DenL K α H ds vs) (e : ds[i]? = some d) : ∃ v, vs[i]? = some v ∧ Den K α H d v := by
  have hi : i < ds.length := (List.getElem?_eq_some_iff.mp e).1
  have hv : i < vs.length := by rw [q.length]; exact hi
  obtain ⟨d', h1, h2⟩ := q.get (List.getElem?_eq_getElem hv)
  rw [e] at h1; cases h1
  exact ⟨_, List.getElem?_eq_getElem hv, h2⟩
theorem DenL.cut {ds : List MV} {vs : List V} (q : DenL K α H ds vs) (lo hi : Option Int) : DenL K α H (xG ds lo hi) (zHU vs lo hi) := by
  unfold xG zHU
  rw [q.length]
  exact (q.drop _).take _
theorem zFL : ∀ (ns : List Int), DenL K α H (ns.map MV.int) (ns.map V.int)
  | [] => yN
  | b :: bs => yE (yI b) (zFL bs)
end
structure Gm where
  K : PySem.W.Frag
  mg : Str → Option Value
  P : Program
  w : World
abbrev _root_.L2.Cx.g (X : Cx) : Gm := ⟨X.K, X.mg, X.prog, X.w⟩
inductive DenF (K : PySem.W.Frag) (α : List Addr) (H : Hp) : List (Str × MV) → List (Str × V) → Prop
  | nil : DenF K α H [] []
  | cons {x : Str} {d : MV} {v : V} {fs gs} : Den K α H d v → DenF K α H fs gs → DenF K α H ((x, d) :: fs) ((x, v) :: gs)
theorem DenF.ex0 {K : PySem.W.Frag} {α α' : List Addr} {H H' : Hp} (x : Ex0 α H α' H') : ∀ {fs gs}, DenF K α H fs gs → DenF K α' H' fs gs
  | _, _, .nil => .nil
  | _, _, .cons a l => .cons (a.ex0 x) (DenF.ex0 x l)
noncomputable def KeyD : MV → Key → Prop
  | .int i, k => k = .inl i
  | .str x, k => k = .inr (mkS x)
  | _, _ => False
inductive DenK (K : PySem.W.Frag) (α : List Addr) (H : Hp) : List (MV × MV) → List (Key × V) → Prop
  | nil : DenK K α H [] []
  | cons {k : MV} {k' : Key} {d : MV} {v : V} {fs gs} : KeyD k k' → Den K α H d v → DenK K α H fs gs → DenK K α H ((k, d) :: fs) ((k', v) :: gs)
theorem DenK.ex0 {K : PySem.W.Frag} {α α' : List Addr} {H H' : Hp} (x : Ex0 α H α' H') : ∀ {fs gs}, DenK K α H fs gs → DenK K α' H' fs gs
  | _, _, .nil => .nil
  | _, _, .cons k a l => .cons k (a.ex0 x) (DenK.ex0 x l)
mutual
noncomputable def nkOf : MV → Option NK
  | .int i => some (.key (.inl i))
  | .str x => some (.key (.inr (mkS x)))
  | .tup ds => (zSZ ds).map .tup
  | _ => none
noncomputable def zSZ : List MV → Option (List NK)
  | [] => some []
  | d :: ds => (nkOf d).bind fun k => (zSZ ds).map (k :: ·)
end
inductive DenN (K : PySem.W.Frag) (α : List Addr) (H : Hp) : List (MV × MV) → List (NK × Addr × Value) → Prop
  | nil : DenN K α H [] []
  | cons {k : MV} {nk : NK} {a : Addr} {d : MV} {v : V} {u : Value} {fs xs} : nkOf k = some nk → zCB nk ≤ 4 → Den K α H k (.ref a) → Den K α H d v → RelV v u → DenN K α H fs xs → DenN K α H ((k, d) :: fs) ((nk, a, u) :: xs)
theorem DenN.ex0 {K : PySem.W.Frag} {α α' : List Addr} {H H' : Hp} (x : Ex0 α H α' H') : ∀ {fs xs}, DenN K α H fs xs → DenN K α' H' fs xs
  | _, _, .nil => .nil
  | _, _, .cons k e a d r l => .cons k e (a.ex0 x) (d.ex0 x) r (DenN.ex0 x l)
noncomputable def ObD (g : Gm) (α : List Addr) (H : Hp) (a : Addr) : MO → Prop
  | .lst ds => ∃ vs, H a = some (.lst vs) ∧ DenL g.K α H ds vs
  | .dic kvs => (∃ ks, H a = some (.dK ks) ∧ DenK g.K α H kvs ks) ∨ ∃ xs, H a = some (DN g.P g.w a xs) ∧ DenN g.K α H kvs xs
  | .ins c fs => ∃ C gs, g.mg c = some (.ref C) ∧ DenF g.K α H fs gs ∧
      ∃ oe, H a = some (.ext fun h => h.get? a = some oe) ∧ oe.cls = .ref C ∧ (fs = [] ∨ ∃ dx od, oe.dict = some dx ∧ H dx = some (.frz od (.xd gs)))
theorem ObD.there {g : Gm} {α : List Addr} {H : Hp} {a : Addr} {o : MO} (h : ObD g α H a o) : ∃ ho, H a = some ho ∧ (∀ xs, ho ≠ .tup xs) ∧ ∀ ob u, ho ≠ .frz ob u := by
  cases o with
  | lst ds => obtain ⟨vs, h, _⟩ := h; exact ⟨_, h, (fun xs z => by cases z), fun _ _ z => by cases z⟩
  | dic ds =>
    rcases h with ⟨vs, h, _⟩ | ⟨vs, h, _⟩
    · exact ⟨_, h, (fun xs z => by cases z), fun _ _ z => by cases z⟩
    · exact ⟨_, h, (fun xs z => by cases z), fun _ _ z => by cases z⟩
  | ins c ds =>
    obtain ⟨_, _, _, _, _, h, _⟩ := h
    exact ⟨_, h, (fun xs z => by cases z), fun _ _ z => by cases z⟩
theorem ObD.move {g : Gm} {α α' : List Addr} {H H' : Hp} {a : Addr} {o : MO} (h : ObD g α H a o) (x : Ex0 α H α' H') (e : H' a = H a) : ObD g α' H' a o := by
  cases o with
  | lst ds => obtain ⟨vs, h, l⟩ := h; exact ⟨vs, e.trans h, l.ex0 x⟩
  | dic ds =>
    rcases h with ⟨vs, h, l⟩ | ⟨vs, h, l⟩
    · exact .inl ⟨vs, e.trans h, l.ex0 x⟩
    · exact .inr ⟨vs, e.trans h, l.ex0 x⟩
  | ins c ds =>
    obtain ⟨C, gs, m, l, oe, h, hc, hf⟩ := h
    exact ⟨C, gs, m, l.ex0 x, oe, e.trans h, hc, hf.imp id fun ⟨dx, od, h1, h2⟩ => ⟨dx, od, h1, x.frz _ _ _ h2⟩⟩
structure Wd (g : Gm) (α : List Addr) (S : Sto) (H : Hp) : Prop where
  len : α.length = S.length
  nd : α.Nodup
  obj : ∀ (l : Nat) (a : Addr) (o : MO), α[l]? = some a → S[l]? = some o → ObD g α H a o
section
variable {g : Gm} {α α' : List Addr} {S S' : Sto} {H H' : Hp}
theorem Wd.of (w : Wd g α S H) {l : Nat} {a : Addr} (h : α[l]? = some a) : ∃ o, S[l]? = some o ∧ ObD g α H a o := by
  have hl : l < S.length := by rw [← w.len]; exact (List.getElem?_eq_some_iff.mp h).1
  exact ⟨S[l], List.getElem?_eq_getElem hl, w.obj l a _ h (List.getElem?_eq_getElem hl)⟩
theorem Wd.mem (w : Wd g α S H) {a : Addr} (h : a ∈ α) : ∃ ho, H a = some ho ∧ (∀ xs, ho ≠ .tup xs) ∧ ∀ ob u, ho ≠ .frz ob u := by
  obtain ⟨l, hl⟩ := List.getElem?_of_mem h
  obtain ⟨o, _, q⟩ := w.of hl
  exact q.there
theorem Wd.newx (w : Wd g α S H) {p : Addr} {o : HO} (hp : H p = none) : Ext α H α (upd H p o) where
  pre := ⟨[], by simp⟩
  new := fun b h => .inl h
  keep := fun b o h _ => by rw [zP (zN h hp)]; exact h
  has := fun b o h => ⟨o, by rw [zP (zN h hp)]; exact h⟩
  tup := fun b o h => by rw [zP (zN h hp)]; exact h
  frz := fun b o u h => by rw [zP (zN h hp)]; exact h
theorem Wd.fresh (w : Wd g α S H) {p : Addr} (hp : H p = none) : p ∉ α := fun z => by
  obtain ⟨_, h, _⟩ := w.mem z; rw [hp] at h; cases h
theorem Wd.new (w : Wd g α S H) {p : Addr} {o : HO} (hp : H p = none) : Wd g α S (upd H p o) :=
  ⟨w.len, w.nd, fun l a ob h1 h2 => (w.obj l a ob h1 h2).move (w.newx hp).toEx0 (zP fun z => w.fresh hp (by rw [← z]; exact List.mem_of_getElem? h1))⟩
theorem Wd.ne (w : Wd g α S H) {l m : Nat} {a b : Addr} (h : α[l]? = some a) (h' : α[m]? = some b) (n : l ≠ m) : a ≠ b := by
  rintro rfl
  obtain ⟨h1, e1⟩ := List.getElem?_eq_some_iff.mp h
  obtain ⟨h2, e2⟩ := List.getElem?_eq_some_iff.mp h'
  exact n ((List.getElem_inj w.nd).mp (e1.trans e2.symm))
theorem Wd.enterx (w : Wd g α S H) {H0 : Hp} {α0 : List Addr} (x : Ext α0 H0 α H) {b : Addr} (h0 : H0 b = none) (n : b ∉ α) : Ext α0 H0 (α ++ [b]) H where
  pre := let ⟨t, e⟩ := x.pre; ⟨t ++ [b], by rw [e, List.append_assoc]⟩
  new := fun c hc => (List.mem_append.mp hc).elim (x.new c) fun z => .inr (by rw [List.mem_singleton.mp z]; exact h0)
  keep := x.keep
  has := x.has
  tup := x.tup
  frz := x.frz
theorem Wd.enter (w : Wd g α S H) {b : Addr} {ds : List MV} {vs : List V} (h : H b = some (.lst vs)) (n : b ∉ α) (l : DenL g.K α H ds vs) : Wd g (α ++ [b]) (S ++ [.lst ds]) H where
  len := by rw [List.length_append, List.length_append, w.len]; rfl
  nd := List.nodup_append.mpr ⟨w.nd, by simp, fun a ha c hc => by rw [List.mem_singleton.mp hc]; rintro rfl; exact n ha⟩
  obj := fun m a o h1 h2 => by
    by_cases hm : m < α.length
    · rw [List.getElem?_append_left hm] at h1
      rw [List.getElem?_append_left (by rw [← w.len]; exact hm)] at h2
      exact (w.obj m a o h1 h2).move (Ex0.grow α [b] H) rfl
    · have hm' : m = α.length := by
        have := (List.getElem?_eq_some_iff.mp h1).1
        rw [List.length_append, List.length_singleton] at this
        omega
      subst hm'
      rw [List.getElem?_append_right (Nat.le_refl _), Nat.sub_self] at h1
      rw [List.getElem?_append_right (by rw [w.len]; exact Nat.le_refl _), w.len, Nat.sub_self] at h2
      cases h1; cases h2
      exact ⟨vs, h, l.ex0 (Ex0.grow α [b] H)⟩
end
end M
end L2
namespace L2
namespace M
open PySem PySem.Spec PyProof.Rows
inductive R (β : Type) where
  | ok (b : β) (S : Sto) | exc (c : Str) (fs : List (Str × MV)) (S : Sto) | no
noncomputable def R.bind {β γ : Type} : R β → (β → Sto → R γ) → R γ
  | .ok b S, k => k b S
  | .exc c fs S, _ => .exc c fs S
  | .no, _ => .no
theorem R.bind_ok {β γ : Type} (b : β) (S : Sto) (k : β → Sto → R γ) : (R.ok b S).bind k = k b S := rfl
inductive Er where
  | val (d : MV) | new (ds : List MV)
instance : Inhabited Er := ⟨.val .non⟩
noncomputable def DenX (K : PySem.W.Frag) (α : List Addr) (H : Hp) : Er → V → Prop
  | .val d, v => Den K α H d v
  | .new ds, v => ∃ b vs, v = .ref b ∧ H b = some (.lst vs) ∧ b ∉ α ∧ DenL K α H ds vs
noncomputable def DenE (K : PySem.W.Frag) (H : Hp) (α' : List Addr) (H' : Hp) (r : Er) (v : V) : Prop := DenX K α' H' r v ∧ match r with | .new _ => ∀ a, v = .ref a → H a = none | _ => True
section
variable {K : PySem.W.Frag} {α α' : List Addr} {H H0 H' : Hp}
theorem DenX.ext (x : Ext α H α' H') : ∀ {r : Er} {v : V}, DenX K α H r v → DenX K α' H' r v
  | .val d, _, q => Den.ext x q
  | .new ds, _, ⟨b, vs, e, h, n, l⟩ => ⟨b, vs, e, x.keep b _ h n, x.out h n, l.ext x⟩
theorem DenE.val {d : MV} {v : V} (q : Den K α' H' d v) : DenE K H α' H' (.val d) v := ⟨q, trivial⟩
theorem DenE.back (hf : ∀ b, H b = none → H0 b = none) {r : Er} {v : V} (q : DenE K H α' H' r v) : DenE K H0 α' H' r v := by
  refine ⟨q.1, ?_⟩
  cases r with
  | new ds => exact fun a e => hf a (q.2 a e)
  | _ => trivial
theorem DenE.ext {α'' : List Addr} {H'' : Hp} (x : Ext α' H' α'' H'') {r : Er} {v : V} (q : DenE K H α' H' r v) : DenE K H α'' H'' r v := ⟨q.1.ext x, q.2⟩
end
section
variable {K : PySem.W.Frag} {α : List Addr} {H : Hp} {v : V}
theorem zJW (d : DenX K α H (.val .non) v) : v = .non := jE (K := K) (α := α) (H := H) d
theorem cZ {b : Bool} (d : DenX K α H (.val (.bl b)) v) : v = .bl b := bA (K := K) (α := α) (H := H) d
theorem yB {b : Int} (d : DenX K α H (.val (.int b)) v) : v = .int b := kJ (K := K) (α := α) (H := H) d
theorem yJ {b : List Nat} (d : DenX K α H (.val (.str b)) v) : v = .str (mkS b) := kK (K := K) (α := α) (H := H) d
theorem zUR {b : String} (d : DenX K α H (.val (.typ b)) v) : v = .ty b := jF (K := K) (α := α) (H := H) d
theorem bK {ds : List MV} (d : DenX K α H (.val (.tup ds)) v) : ∃ a vs, v = .ref a ∧ SqT K H a vs ∧ DenL K α H ds vs := wU (K := K) (α := α) (H := H) d
theorem zGM {ds : List MV} (d : DenX K α H (.val (.scr ds)) v) : ∃ a vs, v = .ref a ∧ SqF K H a vs ∧ DenL K α H ds vs := kL (K := K) (α := α) (H := H) d
theorem zBE {l : Nat} (d : DenX K α H (.val (.loc l)) v) : ∃ a, v = .ref a ∧ α[l]? = some a := wV (K := K) (α := α) (H := H) d
end
noncomputable def nL : List Er → List V → List Addr
  | .new _ :: rs, .ref b :: vs => b :: nL rs vs
  | _ :: rs, _ :: vs => nL rs vs
  | _, _ => []
inductive ArgsE (K : PySem.W.Frag) (H : Hp) (α' : List Addr) (H' : Hp) : List Er → List V → Prop
  | nil : ArgsE K H α' H' [] []
  | cons {r v rs vs} : DenE K H α' H' r v → (∀ ds b, r = .new ds → v = .ref b → b ∉ nL rs vs) → ArgsE K H α' H' rs vs → ArgsE K H α' H' (r :: rs) (v :: vs)
theorem ArgsE.nones {K : PySem.W.Frag} {H : Hp} {α' : List Addr} {H' : Hp} : ∀ {rs vs}, ArgsE K H α' H' rs vs → ∀ b ∈ nL rs vs, H b = none
  | _, _, .nil => fun b h => by simp [nL] at h
  | .val d :: _, v :: _, .cons a n l => fun b h => ArgsE.nones l b (by simpa [nL] using h)
  | .new ds :: _, v :: _, .cons a n l => fun b h => by
    obtain ⟨c, vs, rfl, _⟩ := a.1
    rcases List.mem_cons.mp (show b ∈ c :: nL _ _ from h) with rfl | h
    · exact a.2 _ rfl
    · exact ArgsE.nones l b h
theorem ArgsE.back {K : PySem.W.Frag} {H H0 : Hp} {α' : List Addr} {H' : Hp} (hf : ∀ b, H b = none → H0 b = none) : ∀ {rs vs}, ArgsE K H α' H' rs vs → ArgsE K H0 α' H' rs vs
  | _, _, .nil => .nil
  | _, _, .cons a n l => .cons (a.back hf) n (ArgsE.back hf l)
theorem ArgsE.length {K : PySem.W.Frag} {H : Hp} {α' : List Addr} {H' : Hp} : ∀ {rs vs}, ArgsE K H α' H' rs vs → vs.length = rs.length
  | _, _, .nil => rfl
  | _, _, .cons _ _ l => by rw [List.length_cons, List.length_cons, ArgsE.length l]
class Dn (β : Type) (τ : outParam Type) where
  d : Gm → Hp → List Addr → Sto → Hp → β → τ → Prop
  back : ∀ {g : Gm} {H H0 : Hp} {α' : List Addr} {S' : Sto} {H' : Hp} {b : β} {u : τ}, (∀ b, H b = none → H0 b = none) → d g H α' S' H' b u → d g H0 α' S' H' b u
instance : Dn Er V := ⟨fun g H α' _ H' r v => DenE g.K H α' H' r v, fun hf q => q.back hf⟩
instance : Dn Bool Bool := ⟨fun _ _ _ _ _ b u => u = b, fun _ q => q⟩
instance : Dn (List Er) (List V) := ⟨fun g H α' _ H' r v => ArgsE g.K H α' H' r v, fun hf q => q.back hf⟩
instance : Dn (Option Int) (Option Int) := ⟨fun _ _ _ _ _ b u => u = b, fun _ q => q⟩
abbrev XW := Str → List (Str × MV) → Sto → List Addr → Hp → Prop
abbrev W0 : XW := fun _ _ _ _ _ => False
noncomputable def Post {β τ : Type} [Dn β τ] (g : Gm) (W : XW) (α : List Addr) (H : Hp) : R β → (τ → Hp → Prop) → Prop
  | .ok b S, Q => ∀ u α' H', Ext α H α' H' → Wd g α' S H' → Dn.d g H α' S H' b u → Q u H'
  | .exc c fs S, _ => ∀ α' H', Ext α H α' H' → Wd g α' S H' → W c fs S α' H'
  | .no, _ => False
section
variable {β τ γ υ : Type} [Dn β τ] [Dn γ υ] {g : Gm} {W : XW} {α α' : List Addr} {H H' : Hp}
theorem Post.shift (x : Ext α H α' H') : ∀ {m : R β} {Q : τ → Hp → Prop}, Post g W α H m Q → Post g W α' H' m Q
  | .ok b S, Q, q => fun u α2 H2 x2 w2 d2 => q u α2 H2 (x.trans x2) w2 (Dn.back (fun b h => x.free h) d2)
  | .exc c fs S, _, q => fun α2 H2 x2 w2 => q α2 H2 (x.trans x2) w2
  | .no, _, q => q
theorem Post.bind {m : R β} {k : β → Sto → R γ} {Q : υ → Hp → Prop} {Q' : τ → Hp → Prop} (q : Post g W α H (m.bind k) Q)
    (f : ∀ u b S1 α1 H1, m = .ok b S1 → Ext α H α1 H1 → Wd g α1 S1 H1 → Dn.d g H α1 S1 H1 b u → Post g W α H (k b S1) Q → Q' u H1) : Post g W α H m Q' := by
  cases m with
  | ok b S => exact fun u α1 H1 x w d => f u b S α1 H1 rfl x w d q
  | exc c fs S => exact q
  | no => exact q
theorem Post.here {b : β} {S : Sto} {Q : τ → Hp → Prop} {u : τ} (q : Post g W α H (.ok b S) Q) (w : Wd g α S H) (d : Dn.d g H α S H b u) : Q u H := q u α H (Ext.refl α H) w d
end
theorem Post.val {g : Gm} {W : XW} {α : List Addr} {H : Hp} {d : MV} {S : Sto} {Q : VK} {v : V} (q : Post g W α H (.ok (Er.val d) S) Q) (w : Wd g α S H) (k : Den g.K α H d v) : Q v H := q.here w (DenE.val k)
theorem Post.newl {g : Gm} {W : XW} {α : List Addr} {H : Hp} {ds : List MV} {S : Sto} {Q : VK} {vs : List V} {p : Addr} (q : Post g W α H (.ok (Er.new ds) S) Q) (w : Wd g α S H) (hp : H p = none) (l : DenL g.K α H ds vs) : Q (.ref p) (upd H p (.lst vs)) :=
  q (.ref p) α _ (w.newx hp) (w.new hp) ⟨⟨p, vs, rfl, jD, w.fresh hp, l.ext (w.newx hp)⟩, fun a e => by cases e; exact hp⟩
theorem Post.newt {g : Gm} {W : XW} {α : List Addr} {H : Hp} {ds : List MV} {S : Sto} {Q : VK} {vs : List V} {p : Addr} (q : Post g W α H (.ok (Er.val (.tup ds)) S) Q) (w : Wd g α S H) (hp : H p = none) (l : DenL g.K α H ds vs) : Q (.ref p) (upd H p (.tup vs)) :=
  q (.ref p) α _ (w.newx hp) (w.new hp) (.val (dZ (.of jD) (l.ext (w.newx hp))))
abbrev Rho := List (Option MV)
structure Slots (K : PySem.W.Frag) (α : List Addr) (H : Hp) (ρ : Rho) (σ : St) : Prop where
  len : σ.length = ρ.length
  slot : ∀ (i : Nat) (d : MV), ρ[i]? = some (some d) → ∃ v, σ[i]? = some (some v) ∧ Den K α H d v
section
variable {K : PySem.W.Frag} {α α' : List Addr} {H H' : Hp} {ρ : Rho} {σ : St}
theorem Slots.ex0 (q : Slots K α H ρ σ) (x : Ex0 α H α' H') : Slots K α' H' ρ σ := ⟨q.len, fun i d e => let ⟨v, h1, h2⟩ := q.slot i d e; ⟨v, h1, h2.ex0 x⟩⟩
theorem Slots.ext (q : Slots K α H ρ σ) (x : Ext α H α' H') : Slots K α' H' ρ σ := q.ex0 x.toEx0
theorem zLG {α : Type} {l : List α} {i j : Nat} {x y : α} (h : (l.set i x)[j]? = some y) : (j = i ∧ y = x ∧ i < l.length) ∨ (j ≠ i ∧ l[j]? = some y) := by
  by_cases hj : i = j
  · subst hj
    by_cases hl : i < l.length
    · rw [List.getElem?_set_self hl] at h
      exact .inl ⟨rfl, (Option.some.inj h).symm, hl⟩
    · rw [List.getElem?_eq_none (by rw [List.length_set]; omega)] at h; cases h
  · rw [List.getElem?_set_ne hj] at h
    exact .inr ⟨fun z => hj z.symm, h⟩
theorem Slots.set (q : Slots K α H ρ σ) {i : Nat} {d : MV} {v : V} (h : Den K α H d v) : Slots K α H (ρ.set i (some d)) (σ.set i (some v)) := by
  refine ⟨by rw [List.length_set, List.length_set]; exact q.len, fun j e z => ?_⟩
  rcases zLG z with ⟨rfl, e', hl⟩ | ⟨hj, e'⟩
  · cases e'
    exact ⟨v, by rw [List.getElem?_set_self (by rw [q.len]; exact hl)], h⟩
  · obtain ⟨u, h1, h2⟩ := q.slot j e e'
    exact ⟨u, by rw [List.getElem?_set_ne (Ne.symm hj)]; exact h1, h2⟩
end
noncomputable def Jd (X : Cx) (W : XW) {β τ : Type} [Dn β τ] (P : (St → Hp → (τ → Hp → Prop) → Prop) → Prop) (f : Rho → Sto → R β) : Prop :=
  ∃ t, P t ∧ ∀ α ρ S σ H Q, Wd X.g α S H → Slots X.K α H ρ σ → Post X.g W α H (f ρ S) Q → t σ H Q
abbrev PEm (X : Cx) (W : XW) (e : Expr) (f : Rho → Sto → R Er) : Prop := Jd X W (PE X e) f
abbrev PTm (X : Cx) (W : XW) (e : Expr) (f : Rho → Sto → R Bool) : Prop := Jd X W (PT X e) f
abbrev PWm (X : Cx) (W : XW) (e : Expr) (f : Rho → Sto → R Bool) : Prop := Jd X W (PW X e) f
abbrev PAm (X : Cx) (W : XW) (es : List Expr) (f : Rho → Sto → R (List Er)) : Prop := Jd X W (PA X es) f
abbrev POm (X : Cx) (W : XW) (e : Option Expr) (f : Rho → Sto → R (Option Int)) : Prop := Jd X W (PO X e) f
section
variable {X : Cx} {W : XW} {a b c e : Expr} {es : List Expr} {f g h : Rho → Sto → R Er} {tf tg : Rho → Sto → R Bool} {af : Rho → Sto → R (List Er)} {pos : Pos}
noncomputable def zH : Option (Option MV) → Sto → R Er
  | some (some d), S => .ok (.val d) S
  | _, _ => .no
theorem zA (i : Nat) {x : Str} (hN : X.N[i]? = some x := by rfl) (hv : Vis X.env.scope x := by first | exact Or.inl rfl | exact Or.inr (Or.inl rfl) | exact Or.inr (Or.inr rfl)) (hd : (x == ("__debug__" : Str)) = false := by decide)
    (hcd : (x == ("__classdict__" : Str)) = false := by decide) : PEm X W (.Name x pos) (fun ρ S => zH (ρ[i]?) S) := by
  refine ⟨_, pv i hN hv hd hcd, fun α ρ S σ H Q wd sl q => ?_⟩
  dsimp only at q
  cases z : ρ[i]? with
  | none => rw [z] at q; exact q.elim
  | some o =>
    cases o with
    | none => rw [z] at q; exact q.elim
    | some d =>
      rw [z] at q
      obtain ⟨v, h1, h2⟩ := sl.slot i d z
      exact ⟨v, h1, Post.val q wd h2⟩
theorem zC {i : Int} {j : Nat} : PEm X W (.Constant (.int i) j pos) (fun _ S => .ok (.val (.int i)) S) := ⟨_, zJK, fun α ρ S σ H Q wd sl q => Post.val q wd (yI i)⟩
theorem zAK {i : Bool} {j : Nat} : PEm X W (.Constant (.bool i) j pos) (fun _ S => .ok (.val (.bl i)) S) := ⟨_, pe_bl, fun α ρ S σ H Q wd sl q => Post.val q wd (yT i)⟩
theorem zUS {j : Nat} : PEm X W (.Constant .none j pos) (fun _ S => .ok (.val .non) S) := ⟨_, zTJ, fun α ρ S σ H Q wd sl q => Post.val q wd dY⟩
theorem zO {x : Str} {j : Nat} (cs : List Nat) (hx : x = mkS cs := by rfl) : PEm X W (.Constant (.str x) j pos) (fun _ S => .ok (.val (.str cs)) S) :=
  ⟨_, zTK, fun α ρ S σ H Q wd sl q => Post.val q wd (by rw [hx]; exact wI cs)⟩
theorem zLH {x : Str} {i : Int} {t : Tok} (hg : Gl X x) (hm : X.mg x = some (.int i t)) (hd : (x == ("__debug__" : Str)) = false := by decide) : PEm X W (.Name x pos) (fun _ S => .ok (.val (.int i)) S) :=
  ⟨_, zFY (v := .int i) hg hm ⟨t, rfl⟩ hd, fun α ρ S σ H Q wd sl q => Post.val q wd (yI i)⟩
theorem zRL {x : Str} {y : List Nat} {t : Tok} (hg : Gl X x) (hm : X.mg x = some (.str (mkS y) t)) (hd : (x == ("__debug__" : Str)) = false := by decide) : PEm X W (.Name x pos) (fun _ S => .ok (.val (.str y)) S) :=
  ⟨_, zFY (v := .str (mkS y)) hg hm ⟨t, rfl⟩ hd, fun α ρ S σ H Q wd sl q => Post.val q wd (wI y)⟩
theorem zIE {x : Str} {T : String} (hg : Gl X x) (hm : X.mg x = none) (hv : bootBuiltins x = some (.type T)) (hn : x ≠ "__name__" := by decide) (hd : (x == ("__debug__" : Str)) = false := by decide) : PEm X W (.Name x pos) (fun _ S => .ok (.val (.typ T)) S) :=
  ⟨_, zKX (v := .ty T) hg hm hv rfl hn hd, fun α ρ S σ H Q wd sl q => Post.val q wd (zLE T)⟩
theorem zUT {i : Int} {j : Nat} {p3 : Pos} : PEm X W (.UnaryOp .USub (.Constant (.int i) j p3) pos) (fun _ S => .ok (.val (.int (-i))) S) :=
  ⟨_, pe_un zTY zJK, fun α ρ S σ H Q wd sl q => ⟨i, rfl, Post.val q wd (yI (-i))⟩⟩
noncomputable def Op2 (X : Cx) (W : XW) (r : R2) (F : Er → Er → Sto → R Er) : Prop := ∀ p q x y α S H Q, Wd X.g α S H → DenX X.K α H p x → DenX X.K α H q y → Post X.g W α H (F p q S) Q → r x y H Q
theorem two {r : R2} {F : Er → Er → Sto → R Er} (hF : Op2 X W r F) {ta tb : TE} (fa : ∀ α ρ S σ H Q, Wd X.g α S H → Slots X.K α H ρ σ → Post X.g W α H (f ρ S) Q → ta σ H Q)
    (fb : ∀ α ρ S σ H Q, Wd X.g α S H → Slots X.K α H ρ σ → Post X.g W α H (g ρ S) Q → tb σ H Q) {α : List Addr} {ρ : Rho} {S : Sto} {σ : St} {H : Hp} {Q : VK} (wd : Wd X.g α S H) (sl : Slots X.K α H ρ σ)
    (q : Post X.g W α H ((f ρ S).bind fun p S1 => (g ρ S1).bind fun q S2 => F p q S2) Q) : ta σ H fun x H1 => tb σ H1 fun y H2 => r x y H2 Q :=
  fa α ρ S σ H _ wd sl (q.bind fun u p S1 α1 H1 e1 x1 w1 d1 q1 => fb α1 ρ S1 σ H1 _ w1 (sl.ext x1) ((q1.shift x1).bind fun u2 p2 S2 α2 H2 e2 x2 w2 d2 q2 =>
    hF p p2 u u2 α2 S2 H2 Q w2 (d1.1.ext x2) d2.1 (q2.shift x2)))
theorem zFM {op : Operator} {r : R2} {F : Er → Er → Sto → R Er} (ho : OpR X (binaryOp op) r) (hF : Op2 X W r F) (ha : PEm X W a f) (hb : PEm X W b g) : PEm X W (.BinOp a op b pos) (fun ρ S => (f ρ S).bind fun p S1 => (g ρ S1).bind fun q S2 => F p q S2) := by
  obtain ⟨ta, ha, fa⟩ := ha
  obtain ⟨tb, hb, fb⟩ := hb
  exact ⟨_, pe_op ho ha hb, fun α ρ S σ H Q wd sl q => two hF fa fb wd sl q⟩
theorem zJX {op : CmpOp} {r : R2} {F : Er → Er → Sto → R Er} (ho : OpR X (compareOp op) r) (hF : Op2 X W r F) (ha : PEm X W a f) (hb : PEm X W b g) (hm : behindInMarks op b = false := by first | exact zNX _ | with_unfolding_all rfl) :
    PEm X W (.Compare a [op] [b] pos) (fun ρ S => (f ρ S).bind fun p S1 => (g ρ S1).bind fun q S2 => F p q S2) := by
  obtain ⟨ta, ha, fa⟩ := ha
  obtain ⟨tb, hb, fb⟩ := hb
  exact ⟨_, zQT ho ha hb hm, fun α ρ S σ H Q wd sl q => two hF fa fb wd sl q⟩
theorem pm_ix {r : R2} {F : Er → Er → Sto → R Er} (ho : IxR X r) (hF : Op2 X W r F) (ha : PEm X W a f) (hb : PEm X W b g) (hs : zGE b := by exact fun _ _ => rfl) :
    PEm X W (.Subscript a b pos) (fun ρ S => (f ρ S).bind fun p S1 => (g ρ S1).bind fun q S2 => F p q S2) := by
  obtain ⟨ta, ha, fa⟩ := ha
  obtain ⟨tb, hb, fb⟩ := hb
  exact ⟨_, pe_ix ho ha hb hs, fun α ρ S σ H Q wd sl q => two hF fa fb wd sl q⟩
noncomputable def asB : Er → Sto → R Bool
  | .val (.bl b), S => .ok b S
  | _, _ => .no
theorem zIF {p : Er} {S : Sto} {α : List Addr} {H : Hp} {Q : Bool → Hp → Prop} (q : Post X.g W α H (asB p S) Q) : ∃ k, p = .val (.bl k) ∧ Post X.g W α H (.ok k S) Q := by
  unfold asB at q
  split at q
  · exact ⟨_, rfl, q⟩
  · exact q.elim
theorem zAL {β τ : Type} [Dn β τ] {p : Er} {S : Sto} {α : List Addr} {H : Hp} {k : Bool → Sto → R β} {Q : τ → Hp → Prop} (q : Post X.g W α H ((asB p S).bind k) Q) : ∃ c, p = .val (.bl c) ∧ Post X.g W α H (k c S) Q := by
  unfold asB at q
  split at q
  · exact ⟨_, rfl, q⟩
  · exact q.elim
theorem zGN {op : CmpOp} {r : R2} {F : Er → Er → Sto → R Er} (ho : OpR X (compareOp op) r) (hF : Op2 X W r F) (ha : PEm X W a f) (hb : PEm X W b g) (hm : behindInMarks op b = false := by first | exact zNX _ | with_unfolding_all rfl) :
    PTm X W (.Compare a [op] [b] pos) (fun ρ S => ((f ρ S).bind fun p S1 => (g ρ S1).bind fun q S2 => F p q S2).bind asB) := by
  obtain ⟨ta, ha, fa⟩ := ha
  obtain ⟨tb, hb, fb⟩ := hb
  refine ⟨_, zQU ho ha hb hm, fun α ρ S σ H Q wd sl q => ?_⟩
  refine two hF fa fb wd sl (Q := fun x H' => ∃ k, x = .bl k ∧ Q k H') (q.bind fun u p S1 α1 H1 e1 x1 w1 d1 q1 => ?_)
  obtain ⟨k, rfl, q2⟩ := zIF (q1.shift x1)
  exact ⟨k, cZ d1.1, q2.here w1 rfl⟩
noncomputable def chF (F G : Er → Er → Sto → R Er) (p q : Er) (S : Sto) (k : Sto → R Er) : R Er := (F p q S).bind fun z S1 => (asB z S1).bind fun c S2 => if c = true then (k S2).bind fun r S3 => G q r S3 else .ok (.val (.bl false)) S2
theorem chain {r r' : R2} {F G : Er → Er → Sto → R Er} (hF : Op2 X W r F) (hG : Op2 X W r' G) {ta tb tc : TE} (fa : ∀ α ρ S σ H Q, Wd X.g α S H → Slots X.K α H ρ σ → Post X.g W α H (f ρ S) Q → ta σ H Q)
    (fb : ∀ α ρ S σ H Q, Wd X.g α S H → Slots X.K α H ρ σ → Post X.g W α H (g ρ S) Q → tb σ H Q) (fc : ∀ α ρ S σ H Q, Wd X.g α S H → Slots X.K α H ρ σ → Post X.g W α H (h ρ S) Q → tc σ H Q) {α : List Addr} {ρ : Rho} {S : Sto} {σ : St} {H : Hp} {Q : VK} (wd : Wd X.g α S H) (sl : Slots X.K α H ρ σ)
    (q : Post X.g W α H ((f ρ S).bind fun p S1 => (g ρ S1).bind fun q S2 => chF F G p q S2 fun S3 => h ρ S3) Q) : zJM r r' ta tb tc σ H Q :=
  fa α ρ S σ H _ wd sl (q.bind fun u p S1 α1 H1 e1 x1 w1 d1 q1 => fb α1 ρ S1 σ H1 _ w1 (sl.ext x1) ((q1.shift x1).bind fun u2 p2 S2 α2 H2 e2 x2 w2 d2 q2 => by
    refine hF p p2 u u2 α2 S2 H2 _ w2 (d1.1.ext x2) d2.1 (Post.bind (q2.shift x2) fun u3 p3 S3 α3 H3 e3 x3 w3 d3 q3 => ?_)
    obtain ⟨k, rfl, q4⟩ := zAL (q3.shift x3)
    refine ⟨k, cZ d3.1, ?_⟩
    cases k with
    | true =>
      rw [if_pos rfl] at q4 ⊢
      exact fc α3 ρ S3 σ H3 _ w3 (((sl.ext x1).ext x2).ext x3) (q4.bind fun u5 p5 S5 α5 H5 e5 x5 w5 d5 q5 => hG p2 p5 u2 u5 α5 S5 H5 Q w5 ((d2.1.ext x3).ext x5) d5.1 (q5.shift x5))
    | false =>
      rw [if_neg Bool.false_ne_true] at q4 ⊢
      exact Post.val q4 w3 (yT false)))
theorem zOR {op op' : CmpOp} {r r' : R2} {F G : Er → Er → Sto → R Er} (ho : OpR X (compareOp op) r) (ho' : OpR X (compareOp op') r') (hF : Op2 X W r F) (hG : Op2 X W r' G) (ha : PEm X W a f) (hb : PEm X W b g) (hc : PEm X W c h)
    (hm : lastMarks [op, op'] [b, c] = false := by with_unfolding_all rfl) :
    PEm X W (.Compare a [op, op'] [b, c] pos) (fun ρ S => (f ρ S).bind fun p S1 => (g ρ S1).bind fun q S2 => chF F G p q S2 fun S3 => h ρ S3) := by
  obtain ⟨ta, ha, fa⟩ := ha
  obtain ⟨tb, hb, fb⟩ := hb
  obtain ⟨tc, hc, fc⟩ := hc
  exact ⟨_, zNY ho ho' ha hb hc hm, fun α ρ S σ H Q wd sl q => chain hF hG fa fb fc wd sl q⟩
theorem zOS {op op' : CmpOp} {r r' : R2} {F G : Er → Er → Sto → R Er} (ho : OpR X (compareOp op) r) (ho' : OpR X (compareOp op') r') (hF : Op2 X W r F) (hG : Op2 X W r' G) (ha : PEm X W a f) (hb : PEm X W b g) (hc : PEm X W c h)
    (hm : lastMarks [op, op'] [b, c] = false := by with_unfolding_all rfl) :
    PTm X W (.Compare a [op, op'] [b, c] pos) (fun ρ S => ((f ρ S).bind fun p S1 => (g ρ S1).bind fun q S2 => chF F G p q S2 fun S3 => h ρ S3).bind asB) := by
  obtain ⟨ta, ha, fa⟩ := ha
  obtain ⟨tb, hb, fb⟩ := hb
  obtain ⟨tc, hc, fc⟩ := hc
  refine ⟨_, zNZ ho ho' ha hb hc hm, fun α ρ S σ H Q wd sl q => ?_⟩
  refine chain hF hG fa fb fc wd sl (Q := fun x H' => ∃ k, x = .bl k ∧ Q k H') (q.bind fun u p S1 α1 H1 e1 x1 w1 d1 q1 => ?_)
  obtain ⟨k, rfl, q2⟩ := zIF (q1.shift x1)
  exact ⟨k, cZ d1.1, q2.here w1 rfl⟩
noncomputable def zDI : Er → Sto → R Bool
  | .val .non, S => .ok false S
  | .val (.bl b), S => .ok b S
  | .val (.int i), S => .ok (i != 0) S
  | .val (.str x), S => if x.length ≤ sizeLine then .ok (!x.isEmpty) S else .no
  | .val (.tup ds), S => .ok (!ds.isEmpty) S
  | .val (.scr ds), S => .ok (!ds.isEmpty) S
  | .val (.loc l), S => match S[l]? with
    | some (.lst ds) => .ok (!ds.isEmpty) S
    | _ => .no
  | .val (.typ _), _ => .no
  | .new ds, S => .ok (!ds.isEmpty) S
theorem nA {ds : List MV} {vs : List V} {K : PySem.W.Frag} {α : List Addr} {H : Hp} (l : DenL K α H ds vs) : (!vs.isEmpty) = !ds.isEmpty := by
  have := l.length
  cases ds <;> cases vs <;> simp_all
theorem zOT {p : Er} {x : V} {S : Sto} {α : List Addr} {H : Hp} {Q : Bool → Hp → Prop} (wd : Wd X.g α S H) (d : DenX X.K α H p x) (q : Post X.g W α H (zDI p S) Q) : ∃ k, TruV X.K x H k ∧ Q k H := by
  match p, d, q with
  | .val .non, d, q => cases zJW d; exact ⟨_, rfl, q.here wd rfl⟩
  | .val (.bl b), d, q => cases cZ d; exact ⟨_, rfl, q.here wd rfl⟩
  | .val (.int i), d, q => cases yB d; exact ⟨_, rfl, q.here wd rfl⟩
  | .val (.typ n), d, q => exact q.elim
  | .val (.str z), d, q =>
    cases yJ d
    have q' : Post X.g W α H (if z.length ≤ sizeLine then R.ok (!z.isEmpty) S else R.no) Q := q
    split at q'
    · rename_i hz
      refine ⟨_, ⟨by rw [yH]; exact hz, ?_⟩, q'.here wd rfl⟩
      rw [yH]
      cases z with
      | nil => rfl
      | cons c r =>
        have h0 : ((r.length : Int) + 1) ≠ 0 := by omega
        simp [h0]
    · exact q'.elim
  | .val (.tup ds), d, q =>
    obtain ⟨a, vs, rfl, s, l⟩ := bK d
    exact ⟨_, .inr (.inl ⟨vs, s, (nA l).symm⟩), q.here wd rfl⟩
  | .val (.scr ds), d, q =>
    obtain ⟨a, vs, rfl, s, l⟩ := zGM d
    exact ⟨_, .inl ⟨vs, s.l, (nA l).symm⟩, q.here wd rfl⟩
  | .val (.loc n), d, q =>
    obtain ⟨a, rfl, h⟩ := zBE d
    obtain ⟨o, h1, h2⟩ := wd.of h
    have q' : Post X.g W α H (match S[n]? with | some (.lst ds) => R.ok (!ds.isEmpty) S | _ => R.no) Q := q
    rw [h1] at q'
    cases o with
    | lst ds =>
      obtain ⟨vs, h3, l⟩ := h2
      exact ⟨_, .inl ⟨vs, .of h3, (nA l).symm⟩, q'.here wd rfl⟩
    | dic ds => exact q'.elim
    | ins c fs => exact q'.elim
  | .new ds, ⟨a, vs, ex, s, n, l⟩, q => subst ex; exact ⟨_, .inl ⟨vs, .of s, (nA l).symm⟩, q.here wd rfl⟩
theorem kE (ha : PEm X W a f) (he : ∀ whole, isTrue a X.env whole = (do let v ← whole; standAt a.pos; holding [v] (truthy v)) := by intro _; rfl) : PTm X W a (fun ρ S => (f ρ S).bind zDI) := by
  obtain ⟨ta, ha, fa⟩ := ha
  exact ⟨_, zOA ha he, fun α ρ S σ H Q wd sl q => fa α ρ S σ H _ wd sl (q.bind fun u p S1 α1 H1 e1 x1 w1 d1 q1 => zOT w1 d1.1 (q1.shift x1))⟩
end
end M
end L2
namespace L2
namespace M
open PySem PySem.Spec PyProof.Rows
section
variable {X : Cx} {W : XW} {a b c e : Expr} {es : List Expr} {f g h : Rho → Sto → R Er} {tf tg : Rho → Sto → R Bool} {af : Rho → Sto → R (List Er)} {pos : Pos}
noncomputable def zJY (p : Er) (S : Sto) (k : Sto → R Er) : R Er := (asB p S).bind fun c S1 => if c = true then k S1 else .ok (.val (.bl false)) S1
noncomputable def orF (p : Er) (S : Sto) (k : Sto → R Er) : R Er := (asB p S).bind fun c S1 => if c = true then .ok (.val (.bl true)) S1 else k S1
theorem zJZ {op} (ha : PEm X W a f) : PEm X W (.BoolOp op [a] pos) f := let ⟨t, h, k⟩ := ha; ⟨t, zTO h, k⟩
theorem zKA (ha : PEm X W a f) (hb : PEm X W (.BoolOp .And (b :: es) pos) g) : PEm X W (.BoolOp .And (a :: b :: es) pos) (fun ρ S => (f ρ S).bind fun p S1 => zJY p S1 fun S2 => g ρ S2) := by
  obtain ⟨ta, ha, fa⟩ := ha
  obtain ⟨tb, hb, fb⟩ := hb
  refine ⟨_, zTP ha hb, fun α ρ S σ H Q wd sl q => fa α ρ S σ H _ wd sl (q.bind fun u p S1 α1 H1 e1 x1 w1 d1 q1 => ?_)⟩
  obtain ⟨k, rfl, q2⟩ := zAL (q1.shift x1)
  refine ⟨k, cZ d1.1, ?_⟩
  cases k with
  | true => rw [if_pos rfl] at q2 ⊢; exact fb α1 ρ S1 σ H1 _ w1 (sl.ext x1) q2
  | false => rw [if_neg Bool.false_ne_true] at q2 ⊢; exact Post.val q2 w1 (yT false)
theorem pm_or (ha : PEm X W a f) (hb : PEm X W (.BoolOp .Or (b :: es) pos) g) : PEm X W (.BoolOp .Or (a :: b :: es) pos) (fun ρ S => (f ρ S).bind fun p S1 => orF p S1 fun S2 => g ρ S2) := by
  obtain ⟨ta, ha, fa⟩ := ha
  obtain ⟨tb, hb, fb⟩ := hb
  refine ⟨_, pe_or ha hb, fun α ρ S σ H Q wd sl q => fa α ρ S σ H _ wd sl (q.bind fun u p S1 α1 H1 e1 x1 w1 d1 q1 => ?_)⟩
  obtain ⟨k, rfl, q2⟩ := zAL (q1.shift x1)
  refine ⟨k, cZ d1.1, ?_⟩
  cases k with
  | true => rw [if_pos rfl] at q2 ⊢; exact Post.val q2 w1 (yT true)
  | false => rw [if_neg Bool.false_ne_true] at q2 ⊢; exact fb α1 ρ S1 σ H1 _ w1 (sl.ext x1) q2
theorem zUU (ha : PEm X W a f) : PEm X W (.UnaryOp .Not a pos) (fun ρ S => (f ρ S).bind fun p S1 => (asB p S1).bind fun k S2 => .ok (.val (.bl !k)) S2) := by
  obtain ⟨ta, ha, fa⟩ := ha
  refine ⟨_, zTQ ha, fun α ρ S σ H Q wd sl q => fa α ρ S σ H _ wd sl (q.bind fun u p S1 α1 H1 e1 x1 w1 d1 q1 => ?_)⟩
  obtain ⟨k, rfl, q2⟩ := zAL (q1.shift x1)
  exact ⟨k, cZ d1.1, Post.val q2 w1 (yT _)⟩
theorem pm_if (hc : PTm X W c tf) (ha : PEm X W a f) (hb : PEm X W b g) : PEm X W (.IfExp c a b pos) (fun ρ S => (tf ρ S).bind fun k S1 => if k = true then f ρ S1 else g ρ S1) := by
  obtain ⟨tc, hc, fc⟩ := hc
  obtain ⟨ta, ha, fa⟩ := ha
  obtain ⟨tb, hb, fb⟩ := hb
  refine ⟨_, zNQ hc ha hb, fun α ρ S σ H Q wd sl q => fc α ρ S σ H _ wd sl (q.bind fun u p S1 α1 H1 e1 x1 w1 d1 q1 => ?_)⟩
  cases d1
  cases u with
  | true => rw [if_pos rfl] at q1 ⊢; exact fa α1 ρ S1 σ H1 _ w1 (sl.ext x1) (q1.shift x1)
  | false => rw [if_neg Bool.false_ne_true] at q1 ⊢; exact fb α1 ρ S1 σ H1 _ w1 (sl.ext x1) (q1.shift x1)
theorem zLI (ha : PTm X W a tf) : PWm X W (.BoolOp .And [a] pos) tf := let ⟨t, h, k⟩ := ha; ⟨t, zQO h, k⟩
theorem zOU (ha : PTm X W a tf) : PWm X W (.BoolOp .Or [a] pos) tf := let ⟨t, h, k⟩ := ha; ⟨t, zTL h, k⟩
theorem zOV (ha : PTm X W a tf) (hb : PWm X W (.BoolOp .And (b :: es) pos) tg) : PWm X W (.BoolOp .And (a :: b :: es) pos) (fun ρ S => (tf ρ S).bind fun k S1 => if k = true then tg ρ S1 else .ok false S1) := by
  obtain ⟨ta, ha, fa⟩ := ha
  obtain ⟨tb, hb, fb⟩ := hb
  refine ⟨_, zTM ha hb, fun α ρ S σ H Q wd sl q => fa α ρ S σ H _ wd sl (q.bind fun u p S1 α1 H1 e1 x1 w1 d1 q1 => ?_)⟩
  cases d1
  cases u with
  | true => rw [if_pos rfl] at q1 ⊢; exact fb α1 ρ S1 σ H1 _ w1 (sl.ext x1) (q1.shift x1)
  | false => rw [if_neg Bool.false_ne_true] at q1 ⊢; exact (q1.shift x1).here w1 rfl
theorem zOW (ha : PTm X W a tf) (hb : PWm X W (.BoolOp .Or (b :: es) pos) tg) : PWm X W (.BoolOp .Or (a :: b :: es) pos) (fun ρ S => (tf ρ S).bind fun k S1 => if k = true then .ok true S1 else tg ρ S1) := by
  obtain ⟨ta, ha, fa⟩ := ha
  obtain ⟨tb, hb, fb⟩ := hb
  refine ⟨_, pw_or ha hb, fun α ρ S σ H Q wd sl q => fa α ρ S σ H _ wd sl (q.bind fun u p S1 α1 H1 e1 x1 w1 d1 q1 => ?_)⟩
  cases d1
  cases u with
  | true => rw [if_pos rfl] at q1 ⊢; exact (q1.shift x1).here w1 rfl
  | false => rw [if_neg Bool.false_ne_true] at q1 ⊢; exact fb α1 ρ S1 σ H1 _ w1 (sl.ext x1) (q1.shift x1)
theorem zLJ (h : PWm X W a tf) : PTm X W a tf := let ⟨t, h, k⟩ := h; ⟨t, h.pt, k⟩
theorem nY (ha : PTm X W a tf) : PTm X W (.UnaryOp .Not a pos) (fun ρ S => (tf ρ S).bind fun k S1 => .ok (!k) S1) := by
  obtain ⟨ta, ha, fa⟩ := ha
  refine ⟨_, zTN ha, fun α ρ S σ H Q wd sl q => fa α ρ S σ H _ wd sl (q.bind fun u p S1 α1 H1 e1 x1 w1 d1 q1 => ?_)⟩
  cases d1
  exact (q1.shift x1).here w1 rfl
end
section
variable {K : PySem.W.Frag} {H0 : Hp}
noncomputable def zK : List Er → Sto → List MV × Sto
  | [], S => ([], S)
  | .val d :: rs, S => ((d :: (zK rs S).1), (zK rs S).2)
  | .new xs :: rs, S => ((.loc S.length :: (zK rs (S ++ [.lst xs])).1), (zK rs (S ++ [.lst xs])).2)
theorem ArgsE.grow {H0 : Hp} {α : List Addr} {H : Hp} {b : Addr} {rs : List Er} {vs : List V} (q : ArgsE K H0 α H rs vs) (n : b ∉ nL rs vs) : ArgsE K H0 (α ++ [b]) H rs vs := by
  induction q with
  | nil => exact .nil
  | @cons r v rs vs a m l ih =>
    cases r with
    | val d => exact .cons ⟨Den.ex0 (Ex0.grow α [b] H) a.1, trivial⟩ m (ih (by simpa [nL] using n))
    | new ds =>
      obtain ⟨⟨c, us, rfl, h1, h2, h3⟩, h4⟩ := a
      have n' : b ∉ c :: nL rs vs := n
      refine .cons ⟨⟨c, us, rfl, h1, fun z => ?_, h3.ex0 (Ex0.grow α [b] H)⟩, h4⟩ m (ih fun z => n' (List.mem_cons_of_mem _ z))
      rcases List.mem_append.mp z with z | z
      · exact h2 z
      · exact n' (by rw [List.mem_singleton.mp z]; exact List.mem_cons_self)
theorem bB {g : Gm} {H0 : Hp} {α0 : List Addr} {H : Hp} : ∀ {rs : List Er} {vs : List V} {α : List Addr} {S : Sto}, Wd g α S H → Ext α0 H0 α H → ArgsE g.K H0 α H rs vs →
    ∃ α', Ext α0 H0 α' H ∧ Ex0 α H α' H ∧ Wd g α' (zK rs S).2 H ∧ DenL g.K α' H (zK rs S).1 vs
  | _, _, α, S, w, x, .nil => ⟨α, x, ⟨⟨[], by simp⟩, fun _ _ h => h, fun _ _ _ h => h⟩, w, yN⟩
  | .val d :: rs, v :: vs, α, S, w, x, .cons a n l => by
    obtain ⟨α', x', y', w', l'⟩ := bB w x l
    exact ⟨α', x', y', w', yE (Den.ex0 y' a.1) l'⟩
  | .new ds :: rs, v :: vs, α, S, w, x, .cons a n l => by
    obtain ⟨⟨c, us, rfl, h1, h2, h3⟩, h4⟩ := a
    obtain ⟨α', x', y', w', l'⟩ := bB (w.enter h1 h2 h3) (w.enterx x (h4 c rfl) h2) (l.grow (n ds c rfl rfl))
    refine ⟨α', x', ⟨?_, y'.tup, y'.frz⟩, w', yE (zCI (y'.at ?_)) l'⟩
    · obtain ⟨t, e⟩ := y'.pre
      exact ⟨[c] ++ t, by rw [e, List.append_assoc]⟩
    · rw [← w.len, List.getElem?_append_right (Nat.le_refl _), Nat.sub_self]; rfl
theorem nB : ∀ (rs : List Er) (S : Sto), (zK rs S).1.length = rs.length
  | [], S => rfl
  | .val d :: rs, S => by show (d :: (zK rs S).1).length = _; rw [List.length_cons, nB rs S]; rfl
  | .new ds :: rs, S => by show (_ :: (zK rs _).1).length = _; rw [List.length_cons, nB rs _]; rfl
end
section
variable {X : Cx} {W : XW} {a b c e : Expr} {es : List Expr} {f g h : Rho → Sto → R Er} {tf tg : Rho → Sto → R Bool} {af : Rho → Sto → R (List Er)} {pos : Pos}
theorem zE : PAm X W [] (fun _ S => .ok [] S) := ⟨_, zJP, fun α ρ S σ H Q wd sl q => q.here wd .nil⟩
theorem zB (ha : PEm X W a f) (hr : PAm X W es af) (hs : starEach (a :: es) X.env = (false, eval a X.env) :: starEach es X.env := by rfl) : PAm X W (a :: es) (fun ρ S => (f ρ S).bind fun p S1 => (af ρ S1).bind fun ps S2 => .ok (p :: ps) S2) := by
  obtain ⟨ta, ha, fa⟩ := ha
  obtain ⟨tr, hr, fr⟩ := hr
  refine ⟨_, zAG ha hr hs, fun α ρ S σ H Q wd sl q => fa α ρ S σ H _ wd sl (q.bind fun u p S1 α1 H1 e1 x1 w1 d1 q1 => fr α1 ρ S1 σ H1 _ w1 (sl.ext x1) ?_)⟩
  have q1' : Post X.g W α H ((af ρ S1).bind fun ps S2 => .ok (p :: ps) S2) Q := q1
  cases z : af ρ S1 with
  | ok ps S2 =>
    rw [z] at q1'
    intro vs α2 H2 x2 w2 d2
    refine q1' (u :: vs) α2 H2 (x1.trans x2) w2 (ArgsE.cons (DenE.ext x2 d1) (fun ds b er eu hb => ?_) (ArgsE.back (fun b h => x1.free h) d2))
    subst er eu
    obtain ⟨⟨c, us, ec, h1, _⟩, _⟩ := d1
    cases ec
    have := ArgsE.nones d2 _ hb
    rw [h1] at this; cases this
  | exc c fs S2 => rw [z] at q1'; exact fun α2 H2 x2 w2 => q1' α2 H2 (x1.trans x2) w2
  | no => rw [z] at q1'; exact q1'
noncomputable def zIG (rs : List Er) (S : Sto) : R Er := if rs.length ≤ sizeLine then .ok (.val (.tup (zK rs S).1)) (zK rs S).2 else .no
noncomputable def xH (rs : List Er) (S : Sto) : R Er := if rs.length ≤ sizeLine then .ok (.new (zK rs S).1) (zK rs S).2 else .no
theorem zOX {x1} (h : PAm X W es af) : PEm X W (.Tuple es x1 pos) (fun ρ S => (af ρ S).bind zIG) := by
  obtain ⟨t, h, k⟩ := h
  refine ⟨_, zUA h, fun α ρ S σ H Q wd sl q => k α ρ S σ H _ wd sl (q.bind fun vs rs S1 α1 H1 e1 x1 w1 d1 q1 => ?_)⟩
  have q1' : Post X.g W α H (if rs.length ≤ sizeLine then R.ok (Er.val (.tup (zK rs S1).1)) (zK rs S1).2 else R.no) Q := q1
  split at q1'
  · rename_i hz
    obtain ⟨α2, x2, y2, w2, l2⟩ := bB w1 x1 d1
    exact ⟨by rw [ArgsE.length d1]; exact hz, fun p hp => (q1'.shift x2).newt w2 hp l2⟩
  · exact q1'.elim
theorem yF (h : PAm X W es af) : PEm X W (.List es pos) (fun ρ S => (af ρ S).bind xH) := by
  obtain ⟨t, h, k⟩ := h
  refine ⟨_, zUB h, fun α ρ S σ H Q wd sl q => k α ρ S σ H _ wd sl (q.bind fun vs rs S1 α1 H1 e1 x1 w1 d1 q1 => ?_)⟩
  have q1' : Post X.g W α H (if rs.length ≤ sizeLine then R.ok (Er.new (zK rs S1).1) (zK rs S1).2 else R.no) Q := q1
  split at q1'
  · rename_i hz
    obtain ⟨α2, x2, y2, w2, l2⟩ := bB w1 x1 d1
    exact ⟨by rw [ArgsE.length d1]; exact hz, fun p hp => (q1'.shift x2).newl w2 hp l2⟩
  · exact q1'.elim
inductive ArgsX (K : PySem.W.Frag) (α : List Addr) (H : Hp) : List Er → List V → Prop
  | nil : ArgsX K α H [] []
  | cons {r v rs vs} : DenX K α H r v → ArgsX K α H rs vs → ArgsX K α H (r :: rs) (v :: vs)
theorem ArgsE.x {K : PySem.W.Frag} {H0 : Hp} {α : List Addr} {H : Hp} : ∀ {rs vs}, ArgsE K H0 α H rs vs → ArgsX K α H rs vs
  | _, _, .nil => .nil
  | _, _, .cons a _ l => .cons a.1 (ArgsE.x l)
noncomputable def zDJ (X : Cx) (W : XW) (r : List V → Hp → VK → Prop) (F : List Er → Sto → R Er) : Prop := ∀ rs vs α S H Q, Wd X.g α S H → ArgsX X.K α H rs vs → Post X.g W α H (F rs S) Q → r vs H Q
theorem yO {id : String} {r : List V → Hp → VK → Prop} {F : List Er → Sto → R Er} {x : Str} {p : Pos} (hc : CallR X (.builtin id) r) (hF : zDJ X W r F) (hg : Gl X x) (hm : X.mg x = none) (hv : bootBuiltins x = some (.builtin id)) (ha : PAm X W (e :: es) af)
    (hn : x ≠ "__name__" := by decide) (hdb : (x == ("__debug__" : Str)) = false := by decide)
    (he : starEach (e :: es) X.env = (false, eval e X.env) :: starEach es X.env := by rfl) (hpl : (backTo pos (starEach es X.env)).any (·.1) = false := by rfl) : PEm X W (.Call (.Name x p) (e :: es) [] pos) (fun ρ S => (af ρ S).bind F) := by
  obtain ⟨t, ha, k⟩ := ha
  exact ⟨_, zCU hc hg hm hv ha hn hdb he hpl, fun α ρ S σ H Q wd sl q => k α ρ S σ H _ wd sl (q.bind fun vs rs S1 α1 H1 e1 x1 w1 d1 q1 => hF rs vs α1 S1 H1 Q w1 (ArgsE.x d1) (q1.shift x1))⟩
theorem bC {T : String} {r : List V → Hp → VK → Prop} {F : List Er → Sto → R Er} {x : Str} {p : Pos} (hc : CallR X (.type T) r) (hF : zDJ X W r F) (hg : Gl X x) (hm : X.mg x = none) (hv : bootBuiltins x = some (.type T)) (ha : PAm X W (e :: es) af)
    (hn : x ≠ "__name__" := by decide) (hdb : (x == ("__debug__" : Str)) = false := by decide)
    (he : starEach (e :: es) X.env = (false, eval e X.env) :: starEach es X.env := by rfl) (hpl : (backTo pos (starEach es X.env)).any (·.1) = false := by rfl) : PEm X W (.Call (.Name x p) (e :: es) [] pos) (fun ρ S => (af ρ S).bind F) := by
  obtain ⟨t, ha, k⟩ := ha
  exact ⟨_, zML hc hg hm hv ha hn hdb he hpl, fun α ρ S σ H Q wd sl q => k α ρ S σ H _ wd sl (q.bind fun vs rs S1 α1 H1 e1 x1 w1 d1 q1 => hF rs vs α1 S1 H1 Q w1 (ArgsE.x d1) (q1.shift x1))⟩
noncomputable def MtdM (X : Cx) (W : XW) (r : V → List V → Hp → VK → Prop) (F : Er → List Er → Sto → R Er) : Prop := ∀ p rs x vs α S H0 H Q α0, Wd X.g α S H → Ext α0 H0 α H → DenX X.K α H p x → ArgsE X.K H0 α H rs vs → Post X.g W α0 H0 (F p rs S) Q → r x vs H Q
noncomputable def TyM (X : Cx) (T : String) (ty : Er → Sto → Bool) : Prop := ∀ p x α S H, Wd X.g α S H → DenX X.K α H p x → ty p S = true → tyV X.K T x H
theorem zLK {T : String} {name : Str} {id : String} {r : V → List V → Hp → VK → Prop} {F : Er → List Er → Sto → R Er} {ty : Er → Sto → Bool} {apos : Pos} (pa : PlainAttrs T) (slot : Slot T name id) (hty : typeOf (.builtin id) = pure (.type "method_descriptor")) (hm : MtR X id r) (hF : MtdM X W r F) (hT : TyM X T ty)
    (ho : PEm X W a f) (ha : PAm X W (e :: es) af)
    (hbase : attributeBase a name X.env (eval a X.env) = eval a X.env := by rfl)
    (hfew : ((backTo pos (starEach (e :: es) X.env)).all (fun x => !x.1) && (backToKw pos (keywordEach [] X.env)).all (fun x => x.1.isSome)
      && decide ((e :: es).length + ([] : List Keyword).length + (if ([] : List Keyword).isEmpty then 0 else 1) < 30)) = true := by rfl)
    (hline : (apos.endLine == pos.line) = true := by rfl) (hs : starEach (e :: es) X.env = (false, eval e X.env) :: starEach es X.env := by rfl) (hplain : (backTo pos (starEach es X.env)).any (·.1) = false := by rfl) :
    PEm X W (.Call (.Attribute a name apos) (e :: es) [] pos) (fun ρ S => (f ρ S).bind fun p S1 => if ty p S1 = true then (af ρ S1).bind fun rs S2 => F p rs S2 else .no) := by
  obtain ⟨to, ho, fo⟩ := ho
  obtain ⟨t, ha, k⟩ := ha
  refine ⟨_, pe_bm pa slot hty hm ho ha hbase hfew hline hs hplain, fun α ρ S σ H Q wd sl q => fo α ρ S σ H _ wd sl (q.bind fun u p S1 α1 H1 e1 x1 w1 d1 q1 => ?_)⟩
  split at q1
  · rename_i hz
    exact ⟨hT p u α1 S1 H1 w1 d1.1 hz, k α1 ρ S1 σ H1 _ w1 (sl.ext x1) ((q1.shift x1).bind fun vs rs S2 α2 H2 e2 x2 w2 d2 q2 => hF p rs u vs α2 S2 H1 H2 Q α1 w2 x2 (d1.1.ext x2) d2 q2)⟩
  · exact q1.elim
theorem kC : POm X W none (fun _ S => .ok none S) := ⟨_, zQX, fun α ρ S σ H Q wd sl q => q.here wd rfl⟩
noncomputable def asI : Er → Sto → R (Option Int)
  | .val (.int i), S => .ok (some i) S
  | _, _ => .no
theorem gF (ha : PEm X W a f) : POm X W (some a) (fun ρ S => (f ρ S).bind asI) := by
  obtain ⟨ta, ha, fa⟩ := ha
  refine ⟨_, zQY ha, fun α ρ S σ H Q wd sl q => fa α ρ S σ H _ wd sl (q.bind fun u p S1 α1 H1 e1 x1 w1 d1 q1 => ?_)⟩
  unfold asI at q1
  split at q1
  · exact ⟨_, yB d1.1, (q1.shift x1).here w1 rfl⟩
  · exact q1.elim
noncomputable def Sl3 (X : Cx) (W : XW) (r : V → Option Int → Option Int → Hp → VK → Prop) (F : Er → Option Int → Option Int → Sto → R Er) : Prop := ∀ p lo hi x α S H Q, Wd X.g α S H → DenX X.K α H p x → Post X.g W α H (F p lo hi S) Q → r x lo hi H Q
theorem zOY {lo hi : Option Expr} {r : V → Option Int → Option Int → Hp → VK → Prop} {F : Er → Option Int → Option Int → Sto → R Er} {lf hf : Rho → Sto → R (Option Int)} {p2 : Pos} (hr : SlR X r) (hF : Sl3 X W r F) (ha : PEm X W a f) (hl : POm X W lo lf) (hh : POm X W hi hf) :
    PEm X W (.Subscript a (.Slice lo hi none p2) pos) (fun ρ S => (f ρ S).bind fun p S1 => (lf ρ S1).bind fun l S2 => (hf ρ S2).bind fun u S3 => F p l u S3) := by
  obtain ⟨ta, ha, fa⟩ := ha
  obtain ⟨tl, hl, fl⟩ := hl
  obtain ⟨th, hh, fh⟩ := hh
  refine ⟨_, zOC hr ha hl hh, fun α ρ S σ H Q wd sl q => fa α ρ S σ H _ wd sl (q.bind fun u p S1 α1 H1 e1 x1 w1 d1 q1 => fl α1 ρ S1 σ H1 _ w1 (sl.ext x1) ((q1.shift x1).bind fun u2 l S2 α2 H2 e2 x2 w2 d2 q2 =>
    fh α2 ρ S2 σ H2 _ w2 ((sl.ext x1).ext x2) ((q2.shift x2).bind fun u3 m S3 α3 H3 e3 x3 w3 d3 q3 => ?_)))⟩
  cases d2
  cases d3
  exact hF p u2 u3 u α3 S3 H3 Q w3 ((d1.1.ext x2).ext x3) (q3.shift x3)
end
end M
end L2
namespace L2
namespace M
open PySem PySem.Spec PyProof.Rows
inductive Fl where
  | next (ρ : Rho) | ret (r : Er) | brk (ρ : Rho) | cont (ρ : Rho)
noncomputable def PostS (g : Gm) (W : XW) (α : List Addr) (H : Hp) (D : Ends) : R Fl → Prop
  | .ok (.next ρ) S => ∀ σ α' H', Ext α H α' H' → Wd g α' S H' → Slots g.K α' H' ρ σ → D.nx σ H'
  | .ok (.ret r) S => ∀ v α' H', Ext α H α' H' → Wd g α' S H' → DenE g.K H α' H' r v → D.rt v H'
  | .ok (.brk ρ) S => ∀ σ α' H', Ext α H α' H' → Wd g α' S H' → Slots g.K α' H' ρ σ → D.bk σ H'
  | .ok (.cont ρ) S => ∀ σ α' H', Ext α H α' H' → Wd g α' S H' → Slots g.K α' H' ρ σ → D.ct σ H'
  | .exc c fs S => ∀ α' H', Ext α H α' H' → Wd g α' S H' → W c fs S α' H'
  | .no => False
section
variable {g : Gm} {W : XW} {α α' : List Addr} {H H' : Hp} {D D' : Ends}
theorem PostS.shift (x : Ext α H α' H') : ∀ {m : R Fl}, PostS g W α H D m → PostS g W α' H' D m
  | .ok (.next ρ) S, q => fun σ α2 H2 x2 w2 s2 => q σ α2 H2 (x.trans x2) w2 s2
  | .ok (.ret r) S, q => fun v α2 H2 x2 w2 d2 => q v α2 H2 (x.trans x2) w2 (d2.back fun b h => x.free h)
  | .ok (.brk ρ) S, q => fun σ α2 H2 x2 w2 s2 => q σ α2 H2 (x.trans x2) w2 s2
  | .ok (.cont ρ) S, q => fun σ α2 H2 x2 w2 s2 => q σ α2 H2 (x.trans x2) w2 s2
  | .exc c fs S, q => fun α2 H2 x2 w2 => q α2 H2 (x.trans x2) w2
  | .no, q => q
theorem PostS.expr {β τ : Type} [Dn β τ] {m : R β} {k : β → Sto → R Fl} {Q' : τ → Hp → Prop} (q : PostS g W α H D (m.bind k))
    (f : ∀ u b S1 α1 H1, m = .ok b S1 → Ext α H α1 H1 → Wd g α1 S1 H1 → Dn.d g H α1 S1 H1 b u → PostS g W α H D (k b S1) → Q' u H1) : Post g W α H m Q' := by
  cases m with
  | ok b S => exact fun u α1 H1 x w d => f u b S α1 H1 rfl x w d q
  | exc c fs S => exact q
  | no => exact q
theorem PostS.stmt {m : R Fl} {k : Fl → Sto → R Fl} (q : PostS g W α H D (m.bind k))
    (hn : ∀ ρ S σ α1 H1, m = .ok (.next ρ) S → Ext α H α1 H1 → Wd g α1 S H1 → Slots g.K α1 H1 ρ σ → PostS g W α H D (k (.next ρ) S) → D'.nx σ H1)
    (hr : ∀ r S v α1 H1, m = .ok (.ret r) S → Ext α H α1 H1 → Wd g α1 S H1 → DenE g.K H α1 H1 r v → PostS g W α H D (k (.ret r) S) → D'.rt v H1)
    (hb : ∀ ρ S σ α1 H1, m = .ok (.brk ρ) S → Ext α H α1 H1 → Wd g α1 S H1 → Slots g.K α1 H1 ρ σ → PostS g W α H D (k (.brk ρ) S) → D'.bk σ H1)
    (hc : ∀ ρ S σ α1 H1, m = .ok (.cont ρ) S → Ext α H α1 H1 → Wd g α1 S H1 → Slots g.K α1 H1 ρ σ → PostS g W α H D (k (.cont ρ) S) → D'.ct σ H1) : PostS g W α H D' m := by
  cases m with
  | ok fl S =>
    cases fl with
    | next ρ => exact fun σ α1 H1 x w s => hn ρ S σ α1 H1 rfl x w s q
    | ret r => exact fun v α1 H1 x w d => hr r S v α1 H1 rfl x w d q
    | brk ρ => exact fun σ α1 H1 x w s => hb ρ S σ α1 H1 rfl x w s q
    | cont ρ => exact fun σ α1 H1 x w s => hc ρ S σ α1 H1 rfl x w s q
  | exc c fs S => exact q
  | no => exact q
end
noncomputable def PSm (X : Cx) (W : XW) (st : Stmt) (F : Rho → Sto → R Fl) : Prop :=
  ∃ t, PS X st t ∧ ∀ α ρ S σ H D, Wd X.g α S H → Slots X.K α H ρ σ → PostS X.g W α H D (F ρ S) → t D σ H
noncomputable def zDK (X : Cx) (W : XW) (st : List Stmt) (F : Rho → Sto → R Fl) : Prop :=
  ∃ t, PSs X st t ∧ ∀ α ρ S σ H D, Wd X.g α S H → Slots X.K α H ρ σ → PostS X.g W α H D (F ρ S) → t D σ H
noncomputable def zT (F G : Rho → Sto → R Fl) : Rho → Sto → R Fl := fun ρ S => (F ρ S).bind fun fl S1 => match fl with
  | .next ρ' => G ρ' S1
  | .ret r => .ok (.ret r) S1
  | .brk ρ' => .ok (.brk ρ') S1
  | .cont ρ' => .ok (.cont ρ') S1
section
variable {X : Cx} {W : XW} {st : Stmt} {sts as bs : List Stmt} {F G : Rho → Sto → R Fl} {f g : Rho → Sto → R Er} {tf : Rho → Sto → R Bool} {e c : Expr} {pos : Pos}
theorem yU : zDK X W [] (fun ρ S => .ok (.next ρ) S) := ⟨_, zQP, fun α ρ S σ H D wd sl q => q σ α H (Ext.refl α H) wd sl⟩
theorem zM (h : PSm X W st F) : zDK X W [st] F := let ⟨t, h, k⟩ := h; ⟨t, zQQ h, k⟩
theorem zI (h1 : PSm X W st F) (h2 : zDK X W sts G) : zDK X W (st :: sts) (zT F G) := by
  obtain ⟨t, h1, k1⟩ := h1
  obtain ⟨u, h2, k2⟩ := h2
  refine ⟨_, zNR h1 h2, fun α ρ S σ H D wd sl q => k1 α ρ S σ H _ wd sl (q.stmt ?_ ?_ ?_ ?_)⟩
  · intro ρ1 S1 σ1 α1 H1 e x1 w1 s1 q1
    exact k2 α1 ρ1 S1 σ1 H1 D w1 s1 (PostS.shift x1 q1)
  · intro r S1 v α1 H1 e x1 w1 d1 q1
    exact q1 v α1 H1 x1 w1 d1
  · intro ρ1 S1 σ1 α1 H1 e x1 w1 s1 q1
    exact q1 σ1 α1 H1 x1 w1 s1
  · intro ρ1 S1 σ1 α1 H1 e x1 w1 s1 q1
    exact q1 σ1 α1 H1 x1 w1 s1
theorem zQ (he : PEm X W e f) : PSm X W (.Return (some e) pos) (fun ρ S => (f ρ S).bind fun r S1 => .ok (.ret r) S1) := by
  obtain ⟨t, he, k⟩ := he
  exact ⟨_, zTR he, fun α ρ S σ H D wd sl q => k α ρ S σ H _ wd sl (q.expr fun u r S1 α1 H1 e x1 w1 d1 q1 => q1 u α1 H1 x1 w1 d1)⟩
theorem wJ (hc : PTm X W c tf) (ha : zDK X W as F) (hb : zDK X W bs G) : PSm X W (.If c as bs pos) (fun ρ S => (tf ρ S).bind fun k S1 => if k = true then F ρ S1 else G ρ S1) := by
  obtain ⟨tc, hc, kc⟩ := hc
  obtain ⟨ta, ha, ka⟩ := ha
  obtain ⟨tb, hb, kb⟩ := hb
  refine ⟨_, ps_if hc ha hb, fun α ρ S σ H D wd sl q => kc α ρ S σ H _ wd sl (q.expr fun u p S1 α1 H1 e x1 w1 d1 q1 => ?_)⟩
  cases d1
  cases u with
  | true => rw [if_pos rfl] at q1 ⊢; exact ka α1 ρ S1 σ H1 D w1 (sl.ext x1) (PostS.shift x1 q1)
  | false => rw [if_neg Bool.false_ne_true] at q1 ⊢; exact kb α1 ρ S1 σ H1 D w1 (sl.ext x1) (PostS.shift x1 q1)
instance : Dn Rho St := ⟨fun g _ α' _ H' ρ σ => Slots g.K α' H' ρ σ, fun _ q => q⟩
noncomputable def PGm (X : Cx) (W : XW) (tg : Expr) (gf : MV → Rho → Sto → R Rho) : Prop :=
  ∃ t, PG X tg t ∧ ∀ α ρ S σ H d v Q, Wd X.g α S H → Slots X.K α H ρ σ → Den X.K α H d v → Post X.g W α H (gf d ρ S) Q → t v σ H Q
noncomputable def PGsm (X : Cx) (W : XW) (tgs : List Expr) (gf : List MV → Rho → Sto → R Rho) : Prop :=
  ∃ t, PGs X tgs t ∧ ∀ α ρ S σ H ds vs Q, Wd X.g α S H → Slots X.K α H ρ σ → DenL X.K α H ds vs → Post X.g W α H (gf ds ρ S) Q → t vs σ H Q
noncomputable def gNm (i : Nat) : MV → Rho → Sto → R Rho := fun d ρ S => .ok (ρ.set i (some d)) S
theorem bL (i : Nat) {x : Str} (hN : X.N.Nodup) (hi : X.N[i]? = some x := by rfl) (hx : Loc X.env.scope x := by first | exact Or.inl rfl | exact Or.inr rfl) (hf : X.fn x = true ∨ X.env.scope.names.lookup x = some .local := by first | exact .inl rfl | exact .inr rfl | assumption) :
    PGm X W (.Name x pos) (gNm i) := ⟨_, zKY hN hi hx hf, fun α ρ S σ H d v Q wd sl de q => Post.here (b := ρ.set i (some d)) q wd (sl.set de)⟩
noncomputable def zOZ : List MV → Rho → Sto → R Rho
  | [], ρ, S => .ok ρ S
  | _, _, _ => .no
noncomputable def zDL (g1 : MV → Rho → Sto → R Rho) (g2 : List MV → Rho → Sto → R Rho) : List MV → Rho → Sto → R Rho
  | d :: ds, ρ, S => (g1 d ρ S).bind fun ρ1 S1 => g2 ds ρ1 S1
  | _, _, _ => .no
theorem zUV : PGsm X W [] zOZ := ⟨_, zQR, fun α ρ S σ H ds vs Q wd sl de q => by
  cases ds with
  | nil => exact ⟨de.isnil, Post.here (b := ρ) q wd sl⟩
  | cons d ds => exact q.elim⟩
theorem zLL {es : List Expr} {g1 : MV → Rho → Sto → R Rho} {g2 : List MV → Rho → Sto → R Rho} (h1 : PGm X W e g1) (h2 : PGsm X W es g2) (hs : (assignEach (e :: es) X.env).map (·.2) = assign e X.env :: (assignEach es X.env).map (·.2) := by rfl) : PGsm X W (e :: es) (zDL g1 g2) := by
  obtain ⟨t1, h1, k1⟩ := h1
  obtain ⟨t2, h2, k2⟩ := h2
  refine ⟨_, zNT h1 h2 hs, fun α ρ S σ H ds vs Q wd sl de q => ?_⟩
  cases ds with
  | nil => exact q.elim
  | cons d ds =>
    obtain ⟨v, r, rfl, a, l⟩ := de.uncons
    refine ⟨v, r, rfl, k1 α ρ S σ H d v _ wd sl a (Post.bind q fun u p S1 α1 H1 e x1 w1 d1 q1 => k2 α1 p S1 u H1 ds r Q w1 d1 (l.ext x1) (q1.shift x1))⟩
noncomputable def gTp (n : Nat) (g2 : List MV → Rho → Sto → R Rho) : MV → Rho → Sto → R Rho
  | .tup ds, ρ, S => if ds.length = n then g2 ds ρ S else .no
  | _, _, _ => .no
theorem zUW {es : List Expr} {k n : Nat} {g2 : List MV → Rho → Sto → R Rho} (hc : X.calm = true) (h : PGsm X W es g2)
    (hn : (assignEach es X.env).length = n := by rfl) (hst : (assignEach es X.env).findIdx? (·.1) = none := by rfl) : PGm X W (.Tuple es k pos) (gTp n g2) := by
  obtain ⟨t, h, k⟩ := h
  refine ⟨_, zTS hc h hn hst, fun α ρ S σ H d v Q wd sl de q => ?_⟩
  unfold gTp at q
  split at q
  · split at q
    · rename_i hl
      obtain ⟨a, vs, rfl, s, l⟩ := wU de
      exact ⟨a, vs, rfl, s, by rw [l.length]; exact hl, k α ρ S σ H _ vs Q wd sl l q⟩
    · exact q.elim
  · exact q.elim
noncomputable def zDM (r : Er) (S : Sto) : R MV := match r with
  | .val d => .ok d S
  | .new ds => .ok (.loc S.length) (S ++ [.lst ds])
theorem zFN {g : Gm} {H0 : Hp} {α0 α : List Addr} {H : Hp} {S : Sto} {r : Er} {v : V} (w : Wd g α S H) (x : Ext α0 H0 α H) (d : DenE g.K H0 α H r v) :
    ∃ d' S' α', zDM r S = .ok d' S' ∧ Ext α0 H0 α' H ∧ Ex0 α H α' H ∧ Wd g α' S' H ∧ Den g.K α' H d' v := by
  cases r with
  | val d' => exact ⟨d', S, α, rfl, x, ⟨⟨[], by simp⟩, fun _ _ h => h, fun _ _ _ h => h⟩, w, d.1⟩
  | new ds =>
    obtain ⟨⟨c, us, rfl, h1, h2, h3⟩, h4⟩ := d
    exact ⟨.loc S.length, S ++ [.lst ds], α ++ [c], rfl, w.enterx x (h4 c rfl) h2, Ex0.grow α [c] H, w.enter h1 h2 h3, zCI (by rw [← w.len, List.getElem?_append_right (Nat.le_refl _), Nat.sub_self]; rfl)⟩
noncomputable def xZ (ρ : Rho) (i : Nat) (r : Er) (S : Sto) : R Fl := (zDM r S).bind fun d S1 => .ok (.next (ρ.set i (some d))) S1
theorem zS (i : Nat) {x : Str} {pos' : Pos} (hN : X.N.Nodup) (he : PEm X W e f) (hi : X.N[i]? = some x := by rfl) (hx : Loc X.env.scope x := by first | exact Or.inl rfl | exact Or.inr rfl)
    (hs : swapsWith e (some (.Name x pos')) pos.line X.env = pure false := by rfl) (hf : X.fn x = true ∨ X.env.scope.names.lookup x = some .local := by first | exact .inl rfl | exact .inr rfl | assumption) :
    PSm X W (.Assign [.Name x pos'] e pos) (fun ρ S => (f ρ S).bind (xZ ρ i)) := by
  obtain ⟨t, he, k⟩ := he
  refine ⟨_, zTT hN hi hx he hs hf, fun α ρ S σ H D wd sl q => k α ρ S σ H _ wd sl (q.expr fun u r S1 α1 H1 e x1 w1 d1 q1 => ?_)⟩
  obtain ⟨d', S', α', e1, x', y', w', de⟩ := zFN w1 x1 d1
  unfold xZ at q1
  rw [e1] at q1
  exact q1 _ α' H1 x' w' (((sl.ext x1).ex0 y').set de)
structure Wk where
  ds : List MV
  gs : List (Nat × List MV)
noncomputable def stay (gs : List (Nat × List MV)) (S : Sto) : Prop := ∀ p ∈ gs, S[p.1]? = some (.lst p.2)
noncomputable def ItM (g : Gm) (J : It) (P : List Addr → Sto → Hp → Prop) (ds : List MV) : Prop := ∀ i α S H, P α S H → Wd g α S H → (i < ds.length → J.go i H ∧ ∀ x H', J.yld i H x H' → Ext α H α H' ∧ Wd g α S H' ∧ P α S H' ∧ ∃ d, ds[i]? = some d ∧ Den g.K α H' d x) ∧ (ds.length ≤ i → J.stop i H)
structure WkD (g : Gm) (α : List Addr) (S : Sto) (H : Hp) (k : Wk) (J : It) (P : List Addr → Sto → Hp → Prop) : Prop where
  it : ItM g J P k.ds
  here : P α S H
  stays : ∀ α1 S1 H1 α2 S2 H2, P α1 S1 H1 → Ext α1 H1 α2 H2 → Wd g α2 S2 H2 → stay k.gs S2 → P α2 S2 H2
  st : stay k.gs S
instance : Dn Wk It := ⟨fun g _ α S H k J => ∃ P, WkD g α S H k J P, fun _ q => q⟩
abbrev PIm (X : Cx) (W : XW) (tg iter : Expr) (f : Rho → Sto → R Wk) : Prop := Jd X W (PI X tg iter) f
variable {tg iter : Expr}
theorem zDN {a : Addr} {ds : List MV} : ItM X.g (Itl X.K a) (fun α S H => ∃ vs, SqL X.K H a vs ∧ DenL X.K α H ds vs) ds := by
  intro i α S H ⟨vs, s, l⟩ w
  have hl := l.length
  refine ⟨fun hi => ?_, fun hi => ⟨vs, s, by omega⟩⟩
  have hv : i < vs.length := by omega
  refine ⟨⟨vs, vs[i], s, List.getElem?_eq_getElem hv⟩, fun x H' y => ?_⟩
  obtain ⟨rfl, y⟩ := y
  obtain ⟨d, h1, h2⟩ := l.get (y vs s)
  exact ⟨Ext.refl _ _, w, ⟨vs, s, l⟩, d, h1, h2⟩
theorem zRM {x : List Nat} : ItM X.g (Its x) (fun _ _ _ => True) (x.map fun c => .str [c]) := by
  intro i α S H _ w
  refine ⟨fun hi => ⟨show i < x.length by simpa using hi, fun v H' y => ?_⟩, fun hi => by show x.length ≤ i; simpa using hi⟩
  obtain ⟨rfl, c, h1, h2⟩ := y
  refine ⟨Ext.refl _ _, w, trivial, .str [c], by rw [List.getElem?_map, h1]; rfl, ?_⟩
  rw [h2]
  exact wI [c]
theorem zMV {lo : Int} {n : Nat} : ItM X.g (Itr lo n) (fun _ _ _ => True) ((List.range n).map fun k => .int (lo + (k : Nat))) := by
  intro i α S H _ w
  refine ⟨fun hi => ⟨show i < n by simpa using hi, fun v H' y => ?_⟩, fun hi => by show n ≤ i; simpa using hi⟩
  obtain ⟨rfl, y⟩ := y
  have hi' : i < n := by simpa using hi
  refine ⟨Ext.refl _ _, w, trivial, .int (lo + i), by rw [List.getElem?_map, List.getElem?_range hi']; rfl, ?_⟩
  rw [y]
  exact yI _
noncomputable def itL : Er → Sto → R Wk
  | .new ds, S => .ok ⟨ds, []⟩ S
  | .val (.scr ds), S => .ok ⟨ds, []⟩ S
  | .val (.loc l), S => match S[l]? with
    | some (.lst ds) => .ok ⟨ds, [(l, ds)]⟩ S
    | _ => .no
  | _, _ => .no
theorem kF {S : Sto} : stay [] S := fun p h => by simp at h
theorem zLM (he : PEm X W iter f) : PIm X W tg iter (fun ρ S => (f ρ S).bind itL) := by
  obtain ⟨t, he, k⟩ := he
  refine ⟨_, zQS he, fun α ρ S σ H Rc wd sl q => k α ρ S σ H _ wd sl (q.bind fun u p S1 α1 H1 e x1 w1 d1 q1 => ?_)⟩
  replace q1 := q1.shift x1
  unfold itL at q1
  split at q1
  · rename_i S0 ds
    obtain ⟨⟨b, vs, rfl, h1, h2, h3⟩, h4⟩ := d1
    refine ⟨b, rfl, ⟨vs, .of h1⟩, q1.here (u := Itl X.K b) w1 ⟨fun α2 S2 H2 => ∃ vs, SqL X.K H2 b vs ∧ DenL X.K α2 H2 ds vs ∧ H2 b = some (.lst vs) ∧ b ∉ α2, ?_, ⟨vs, .of h1, h3, h1, h2⟩, ?_, kF⟩⟩
    · intro i α2 S2 H2 ⟨vs2, a1, a2, a3, a4⟩ w2
      obtain ⟨i1, i2⟩ := zDN (X := X) (a := b) (ds := ds) i α2 S2 H2 ⟨vs2, a1, a2⟩ w2
      refine ⟨fun hi => ⟨(i1 hi).1, fun x H' y => ?_⟩, i2⟩
      obtain ⟨j1, j2, j3, j4⟩ := (i1 hi).2 x H' y
      obtain ⟨rfl, _⟩ := y
      exact ⟨j1, j2, ⟨vs2, a1, a2, a3, a4⟩, j4⟩
    · intro α2 S2 H2 α3 S3 H3 ⟨vs2, a1, a2, a3, a4⟩ x w3 _
      exact ⟨vs2, .of (x.keep b _ a3 a4), a2.ext x, x.keep b _ a3 a4, x.out a3 a4⟩
  · rename_i S0 ds
    obtain ⟨a, vs, rfl, s, l⟩ := zGM d1.1
    refine ⟨a, rfl, ⟨vs, s.l⟩, q1.here (u := Itl X.K a) w1 ⟨fun α2 S2 H2 => ∃ vs, SqL X.K H2 a vs ∧ DenL X.K α2 H2 ds vs ∧ SqF X.K H2 a vs, ?_, ⟨vs, s.l, l, s⟩, ?_, kF⟩⟩
    · intro i α2 S2 H2 ⟨vs2, a1, a2, a3⟩ w2
      obtain ⟨i1, i2⟩ := zDN (X := X) (a := a) (ds := ds) i α2 S2 H2 ⟨vs2, a1, a2⟩ w2
      refine ⟨fun hi => ⟨(i1 hi).1, fun x H' y => ?_⟩, i2⟩
      obtain ⟨j1, j2, j3, j4⟩ := (i1 hi).2 x H' y
      obtain ⟨rfl, _⟩ := y
      exact ⟨j1, j2, ⟨vs2, a1, a2, a3⟩, j4⟩
    · intro α2 S2 H2 α3 S3 H3 ⟨vs2, a1, a2, a3⟩ x w3 _
      exact ⟨vs2, (x.sqF a3).l, a2.ext x, x.sqF a3⟩
  · rename_i S0 n
    obtain ⟨a, rfl, h⟩ := zBE d1.1
    obtain ⟨o, h1, h2⟩ := w1.of h
    rw [h1] at q1
    cases o with
    | lst ds =>
      obtain ⟨vs, h3, l⟩ := h2
      refine ⟨a, rfl, ⟨vs, .of h3⟩, Post.here (b := (⟨ds, [(n, ds)]⟩ : Wk)) q1 (u := Itl X.K a) w1 ⟨fun α2 S2 H2 => ∃ vs, SqL X.K H2 a vs ∧ DenL X.K α2 H2 ds vs ∧ α2[n]? = some a, ?_, ⟨vs, .of h3, l, h⟩, ?_, ?_⟩⟩
      · intro i α2 S2 H2 ⟨vs2, a1, a2, a3⟩ w2
        obtain ⟨i1, i2⟩ := zDN (X := X) (a := a) (ds := ds) i α2 S2 H2 ⟨vs2, a1, a2⟩ w2
        refine ⟨fun hi => ⟨(i1 hi).1, fun x H' y => ?_⟩, i2⟩
        obtain ⟨j1, j2, j3, j4⟩ := (i1 hi).2 x H' y
        obtain ⟨rfl, _⟩ := y
        exact ⟨j1, j2, ⟨vs2, a1, a2, a3⟩, j4⟩
      · intro α2 S2 H2 α3 S3 H3 ⟨vs2, a1, a2, a3⟩ x w3 hs
        have a3' := x.at a3
        have := w3.obj n a _ a3' (hs (n, ds) (by simp))
        obtain ⟨vs3, b1, b2⟩ := this
        exact ⟨vs3, .of b1, b2, a3'⟩
      · intro p hp
        have : p = (n, ds) := by simpa using hp
        subst this
        exact h1
    | dic ds => exact q1.elim
    | ins c fs => exact q1.elim
  · exact q1.elim
noncomputable def itT : Er → Sto → R Wk
  | .val (.tup ds), S => .ok ⟨ds, []⟩ S
  | _, _ => .no
noncomputable def itS : Er → Sto → R Wk
  | .val (.str x), S => .ok ⟨x.map fun c => .str [c], []⟩ S
  | _, _ => .no
theorem zDO (he : PEm X W iter f) : PIm X W tg iter (fun ρ S => (f ρ S).bind itS) := by
  obtain ⟨t, he, k⟩ := he
  refine ⟨_, zUL he, fun α ρ S σ H Rc wd sl q => k α ρ S σ H _ wd sl (q.bind fun u p S1 α1 H1 e x1 w1 d1 q1 => ?_)⟩
  replace q1 := q1.shift x1
  unfold itS at q1
  split at q1
  · rename_i S0 x
    exact ⟨x, yJ d1.1, q1.here (u := Its x) w1 ⟨_, zRM, trivial, fun _ _ _ _ _ _ _ _ _ _ => trivial, kF⟩⟩
  · exact q1.elim
noncomputable def zIH : List Er → Sto → R Wk
  | [.val (.int j)], S => if -(2 ^ 62) ≤ j ∧ j < 2 ^ 62 then .ok ⟨(List.range j.toNat).map fun k => .int (k : Nat), []⟩ S else .no
  | _, _ => .no
variable {af : Rho → Sto → R (List Er)} {p : Pos} {a b : Expr}
theorem zLN {K : PySem.W.Frag} {H0 : Hp} {α : List Addr} {H : Hp} {r : Er} {vs : List V} (d : ArgsE K H0 α H [r] vs) : ∃ v, vs = [v] ∧ DenX K α H r v := by
  cases d with
  | cons a n l => cases l; exact ⟨_, rfl, a.1⟩
theorem args2 {K : PySem.W.Frag} {H0 : Hp} {α : List Addr} {H : Hp} {r r' : Er} {vs : List V} (d : ArgsE K H0 α H [r, r'] vs) : ∃ v u, vs = [v, u] ∧ DenX K α H r v ∧ DenX K α H r' u := by
  cases d with
  | cons a n l => obtain ⟨u, rfl, l'⟩ := zLN l; exact ⟨_, u, rfl, a.1, l'⟩
theorem zFO (hg : Gl X "range") (hm : X.mg "range" = none) (ha : PAm X W [a] af) (hs : starEach [a] X.env = [(false, eval a X.env)] := by rfl) : PIm X W tg (.Call (.Name "range" p) [a] [] pos) (fun ρ S => (af ρ S).bind zIH) := by
  obtain ⟨t, ha, k⟩ := ha
  refine ⟨_, zMG hg hm ha hs, fun α ρ S σ H Rc wd sl q => k α ρ S σ H _ wd sl (q.bind fun vs rs S1 α1 H1 e x1 w1 d1 q1 => ?_)⟩
  replace q1 := q1.shift x1
  unfold zIH at q1
  split at q1
  · split at q1
    · rename_i S0 j hj
      obtain ⟨v, rfl, dv⟩ := zLN d1
      cases yB dv
      have := zMV (X := X) (lo := 0) (n := j.toNat)
      simp only [Int.zero_add] at this
      exact ⟨j, rfl, hj.1, hj.2, q1.here (u := Itr 0 j.toNat) w1 ⟨_, this, trivial, fun _ _ _ _ _ _ _ _ _ _ => trivial, kF⟩⟩
    · exact q1.elim
  · exact q1.elim
open Classical in
noncomputable def jG (gf : MV → Rho → Sto → R Rho) (body : Rho → Sto → R Fl) (gs : List (Nat × List MV)) : List MV → Rho → Sto → R Fl
  | [], ρ, S => .ok (.next ρ) S
  | d :: ds, ρ, S => (gf d ρ S).bind fun ρ0 S0 => (body ρ0 S0).bind fun fl S1 => match fl with
    | .next ρ' => if stay gs S1 then jG gf body gs ds ρ' S1 else .no
    | .cont ρ' => if stay gs S1 then jG gf body gs ds ρ' S1 else .no
    | .brk ρ' => .ok (.next ρ') S1
    | .ret r => .ok (.ret r) S1
open Classical in
theorem zBF {itf : Rho → Sto → R Wk} {gf : MV → Rho → Sto → R Rho} (hp : PassesOwn (model X.prog X.w) X.A X.env X.xe) (hc : X.calm = true) (hi : PIm X W tg iter itf) (hg : PGm X W tg gf) (hb : zDK X W as F)
    (hs : ∀ y, foldedSetIterable iter X.env y = pure y := by intro _; rfl) : PSm X W (.For tg iter as [] pos) (fun ρ S => (itf ρ S).bind fun k S1 => jG gf F k.gs k.ds ρ S1) := by
  obtain ⟨wi, hi, ki⟩ := hi
  obtain ⟨tg', hg, kg⟩ := hg
  obtain ⟨tb, hb, kb⟩ := hb
  refine ⟨_, zTU hp hc hi hg hb hs, fun α ρ S σ H D wd sl q => ki α ρ S σ H _ wd sl (q.expr fun J k S1 α1 H1 e x1 w1 d1 q1 => ?_)⟩
  obtain ⟨P, hP⟩ := d1
  have sl1 := sl.ext x1
  replace q1 := PostS.shift x1 q1
  refine ⟨fun n m σ2 H2 => m = k.ds.length - n ∧ n ≤ k.ds.length ∧ ∃ α2 ρ2 S2, Wd X.g α2 S2 H2 ∧ Slots X.K α2 H2 ρ2 σ2 ∧ P α2 S2 H2 ∧ PostS X.g W α2 H2 D (jG gf F k.gs (k.ds.drop n) ρ2 S2), ⟨_, rfl, Nat.zero_le _, α1, ρ, S1, w1, sl1, hP.here, by simpa using q1⟩, ?_⟩
  rintro n m σ2 H2 ⟨rfl, hn, α2, ρ2, S2, w2, sl2, p2, q2⟩
  obtain ⟨i1, i2⟩ := hP.it n α2 S2 H2 p2 w2
  by_cases hlt : n < k.ds.length
  · obtain ⟨go, yl⟩ := i1 hlt
    refine .inr ⟨go, fun σ3 H3 => ∃ α3 ρ3 S3, Wd X.g α3 S3 H3 ∧ Slots X.K α3 H3 ρ3 σ3 ∧ P α3 S3 H3 ∧ PostS X.g W α3 H3 D (jG gf F k.gs (k.ds.drop (n + 1)) ρ3 S3), fun σ3 H3 ⟨α3, ρ3, S3, h3⟩ => ⟨k.ds.length - (n + 1), by omega, rfl, hlt, α3, ρ3, S3, h3⟩, fun v H3 y => ?_⟩
    obtain ⟨x3, w3, p3, d, hd, dv⟩ := yl v H3 y
    have hdrop : k.ds.drop n = d :: k.ds.drop (n + 1) := by
      rw [List.drop_eq_getElem_cons hlt]
      have := List.getElem?_eq_getElem hlt
      rw [hd] at this
      rw [← Option.some.inj this]
    rw [hdrop] at q2
    unfold jG at q2
    replace q2 := PostS.shift x3 q2
    refine kg α2 ρ2 S2 σ2 H3 d v _ w3 (sl2.ext x3) dv (q2.expr fun σ4 ρ4 S4 α4 H4 e4 x4 w4 s4 q4 => ?_)
    have p4 : ∀ α5 S5 H5, Ext α4 H4 α5 H5 → Wd X.g α5 S5 H5 → stay k.gs S5 → P α5 S5 H5 := fun α5 S5 H5 x5 w5 s5 => hP.stays α2 S2 H3 α5 S5 H5 p3 (x4.trans x5) w5 s5
    refine kb α4 ρ4 S4 σ4 H4 _ w4 s4 ((PostS.shift x4 q4).stmt ?_ ?_ ?_ ?_)
    · intro ρ5 S5 σ5 α5 H5 e5 x5 w5 s5 q5
      have q5' : PostS X.g W α4 H4 D (if stay k.gs S5 then jG gf F k.gs (k.ds.drop (n + 1)) ρ5 S5 else .no) := q5
      split at q5'
      · rename_i hst
        exact ⟨α5, ρ5, S5, w5, s5, p4 α5 S5 H5 x5 w5 hst, PostS.shift x5 q5'⟩
      · exact q5'.elim
    · intro r S5 v5 α5 H5 e5 x5 w5 d5 q5
      exact q5 v5 α5 H5 x5 w5 d5
    · intro ρ5 S5 σ5 α5 H5 e5 x5 w5 s5 q5
      exact q5 σ5 α5 H5 x5 w5 s5
    · intro ρ5 S5 σ5 α5 H5 e5 x5 w5 s5 q5
      have q5' : PostS X.g W α4 H4 D (if stay k.gs S5 then jG gf F k.gs (k.ds.drop (n + 1)) ρ5 S5 else .no) := q5
      split at q5'
      · rename_i hst
        exact ⟨α5, ρ5, S5, w5, s5, p4 α5 S5 H5 x5 w5 hst, PostS.shift x5 q5'⟩
      · exact q5'.elim
  · have e : n = k.ds.length := by omega
    subst e
    refine .inl ⟨i2 (Nat.le_refl _), ?_⟩
    rw [List.drop_length] at q2
    exact q2 σ2 α2 H2 (Ext.refl _ _) w2 sl2
end
end M
end L2
namespace L2
namespace M
open PySem PySem.Spec PyProof.Rows
noncomputable def noX {β : Type} : R β → R β
  | .ok b S => .ok b S
  | _ => .no
theorem nZ {β : Type} (b : β) (S : Sto) : noX (R.ok b S) = .ok b S := rfl
theorem Post.bindY {β τ γ υ : Type} [Dn β τ] [Dn γ υ] {g : Gm} {W : XW} {α α' : List Addr} {H H' : Hp} (x : Ext α H α' H') {m : R β} {k : β → Sto → R γ} {Q : υ → Hp → Prop} {Q' : τ → Hp → Prop} (q : Post g W α H ((noX m).bind k) Q)
    (f : ∀ u b S1 α1 H1, m = .ok b S1 → Ext α' H' α1 H1 → Wd g α1 S1 H1 → Dn.d g H' α1 S1 H1 b u → Post g W α H (k b S1) Q → Q' u H1) : Post g W0 α' H' m Q' := by
  cases m with
  | ok b S => exact fun u α1 H1 x w d => f u b S α1 H1 rfl x w d q
  | exc c fs S => exact q.elim
  | no => exact q
theorem R.bind_assoc {β γ δ : Type} (m : R β) (k1 : β → Sto → R γ) (k2 : γ → Sto → R δ) : (m.bind k1).bind k2 = m.bind fun b S => (k1 b S).bind k2 := by cases m <;> rfl
noncomputable def blk (nt : Nat) (idx : List Nat) (ρ : Rho) : Rho := List.replicate nt none ++ idx.map fun i => (ρ[i]?).join
open Classical in
noncomputable def kR (gf : MV → Rho → Sto → R Rho) (cf : Rho → Sto → R Bool) (ef : Rho → Sto → R Er) (ρb : Rho) (gs : List (Nat × List MV)) : List MV → Sto → R (List MV)
  | [], S => .ok [] S
  | d :: ds, S => (noX (gf d ρb S)).bind fun ρ1 S0 => (noX (cf ρ1 S0)).bind fun k S1 =>
    if k = true then (noX (ef ρ1 S1)).bind fun r S2 => (zDM r S2).bind fun y S3 => if stay gs S3 then (kR gf cf ef ρb gs ds S3).bind fun out S4 => .ok (y :: out) S4 else .no
    else if stay gs S1 then kR gf cf ef ρb gs ds S1 else .no
theorem zMW {K : PySem.W.Frag} {α : List Addr} {H : Hp} {ρ : Rho} {σ : St} (q : Slots K α H ρ σ) (nt : Nat) (idx : List Nat) (τ : St) (hτ : τ.length = nt) : Slots K α H (blk nt idx ρ) (τ ++ cV σ idx) := by
  refine ⟨by unfold blk; rw [List.length_append, List.length_append, gD, List.length_map, List.length_replicate, hτ], fun i d e => ?_⟩
  unfold blk at e
  by_cases hi : i < nt
  · rw [List.getElem?_append_left (by rw [List.length_replicate]; exact hi), List.getElem?_replicate] at e
    split at e <;> cases e
  · rw [List.getElem?_append_right (by rw [List.length_replicate]; omega), List.length_replicate, List.getElem?_map] at e
    cases z : idx[i - nt]? with
    | none => rw [z] at e; cases e
    | some k =>
      rw [z] at e
      have e2 : (ρ[k]?).join = some d := Option.some.inj e
      cases z2 : ρ[k]? with
      | none => rw [z2] at e2; cases e2
      | some o =>
        rw [z2] at e2
        have e3 : o = some d := e2
        subst e3
        obtain ⟨v, h1, h2⟩ := q.slot k d z2
        refine ⟨v, ?_, h2⟩
        rw [List.getElem?_append_right (by omega), hτ]
        unfold cV
        rw [List.getElem?_map, z]
        show some (σ[k]?).join = some (some v)
        rw [h1]; rfl
noncomputable def Keeps (nt : Nat) (σ : St) (Q : St → Hp → Prop) : St → Hp → Prop := fun σ' H' => σ'.length = σ.length → (∀ j, nt ≤ j → σ'[j]? = σ[j]?) → Q σ' H'
noncomputable def PGn (nt : Nat) (X : Cx) (W : XW) (tg : Expr) (gf : MV → Rho → Sto → R Rho) : Prop :=
  ∃ t, PG X tg t ∧ ∀ α ρ S σ H d v Q, Wd X.g α S H → Slots X.K α H ρ σ → Den X.K α H d v → Post X.g W α H (gf d ρ S) (Keeps nt σ Q) → t v σ H Q
section
variable {X : Cx} {W : XW} {e : Expr} {pos : Pos} {nt : Nat}
theorem zCJ (i : Nat) {x : Str} (hN : X.N.Nodup) (hi : X.N[i]? = some x := by rfl) (hx : Loc X.env.scope x := by first | exact Or.inl rfl | exact Or.inr rfl) (hf : X.fn x = true ∨ X.env.scope.names.lookup x = some .local := by first | exact .inl rfl | exact .inr rfl | assumption) (hlt : i < nt := by decide) :
    PGn nt X W (.Name x pos) (gNm i) := ⟨_, zKY hN hi hx hf, fun α ρ S σ H d v Q wd sl de q => Post.here (b := ρ.set i (some d)) q wd (sl.set de) (by rw [List.length_set]) fun j hj => by rw [List.getElem?_set_ne (by omega)]⟩
end
abbrev PIfm (X : Cx) (W : XW) (ifs : List Expr) (f : Rho → Sto → R Bool) : Prop := Jd X W (zMO X ifs) f
section
variable {X : Cx} {W : XW} {iter : Expr} {c : Expr} {tf : Rho → Sto → R Bool} {pos : Pos}
theorem zLO : PIfm X W [] (fun _ S => .ok true S) := ⟨_, zOH, fun α ρ S σ H Q wd sl q => q.here wd rfl⟩
theorem zLP (h : PTm X W c tf) : PIfm X W [c] tf := let ⟨t, h, k⟩ := h; ⟨t, zOI h, k⟩
open Classical in
theorem zRN {elt tg : Expr} {ifs : List Expr} {sc : Scope} {itf : Rho → Sto → R Wk} {cf : Rho → Sto → R Bool} {ef : Rho → Sto → R Er} {gf : MV → Rho → Sto → R Rho} (osc : Scope) (N : List Str) (T : List Str) (idx : List Nat)
    (hi : PIm X W tg iter itf) (hcalm : X.calm = true)
    (hg : ∀ C s₂ H1 fp, ([] ++ T ++ idx.map fun i => (N[i]?).getD Str.empty).Nodup → PGn T.length (zJ X sc T idx C s₂ H1 fp) W0 tg gf)
    (hc : ∀ C s₂ H1 fp, PIfm (zJ X sc T idx C s₂ H1 fp) W0 ifs cf) (he : ∀ C s₂ H1 fp, PEm (zJ X sc T idx C s₂ H1 fp) W0 elt ef)
    (e1 : X.env.scope = osc := by rfl) (e2 : X.N = N := by rfl) (hB : zCX osc N sc idx = true := by decide +kernel) (hN : ([] ++ T ++ idx.map fun i => (N[i]?).getD Str.empty).Nodup := by decide +kernel)
    (hs : ∀ y, foldedSetIterable iter X.env y = pure y := by intro _; rfl) :
    Jd (β := Er) (τ := V) X W (fun t => PE X (.ListComp elt [⟨tg, iter, ifs, 0⟩] sc pos) t ∧ PU X (.ListComp elt [⟨tg, iter, ifs, 0⟩] sc pos) t) (fun ρ S => (itf ρ S).bind fun k S1 => if k.ds.length < 1000000 then (kR gf cf ef (blk T.length idx ρ) k.gs k.ds S1).bind fun out S2 => .ok (.new out) S2 else .no) := by
  obtain ⟨wi, hi, ki⟩ := hi
  subst e1 e2
  have big : (1000000 : Nat) < sizeLine := by rw [sizeLine_eq]; decide
  have hg' : ∃ t, (∀ C s₂ H1 fp, PG (zJ X sc T idx C s₂ H1 fp) tg t) ∧ ∀ α ρ S σ H d v Q, Wd X.g α S H → Slots X.K α H ρ σ → Den X.K α H d v → Post X.g W0 α H (gf d ρ S) (Keeps T.length σ Q) → t v σ H Q := by
    refine ⟨fun v σ H Q => ∃ α ρ S d, Wd X.g α S H ∧ Slots X.K α H ρ σ ∧ Den X.K α H d v ∧ Post X.g W0 α H (gf d ρ S) (Keeps T.length σ Q), fun C s₂ H1 fp pins s σ H v u Q I r ⟨α, ρ, S, d, h1, h2, h3, h4⟩ => ?_, fun α ρ S σ H d v Q h1 h2 h3 h4 => ⟨α, ρ, S, d, h1, h2, h3, h4⟩⟩
    obtain ⟨t, ht, kt⟩ := hg C s₂ H1 fp hN
    exact ht pins s σ H v u Q I r (kt α ρ S σ H d v Q h1 h2 h3 h4)
  obtain ⟨tg', hg1, kg⟩ := hg'
  refine ⟨_, ⟨zRE T idx hi hcalm hB hg1 (fun C s₂ H1 fp => (Classical.choose_spec (hc C s₂ H1 fp)).1) (fun C s₂ H1 fp => (Classical.choose_spec (he C s₂ H1 fp)).1) hs, zRH T idx hi hcalm hB hg1 (fun C s₂ H1 fp => (Classical.choose_spec (hc C s₂ H1 fp)).1) (fun C s₂ H1 fp => (Classical.choose_spec (he C s₂ H1 fp)).1) hs⟩, fun α ρ S σ H Q wd sl q => ki α ρ S σ H _ wd sl (q.bind fun J k S1 α1 H1 e1 x1 w1 d1 q1 => ?_)⟩
  obtain ⟨P, hP⟩ := d1
  split at q1
  · rename_i hlen
    refine ⟨fun n m ys H2 => m = k.ds.length - n ∧ n ≤ k.ds.length ∧ ys.length ≤ n ∧ ∃ α2 S2, Ext α H α2 H2 ∧ Wd X.g α2 S2 H2 ∧ P α2 S2 H2 ∧ ∃ outs, DenL X.K α2 H2 outs ys ∧ Post X.g W α H ((kR gf cf ef (blk T.length idx ρ) k.gs (k.ds.drop n) S2).bind fun o S' => .ok (Er.new (outs ++ o)) S') Q,
      ⟨_, rfl, Nat.zero_le _, Nat.le_refl _, α1, S1, x1, w1, hP.here, [], yN, by simpa using q1⟩, ?_⟩
    rintro n m ys H2 ⟨rfl, hn, hy, α2, S2, x2, w2, p2, outs, l, q2⟩
    obtain ⟨i1, i2⟩ := hP.it n α2 S2 H2 p2 w2
    refine ⟨by omega, ?_⟩
    by_cases hlt : n < k.ds.length
    · obtain ⟨go, yl⟩ := i1 hlt
      refine .inr ⟨go, by omega, fun v H3 y τ hτ => ?_⟩
      obtain ⟨x3, w3, p3, d, hd, dv⟩ := yl v H3 y
      have hdrop : k.ds.drop n = d :: k.ds.drop (n + 1) := by
        rw [List.drop_eq_getElem_cons hlt]
        have := List.getElem?_eq_getElem hlt
        rw [hd] at this
        rw [← Option.some.inj this]
      rw [hdrop] at q2
      unfold kR at q2
      have slb := zMW (sl.ext (x2.trans x3)) T.length idx τ hτ
      refine kg α2 (blk T.length idx ρ) S2 _ H3 d v _ w3 slb dv ?_
      rw [R.bind_assoc] at q2
      refine q2.bindY (x2.trans x3) fun σ4 ρ4 S4 α4 H4 e4 x4 w4 s4 q4 len4 kp4 => ⟨⟨σ4.take T.length, ?_, ?_⟩, fun C s₂ fp => ?_⟩
      · refine List.ext_getElem? fun j => ?_
        have hl4 : σ4.length = T.length + idx.length := by rw [len4, List.length_append, gD, hτ]
        by_cases hj : j < T.length
        · rw [List.getElem?_append_left (by rw [List.length_take]; omega), List.getElem?_take_of_lt hj]
        · rw [kp4 j (by omega), List.getElem?_append_right (by omega), List.getElem?_append_right (by rw [List.length_take]; omega), hτ, List.length_take, Nat.min_eq_left (by omega)]
      · rw [List.length_take, len4, List.length_append, gD, hτ]; omega
      have x34 : Ext α H α4 H4 := (x2.trans x3).trans x4
      have p4 : ∀ α5 S5 H5, Ext α4 H4 α5 H5 → Wd X.g α5 S5 H5 → stay k.gs S5 → P α5 S5 H5 := fun α5 S5 H5 x5 w5 s5 => hP.stays α2 S2 H3 α5 S5 H5 p3 (x4.trans x5) w5 s5
      rw [R.bind_assoc] at q4
      refine (Classical.choose_spec (hc C s₂ H1 fp)).2 α4 ρ4 S4 σ4 H4 _ w4 s4 (q4.bindY x34 fun b5 b5' S5 α5 H5 e5 x5 w5 d5 q5 => ?_)
      cases d5
      cases b5 with
      | false =>
        rw [if_neg Bool.false_ne_true] at q5 ⊢
        split at q5
        · rename_i hst
          exact ⟨k.ds.length - (n + 1), by omega, rfl, hlt, by omega, α5, S5, x34.trans x5, w5, p4 α5 S5 H5 x5 w5 hst, outs, (l.ext (x3.trans x4)).ext x5, q5⟩
        · exact q5.elim
      | true =>
        rw [if_pos rfl, R.bind_assoc] at q5
        rw [if_pos rfl]
        refine (Classical.choose_spec (he C s₂ H1 fp)).2 α5 ρ4 S5 σ4 H5 _ w5 (s4.ext x5) (q5.bindY (x34.trans x5) fun y6 r6 S6 α6 H6 e6 x6 w6 d6 q6 => ?_)
        obtain ⟨d', S', α', e7, x7, y7, w7, de⟩ := zFN w6 x6 d6
        rw [e7] at q6
        have q6 : Post X.g W α H ((if stay k.gs S' then (kR gf cf ef (blk T.length idx ρ) k.gs (k.ds.drop (n + 1)) S').bind fun out S4 => .ok (d' :: out) S4 else .no).bind fun o S' => .ok (Er.new (outs ++ o)) S') Q := q6
        split at q6
        · rename_i hst
          refine ⟨k.ds.length - (n + 1), by omega, rfl, hlt, by rw [List.length_append, List.length_singleton]; omega, α', S', (x34.trans x5).trans x7, w7, p4 α' S' H6 (x5.trans x7) w7 hst, outs ++ [d'], ((l.ext (x3.trans x4)).ext (x5.trans x7)).append (yE de yN), ?_⟩
          rw [R.bind_assoc] at q6
          have e8 : (fun (o : List MV) (S' : Sto) => R.ok (Er.new ((outs ++ [d']) ++ o)) S') = (fun (b : List MV) S => (R.ok (d' :: b) S).bind fun o S' => .ok (Er.new (outs ++ o)) S') := by
            funext o S'
            show _ = R.ok (Er.new (outs ++ (d' :: o))) S'
            rw [List.append_assoc]; rfl
          rw [e8]
          exact q6
        · exact q6.elim
    · have e : n = k.ds.length := by omega
      subst e
      rw [List.drop_length] at q2
      have q3 : Post X.g W α H (.ok (Er.new (outs ++ [])) S2) Q := q2
      rw [List.append_nil] at q3
      exact .inl ⟨i2 (Nat.le_refl _), fun D hD => (q3.shift x2).newl w2 hD l⟩
  · exact q1.elim
open Classical in
theorem zCK {elt tg : Expr} {ifs : List Expr} {sc : Scope} {itf : Rho → Sto → R Wk} {cf : Rho → Sto → R Bool} {ef : Rho → Sto → R Er} {gf : MV → Rho → Sto → R Rho} (osc : Scope) (N : List Str) (T : List Str) (idx : List Nat)
    (hi : PIm X W tg iter itf) (hcalm : X.calm = true)
    (hg : ∀ C s₂ H1 fp, ([] ++ T ++ idx.map fun i => (N[i]?).getD Str.empty).Nodup → PGn T.length (zJ X sc T idx C s₂ H1 fp) W0 tg gf)
    (hc : ∀ C s₂ H1 fp, PIfm (zJ X sc T idx C s₂ H1 fp) W0 ifs cf) (he : ∀ C s₂ H1 fp, PEm (zJ X sc T idx C s₂ H1 fp) W0 elt ef)
    (e1 : X.env.scope = osc := by rfl) (e2 : X.N = N := by rfl) (hB : zCX osc N sc idx = true := by decide +kernel) (hN : ([] ++ T ++ idx.map fun i => (N[i]?).getD Str.empty).Nodup := by decide +kernel)
    (hs : ∀ y, foldedSetIterable iter X.env y = pure y := by intro _; rfl) :
    PEm X W (.ListComp elt [⟨tg, iter, ifs, 0⟩] sc pos) (fun ρ S => (itf ρ S).bind fun k S1 => if k.ds.length < 1000000 then (kR gf cf ef (blk T.length idx ρ) k.gs k.ds S1).bind fun out S2 => .ok (.new out) S2 else .no) := let ⟨t, h, k⟩ := (zRN osc N T idx hi hcalm hg hc he e1 e2 hB hN hs); ⟨t, h.1, k⟩
open Classical in
end
end M
end L2
namespace L2
namespace M
open PySem PySem.Spec PyProof.Rows
mutual
noncomputable def lo (n : Nat) : MV → Prop
  | .loc l => l < n
  | .tup ds => loL n ds
  | .scr ds => loL n ds
  | _ => True
noncomputable def loL (n : Nat) : List MV → Prop
  | [] => True
  | d :: ds => lo n d ∧ loL n ds
end
noncomputable def loO (n : Nat) : MO → Prop
  | .lst ds => loL n ds
  | .dic kvs => ∀ p ∈ kvs, lo n p.1 ∧ lo n p.2
  | .ins _ fs => ∀ p ∈ fs, lo n p.2
section
variable {K : PySem.W.Frag} {α t : List Addr} {H : Hp}
mutual
theorem Den.back : ∀ {d : MV} {v : V}, Den K (α ++ t) H d v → lo α.length d → Den K α H d v
  | .non, _, q, _ => by cases jE q; exact dY
  | .bl _, _, q, _ => by cases bA q; exact yT _
  | .int _, _, q, _ => by cases kJ q; exact yI _
  | .str _, _, q, _ => by cases kK q; exact wI _
  | .typ _, _, q, _ => by cases jF q; exact zLE _
  | .loc l, _, q, h => by
    obtain ⟨a, rfl, e⟩ := wV q
    have hl : l < α.length := by unfold lo at h; exact h
    rw [List.getElem?_append_left hl] at e
    exact zCI e
  | .tup ds, _, q, h => by
    obtain ⟨a, vs, rfl, s, l⟩ := wU q
    exact dZ s (DenL.back l (by unfold lo at h; exact h))
  | .scr ds, _, q, h => by
    obtain ⟨a, vs, rfl, s, l⟩ := kL q
    exact zLF s (DenL.back l (by unfold lo at h; exact h))
theorem DenL.back : ∀ {ds : List MV} {vs : List V}, DenL K (α ++ t) H ds vs → loL α.length ds → DenL K α H ds vs
  | [], _, q, _ => by rw [q.isnil]; exact yN
  | d :: ds, _, q, h => by
    obtain ⟨v, r, rfl, a, l⟩ := q.uncons
    unfold loL at h
    exact yE (Den.back a h.1) (DenL.back l h.2)
end
mutual
theorem Den.lo : ∀ {d : MV} {v : V}, Den K α H d v → lo α.length d
  | .non, _, q => by unfold M.lo; trivial
  | .bl _, _, q => by unfold M.lo; trivial
  | .int _, _, q => by unfold M.lo; trivial
  | .str _, _, q => by unfold M.lo; trivial
  | .typ _, _, q => by unfold M.lo; trivial
  | .loc l, _, q => by
    obtain ⟨a, rfl, e⟩ := wV q
    unfold M.lo
    exact (List.getElem?_eq_some_iff.mp e).1
  | .tup ds, _, q => by
    obtain ⟨a, vs, rfl, s, l⟩ := wU q
    unfold M.lo
    exact DenL.lo l
  | .scr ds, _, q => by
    obtain ⟨a, vs, rfl, s, l⟩ := kL q
    unfold M.lo
    exact DenL.lo l
theorem DenL.lo : ∀ {ds : List MV} {vs : List V}, DenL K α H ds vs → loL α.length ds
  | [], _, q => by unfold loL; trivial
  | d :: ds, _, q => by
    obtain ⟨v, r, rfl, a, l⟩ := q.uncons
    unfold loL
    exact ⟨Den.lo a, DenL.lo l⟩
end
theorem DenK.back : ∀ {fs gs}, DenK K (α ++ t) H fs gs → (∀ p ∈ fs, M.lo α.length p.1 ∧ M.lo α.length p.2) → DenK K α H fs gs
  | _, _, .nil, _ => .nil
  | _, _, .cons k a l, h => .cons k (a.back (h _ List.mem_cons_self).2) (DenK.back l fun p hp => h p (List.mem_cons_of_mem _ hp))
theorem KeyD.lo {n : Nat} {k : MV} {k' : Key} (h : KeyD k k') : M.lo n k := by
  unfold KeyD at h
  split at h
  · unfold M.lo; trivial
  · unfold M.lo; trivial
  · exact h.elim
theorem DenK.lo : ∀ {fs gs}, DenK K α H fs gs → ∀ p ∈ fs, M.lo α.length p.1 ∧ M.lo α.length p.2
  | _, _, .nil => fun p h => by simp at h
  | _, _, .cons k a l => fun p h => (List.mem_cons.mp h).elim (fun e => by subst e; exact ⟨k.lo, a.lo⟩) (DenK.lo l p)
theorem DenN.back : ∀ {fs xs}, DenN K (α ++ t) H fs xs → (∀ p ∈ fs, M.lo α.length p.1 ∧ M.lo α.length p.2) → DenN K α H fs xs
  | _, _, .nil, _ => .nil
  | _, _, .cons k e a d r l, h => .cons k e (a.back (h _ List.mem_cons_self).1) (d.back (h _ List.mem_cons_self).2) r (DenN.back l fun p hp => h p (List.mem_cons_of_mem _ hp))
theorem DenN.lo : ∀ {fs xs}, DenN K α H fs xs → ∀ p ∈ fs, M.lo α.length p.1 ∧ M.lo α.length p.2
  | _, _, .nil => fun p h => by simp at h
  | _, _, .cons k e a d r l => fun p h => (List.mem_cons.mp h).elim (fun z => by subst z; exact ⟨a.lo, d.lo⟩) (DenN.lo l p)
theorem DenF.back : ∀ {fs gs}, DenF K (α ++ t) H fs gs → (∀ p ∈ fs, M.lo α.length p.2) → DenF K α H fs gs
  | _, _, .nil, _ => .nil
  | _, _, .cons a l, h => .cons (a.back (h _ List.mem_cons_self)) (DenF.back l fun p hp => h p (List.mem_cons_of_mem _ hp))
theorem DenF.lo : ∀ {fs gs}, DenF K α H fs gs → ∀ p ∈ fs, M.lo α.length p.2
  | _, _, .nil => fun p h => by simp at h
  | _, _, .cons a l => fun p h => (List.mem_cons.mp h).elim (fun e => by subst e; exact a.lo) (DenF.lo l p)
theorem ObD.back {g : Gm} {a : Addr} {o : MO} (q : ObD g (α ++ t) H a o) (h : loO α.length o) : ObD g α H a o := by
  cases o with
  | lst ds => obtain ⟨vs, h1, l⟩ := q; exact ⟨vs, h1, l.back h⟩
  | dic ds =>
    rcases q with ⟨vs, h1, l⟩ | ⟨vs, h1, l⟩
    · exact .inl ⟨vs, h1, l.back h⟩
    · exact .inr ⟨vs, h1, l.back h⟩
  | ins c fs => obtain ⟨C, gs, m, l, r⟩ := q; exact ⟨C, gs, m, l.back h, r⟩
theorem ObD.lo {g : Gm} {a : Addr} {o : MO} (q : ObD g α H a o) : loO α.length o := by
  cases o with
  | lst ds => obtain ⟨vs, h1, l⟩ := q; exact l.lo
  | dic ds =>
    rcases q with ⟨vs, h1, l⟩ | ⟨vs, h1, l⟩
    · exact l.lo
    · exact l.lo
  | ins c fs => obtain ⟨C, gs, m, l, r⟩ := q; exact l.lo
end
noncomputable def zPA (S S2 : Sto) : Prop := S.length ≤ S2.length ∧ ∀ l, l < S.length → S2[l]? = S[l]? ∨ ∃ o, S2[l]? = some o ∧ loO S.length o
open Classical in
noncomputable def cL (S : Sto) (r : Er) (S2 : Sto) : R Er :=
  if zPA S S2 then match r with
    | .val (.loc l) => if l < S.length then .ok r (S2.take S.length) else match S2[l]? with
      | some (.lst ds) => if loL S.length ds then .ok (.new ds) (S2.take S.length) else .ok r S2
      | _ => .ok r S2
    | .val d => if lo S.length d then .ok r (S2.take S.length) else .ok r S2
    | .new ds => if loL S.length ds then .ok r (S2.take S.length) else .ok r S2
  else .ok r S2
theorem zGO {g : Gm} {α α1 α2 α3 : List Addr} {H H1 H3 : Hp} {S1 S3 : Sto} {r : Er} {v : V} (x1 : Ext α H α1 H1) (w1 : Wd g α1 S1 H1) (h12 : ∃ t, α2 = α1 ++ t) (x2 : Ext α H α2 H1) (x3 : Ext α2 H1 α3 H3) (w3 : Wd g α3 S3 H3) (d : DenE g.K H1 α3 H3 r v) :
    ∃ r' S' α', cL S1 r S3 = .ok r' S' ∧ Ext α H α' H3 ∧ Wd g α' S' H3 ∧ DenE g.K H α' H3 r' v := by
  have x23 := x2.trans x3
  have dfull : DenE g.K H α3 H3 r v := d.back fun b h => x1.free h
  unfold cL
  by_cases hc : zPA S1 S3
  · rw [if_pos hc]
    obtain ⟨t, ht⟩ : ∃ t, α3 = α1 ++ t := by
      obtain ⟨t, e⟩ := h12
      obtain ⟨u, e'⟩ := x3.pre
      exact ⟨t ++ u, by rw [e', e, List.append_assoc]⟩
    have hn : α1.length = S1.length := w1.len
    have xc : Ext α H α1 H3 := ⟨⟨x1.pre, x23.tup, x23.frz⟩, x1.new, x23.keep, x23.has⟩
    have wc : Wd g α1 (S3.take S1.length) H3 := by
      refine ⟨by rw [List.length_take, hn, Nat.min_eq_left hc.1], w1.nd, fun l a o h1 h2 => ?_⟩
      have hl : l < S1.length := by rw [← hn]; exact (List.getElem?_eq_some_iff.mp h1).1
      rw [List.getElem?_take_of_lt hl] at h2
      have h1' : α3[l]? = some a := by rw [ht, List.getElem?_append_left (by rw [hn]; exact hl)]; exact h1
      have q := w3.obj l a o h1' h2
      rw [ht] at q
      refine q.back ?_
      rcases hc.2 l hl with e | ⟨o', e, lo'⟩
      · rw [e] at h2
        exact (w1.obj l a o h1 h2).lo
      · rw [h2] at e
        cases e
        rw [hn]; exact lo'
    have dlo : ∀ d, lo S1.length d → Den g.K α3 H3 d v → DenE g.K H α1 H3 (.val d) v := fun d hd q => .val ((ht ▸ q : Den g.K (α1 ++ t) H3 d v).back (by rw [hn]; exact hd))
    cases r with
    | new ds =>
      dsimp only
      split
      · rename_i hl
        obtain ⟨⟨b, vs, rfl, h1, h2, h3⟩, h4⟩ := dfull
        exact ⟨_, _, α1, rfl, xc, wc, ⟨b, vs, rfl, h1, fun z => h2 (by rw [ht]; exact List.mem_append_left _ z), (ht ▸ h3 : DenL g.K (α1 ++ t) H3 ds vs).back (by rw [hn]; exact hl)⟩, h4⟩
      · exact ⟨_, _, α3, rfl, x23, w3, dfull⟩
    | val mv =>
      have dd : Den g.K α3 H3 mv v := dfull.1
      cases mv with
      | loc l =>
        dsimp only
        split
        · rename_i hl
          exact ⟨_, _, α1, rfl, xc, wc, dlo _ (by unfold lo; exact hl) dd⟩
        · rename_i hl
          obtain ⟨a, rfl, ha⟩ := wV dd
          split
          · rename_i ds hS
            split
            · rename_i hlo
              obtain ⟨vs, h1, h2⟩ := w3.obj l a _ ha hS
              have hna : a ∉ α1 := fun z => by
                obtain ⟨m, hm⟩ := List.getElem?_of_mem z
                have hml : m < α1.length := (List.getElem?_eq_some_iff.mp hm).1
                have hm' : α3[m]? = some a := by rw [ht, List.getElem?_append_left hml]; exact hm
                obtain ⟨u1, e1⟩ := List.getElem?_eq_some_iff.mp hm'
                obtain ⟨u2, e2⟩ := List.getElem?_eq_some_iff.mp ha
                have := (List.getElem_inj w3.nd).mp (e1.trans e2.symm)
                omega
              refine ⟨_, _, α1, rfl, xc, wc, ⟨a, vs, rfl, h1, hna, (ht ▸ h2 : DenL g.K (α1 ++ t) H3 ds vs).back (by rw [hn]; exact hlo)⟩, fun b e => ?_⟩
              cases e
              rcases x23.new a (List.mem_of_getElem? ha) with z | z
              · obtain ⟨u, eu⟩ := x1.pre
                exact absurd (by rw [eu]; exact List.mem_append_left _ z) hna
              · exact z
            · exact ⟨_, _, α3, rfl, x23, w3, dfull⟩
          · exact ⟨_, _, α3, rfl, x23, w3, dfull⟩
      | non => dsimp only; split; (· rename_i hl; exact ⟨_, _, α1, rfl, xc, wc, dlo _ hl dd⟩); (· exact ⟨_, _, α3, rfl, x23, w3, dfull⟩)
      | bl b => dsimp only; split; (· rename_i hl; exact ⟨_, _, α1, rfl, xc, wc, dlo _ hl dd⟩); (· exact ⟨_, _, α3, rfl, x23, w3, dfull⟩)
      | int b => dsimp only; split; (· rename_i hl; exact ⟨_, _, α1, rfl, xc, wc, dlo _ hl dd⟩); (· exact ⟨_, _, α3, rfl, x23, w3, dfull⟩)
      | str b => dsimp only; split; (· rename_i hl; exact ⟨_, _, α1, rfl, xc, wc, dlo _ hl dd⟩); (· exact ⟨_, _, α3, rfl, x23, w3, dfull⟩)
      | typ b => dsimp only; split; (· rename_i hl; exact ⟨_, _, α1, rfl, xc, wc, dlo _ hl dd⟩); (· exact ⟨_, _, α3, rfl, x23, w3, dfull⟩)
      | tup b => dsimp only; split; (· rename_i hl; exact ⟨_, _, α1, rfl, xc, wc, dlo _ hl dd⟩); (· exact ⟨_, _, α3, rfl, x23, w3, dfull⟩)
      | scr b => dsimp only; split; (· rename_i hl; exact ⟨_, _, α1, rfl, xc, wc, dlo _ hl dd⟩); (· exact ⟨_, _, α3, rfl, x23, w3, dfull⟩)
  · rw [if_neg hc]
    exact ⟨_, _, α3, rfl, x23, w3, dfull⟩
noncomputable def spM (g : Gm) (n : Nat) (F : List MV → Sto → R Er) : Sp := fun vs H Q _ => ∃ α S ds, Wd g α S H ∧ DenL g.K α H ds vs ∧ ds.length = n ∧ Post g W0 α H (F ds S) Q
noncomputable def zU (n : Nat) (F : List MV → Sto → R Er) (rs : List Er) (S : Sto) : R Er := if rs.length = n then (noX (F (zK rs S).1 (zK rs S).2)).bind fun r S2 => cL S r S2 else .no
section
variable {X : Cx} {W : XW} {e : Expr} {es : List Expr} {af : Rho → Sto → R (List Er)} {pos : Pos}
theorem zMX {n : Nat} {F : List MV → Sto → R Er} {rs : List Er} {vs : List V} {α α1 : List Addr} {H H1 : Hp} {S1 : Sto} {Q : VK} (x1 : Ext α H α1 H1) (w1 : Wd X.g α1 S1 H1) (d1 : ArgsE X.K H α1 H1 rs vs) (q : Post X.g W α H (zU n F rs S1) Q) :
    spM X.g n F vs H1 Q E0 := by
  unfold zU at q
  split at q
  · rename_i hl
    obtain ⟨α2, x2, y2, w2, l2⟩ := bB w1 x1 d1
    refine ⟨α2, _, _, w2, l2, by rw [nB]; exact hl, ?_⟩
    cases z : F (zK rs S1).1 (zK rs S1).2 with
    | ok r S3 =>
      rw [z] at q
      intro v α3 H3 x3 w3 d3
      obtain ⟨r', S', α', e', x', w', d'⟩ := zGO x1 w1 y2.pre x2 x3 w3 d3
      have q : Post X.g W α H (cL S1 r S3) Q := q
      rw [e'] at q
      exact q v α' H3 x' w' d'
    | exc c fs S3 => rw [z] at q; exact q.elim
    | no => rw [z] at q; exact q.elim
  · exact q.elim
theorem yZ {k n : Nat} {fa : Addr} {fd : FuncData} {ps : List Str} {F : List MV → Sto → R Er} {x : Str} {p : Pos} (G : FnOk X.prog X.w X.K X.mg X.base CX0 k fa fd ps (spM X.g n F)) (hr : Room k X.A) (hg : Gl X x) (hm : X.mg x = some (.ref fa))
    (hk : PySem.W.keepIn X.K (.ref fa) = true) (hb : Binds X.K fd ps []) (ha : PAm X W (e :: es) af) (hdb : (x == ("__debug__" : Str)) = false := by decide)
    (he : starEach (e :: es) X.env = (false, eval e X.env) :: starEach es X.env := by rfl) (hpl : (backTo pos (starEach es X.env)).any (·.1) = false := by rfl) :
    PEm X W (.Call (.Name x p) (e :: es) [] pos) (fun ρ S => (af ρ S).bind fun rs S1 => zU n F rs S1) := by
  obtain ⟨t, ha, kk⟩ := ha
  refine ⟨_, zQV G hr hg hm hk hb .nil pass0 ha hdb he hpl, fun α ρ S σ H Q wd sl q => kk α ρ S σ H _ wd sl (q.bind fun vs rs S1 α1 H1 e1 x1 w1 d1 q1 => ?_)⟩
  rw [List.append_nil]
  exact zMX x1 w1 d1 q1
end
noncomputable def yC (N : List Str) (ds : List MV) : Rho := ds.map some ++ List.replicate (N.length - ds.length) none
noncomputable def kU : R Fl → R Er
  | .ok (.next _) S => .ok (.val .non) S
  | .ok (.ret r) S => .ok r S
  | .exc c fs S => .exc c fs S
  | _ => .no
theorem zBW {K : PySem.W.Frag} {α : List Addr} {N : List Str} {H : Hp} {ds : List MV} {vs : List V} (l : DenL K α H ds vs) : Slots K α H (yC N ds) (start N vs) := by
  have hlen := l.length
  refine ⟨?_, fun i d e => ?_⟩
  · unfold start yC
    rw [List.length_append, List.length_append, List.length_map, List.length_map, List.length_replicate, List.length_replicate, hlen]
  · unfold yC at e
    by_cases hi : i < ds.length
    · rw [List.getElem?_append_left (by simpa using hi), List.getElem?_map] at e
      cases z : ds[i]? with
      | none => rw [z] at e; cases e
      | some d' =>
        rw [z] at e
        obtain ⟨v, h1, h2⟩ := l.at z
        have e' : d' = d := Option.some.inj (Option.some.inj e)
        subst e'
        refine ⟨v, ?_, h2⟩
        unfold start
        rw [List.getElem?_append_left (by rw [List.length_map, hlen]; exact hi), List.getElem?_map, h1]; rfl
    · rw [List.getElem?_append_right (by simpa using hi), List.getElem?_replicate] at e
      split at e <;> cases e
section
variable {P : Program} {w : World} {K : PySem.W.Frag} {mg : Str → Option Value} {base : Heap}
theorem okM {x qual : Str} {st : Stmt} {f : Addr} {fd : FuncData} {N ps : List Str} {k : Nat} (Fb : Rho → Sto → R Fl) (F : Fun K x qual st f fd) (Sc : FnScope N ps (zG st))
    (hbody : ∀ (cdv : Value) (A : Around) (outer : List Env) (s : Shared) (H : Hp) (E : XK), Room k (A.deeper (envOfC qual (zG st) s.heap.objs.size f cdv)) →
      zDK (zGC CX0 P w K mg base N qual (zG st) f cdv A outer s H E).nox W0 (zV st) Fb) :
    FnOk P w K mg base CX0 (k + 1) f fd ps (spM ⟨K, mg, P, w⟩ ps.length fun ds S => kU (Fb (yC N ds) S)) := by
  refine F.ok Sc (fun vs H Q E h => ?_) (fun cdv A outer s H vs Q E hr h => ?_)
  · obtain ⟨α, S, ds, _, l, hl, _⟩ := h
    rw [l.length, hl]
  · obtain ⟨α, S, ds, wd, l, hl, q⟩ := h
    obtain ⟨t, ht, kk⟩ := hbody cdv A outer s H E hr
    refine ⟨t, ht, kk α (yC N ds) S (start N vs) H _ wd (zBW l) ?_⟩
    dsimp only at q
    cases z : Fb (yC N ds) S with
    | ok fl S' =>
      rw [z] at q
      cases fl with
      | next ρ => exact fun σ α' H' x' w' s' => q .non α' H' x' w' (DenE.val dY)
      | ret r => exact fun v α' H' x' w' d' => q v α' H' x' w' d'
      | brk ρ => exact q.elim
      | cont ρ => exact q.elim
    | exc c fs S' => rw [z] at q; exact fun α' H' x' w' => q α' H' x' w'
    | no => rw [z] at q; exact q
end
end M
end L2
namespace L2
namespace M
open PySem PySem.Spec PyProof.Rows
inductive Vw where
  | fl (v : V) | tp (ds : List MV) | ls (ds : List MV)
noncomputable def gA (S : Sto) : Er → Option (List MV)
  | .new ds => some ds
  | .val (.scr ds) => some ds
  | .val (.loc l) => match S[l]? with
    | some (.lst ds) => some ds
    | _ => none
  | _ => none
noncomputable def vwE (S : Sto) : Er → Option Vw
  | .val .non => some (.fl .non)
  | .val (.bl b) => some (.fl (.bl b))
  | .val (.int i) => some (.fl (.int i))
  | .val (.str x) => some (.fl (.str (mkS x)))
  | .val (.tup ds) => some (.tp ds)
  | .val (.typ _) => none
  | r => (gA S r).map .ls
noncomputable def prs (e : MV → MV → Option Bool) : List MV → List MV → Option (List Bool)
  | d :: ds, f :: fs => (e d f).bind fun k => (prs e ds fs).map (k :: ·)
  | _, _ => some []
noncomputable def eqW (e : MV → MV → Option Bool) : Vw → Vw → Option Bool
  | .fl x, .fl y => some (eqV x y)
  | .tp ds, .tp es => (prs e ds es).map fun bs => bs.all id && ds.length == es.length
  | .ls ds, .ls es => if ds.length = es.length then (prs e ds es).map fun bs => bs.all id else some false
  | _, _ => some false
theorem zKB (e : MV → MV → Option Bool) (ds es : List MV) : eqW e (.tp ds) (.tp es) = (prs e ds es).map fun bs => bs.all id && ds.length == es.length := rfl
theorem zKC (e : MV → MV → Option Bool) (ds es : List MV) : eqW e (.ls ds) (.ls es) = if ds.length = es.length then (prs e ds es).map fun bs => bs.all id else some false := rfl
noncomputable def eqv (S : Sto) : Nat → MV → MV → Option Bool
  | 0, _, _ => none
  | n + 1, a, b => (vwE S (.val a)).bind fun x => (vwE S (.val b)).bind fun y => eqW (eqv S n) x y
noncomputable def zBG (S : Sto) (n : Nat) (a b : Er) : Option Bool := (vwE S a).bind fun x => (vwE S b).bind fun y => eqW (eqv S n) x y
section
variable {X : Cx} {α : List Addr} {S : Sto} {H : Hp}
theorem zDP {K : PySem.W.Frag} {g : Gm} (hK : g.K = K) (wd : Wd g α S H) {r : Er} {ds : List MV} {x : V} (e : gA S r = some ds) (d : DenX K α H r x) : ∃ a vs, x = .ref a ∧ SqL K H a vs ∧ DenL K α H ds vs := by
  subst hK
  unfold gA at e
  split at e
  · cases e
    obtain ⟨b, vs, rfl, h, _, l⟩ := d
    exact ⟨b, vs, rfl, .of h, l⟩
  · cases e
    obtain ⟨a, vs, rfl, s, l⟩ := zGM d
    exact ⟨a, vs, rfl, s.l, l⟩
  · rename_i n
    obtain ⟨a, rfl, h⟩ := zBE d
    split at e
    · rename_i es hS
      cases e
      obtain ⟨vs, h1, l⟩ := wd.obj n a _ h hS
      exact ⟨a, vs, rfl, .of h1, l⟩
    · cases e
  · cases e
theorem cN {r : Er} {x y : V} (e : vwE S r = some (.fl y)) (d : DenX X.K α H r x) : x = y ∧ yW y = true := by
  unfold vwE at e
  split at e
  · cases e; exact ⟨zJW d, rfl⟩
  · cases e; exact ⟨cZ d, rfl⟩
  · cases e; exact ⟨yB d, rfl⟩
  · cases e; exact ⟨yJ d, rfl⟩
  · cases e
  · cases e
  · cases z : gA S r <;> rw [z] at e <;> cases e
theorem cO {r : Er} {x : V} {ds : List MV} (e : vwE S r = some (.tp ds)) (d : DenX X.K α H r x) : ∃ a vs, x = .ref a ∧ SqT X.K H a vs ∧ DenL X.K α H ds vs := by
  unfold vwE at e
  split at e
  · cases e
  · cases e
  · cases e
  · cases e
  · cases e; exact bK d
  · cases e
  · cases z : gA S r <;> rw [z] at e <;> cases e
theorem cP (wd : Wd X.g α S H) {r : Er} {x : V} {ds : List MV} (e : vwE S r = some (.ls ds)) (d : DenX X.K α H r x) : ∃ a vs, x = .ref a ∧ SqL X.K H a vs ∧ DenL X.K α H ds vs := by
  unfold vwE at e
  split at e
  · cases e
  · cases e
  · cases e
  · cases e
  · cases e
  · cases e
  · cases z : gA S r with
    | none => rw [z] at e; cases e
    | some es => rw [z] at e; cases e; exact zDP rfl wd z d
theorem nE {e : MV → MV → Option Bool} : ∀ {ds es : List MV} {bs : List Bool}, prs e ds es = some bs → bs.length = min ds.length es.length
  | [], _, _, h => by simp [prs] at h; subst h; simp
  | _ :: _, [], _, h => by simp [prs] at h; subst h; simp
  | d :: ds, f :: fs, bs, h => by
    unfold prs at h
    cases z : e d f with
    | none => rw [z] at h; cases h
    | some k =>
      rw [z] at h
      cases z2 : prs e ds fs with
      | none => simp [z2] at h
      | some cs =>
        simp [z2] at h
        subst h
        simp [nE z2]
theorem zGP {e : MV → MV → Option Bool} : ∀ {ds es : List MV} {bs : List Bool} {j : Nat} {d f : MV}, prs e ds es = some bs → ds[j]? = some d → es[j]? = some f → e d f = some (bs.getD j true)
  | [], _, _, _, _, _, h, h1, _ => by simp at h1
  | _ :: _, [], _, _, _, _, h, _, h2 => by simp at h2
  | d :: ds, f :: fs, bs, j, d', f', h, h1, h2 => by
    unfold prs at h
    cases z : e d f with
    | none => rw [z] at h; cases h
    | some k =>
      rw [z] at h
      cases z2 : prs e ds fs with
      | none => simp [z2] at h
      | some cs =>
        simp [z2] at h
        subst h
        cases j with
        | zero => simp at h1 h2; subst h1 h2; simpa using z
        | succ j => simpa using zGP z2 (by simpa using h1) (by simpa using h2)
theorem range_all {bs : List Bool} {n : Nat} (h : bs.length = n) : (List.range n).all (fun j => bs.getD j true) = bs.all id := by
  subst h
  rw [Bool.eq_iff_iff, List.all_eq_true, List.all_eq_true]
  constructor
  · intro h x hx
    obtain ⟨i, hi, rfl⟩ := List.getElem_of_mem hx
    have := h i (List.mem_range.mpr hi)
    simpa [List.getD_eq_getElem?_getD, hi] using this
  · intro h i hi
    have hi' := List.mem_range.mp hi
    have := h bs[i] (List.getElem_mem hi')
    simpa [List.getD_eq_getElem?_getD, hi'] using this
variable {pins : List (Addr × Obj)} {σ : St} {s : Shared}
theorem zAM (I : Inv X pins σ H s) {a : Addr} {xs ys : List V} (h : SqL X.K H a xs) (h' : SqT X.K H a ys) : False := by
  obtain ⟨_, _, pl, _⟩ := I.list h
  obtain ⟨_, _, pt, _⟩ := I.tuple h'
  obtain ⟨o, n, e, c, _, _⟩ := pl
  obtain ⟨o', e', c', _⟩ := pt
  rw [e] at e'
  cases e'
  rw [c] at c'
  exact absurd c' (by simp)
theorem zPB (I : Inv X pins σ H s) (wd : Wd X.g α S H) {e : MV → MV → Option Bool} (he : ∀ d f v k, Den X.K α H d v → Den X.K α H f v → e d f = some k → k = true) {a b : Er} {x : V} {p q : Vw} {k : Bool}
    (ha : vwE S a = some p) (hb : vwE S b = some q) (da : DenX X.K α H a x) (db : DenX X.K α H b x) (h : eqW e p q = some k) : k = true := by
  have hp : ∀ {ds es : List MV} {vs : List V} {bs : List Bool}, DenL X.K α H ds vs → DenL X.K α H es vs → prs e ds es = some bs → bs.all id = true := by
    intro ds es vs bs l1 l2 z
    rw [List.all_eq_true]
    intro k hk
    obtain ⟨i, hi, rfl⟩ := List.getElem_of_mem hk
    have hl := nE z
    have h1 : i < ds.length := by omega
    have h2 : i < es.length := by omega
    obtain ⟨v, g1, g2⟩ := l1.at (List.getElem?_eq_getElem h1)
    obtain ⟨v', g3, g4⟩ := l2.at (List.getElem?_eq_getElem h2)
    rw [g1] at g3; cases g3
    have := he _ _ _ _ g2 g4 (zGP z (List.getElem?_eq_getElem h1) (List.getElem?_eq_getElem h2))
    simpa [List.getD_eq_getElem?_getD, hi] using this
  cases p with
  | fl y =>
    obtain ⟨rfl, f1⟩ := cN ha da
    cases q with
    | fl z => obtain ⟨rfl, f2⟩ := cN hb db; cases h; exact zOK f1
    | tp ds => obtain ⟨a, vs, rfl, _⟩ := cO hb db; exact absurd (show false = true from f1) Bool.false_ne_true
    | ls ds => obtain ⟨a, vs, rfl, _⟩ := cP wd hb db; exact absurd (show false = true from f1) Bool.false_ne_true
  | tp ds =>
    obtain ⟨a1, vs, rfl, s1, l1⟩ := cO ha da
    cases q with
    | fl z => obtain ⟨rfl, f2⟩ := cN hb db; exact absurd (show false = true from f2) Bool.false_ne_true
    | tp es =>
      obtain ⟨a2, us, e2, s2, l2⟩ := cO hb db
      cases e2
      cases I.tuple_inj s1 s2
      rw [zKB] at h
      cases z : prs e ds es with
      | none => rw [z] at h; cases h
      | some bs =>
        rw [z] at h
        cases h
        show (bs.all id && ds.length == es.length) = true
        rw [hp l1 l2 z, ← l1.length, ← l2.length]; simp
    | ls es => obtain ⟨a2, us, e2, s2, l2⟩ := cP wd hb db; cases e2; exact (zAM I s2 s1).elim
  | ls ds =>
    obtain ⟨a1, vs, rfl, s1, l1⟩ := cP wd ha da
    cases q with
    | fl z => obtain ⟨rfl, f2⟩ := cN hb db; exact absurd (show false = true from f2) Bool.false_ne_true
    | tp es => obtain ⟨a2, us, e2, s2, l2⟩ := cO hb db; cases e2; exact (zAM I s1 s2).elim
    | ls es =>
      obtain ⟨a2, us, e2, s2, l2⟩ := cP wd hb db
      cases e2
      cases I.list_inj s1 s2
      rw [zKC] at h
      rw [if_pos (by rw [← l1.length, ← l2.length])] at h
      cases z : prs e ds es with
      | none => rw [z] at h; cases h
      | some bs => rw [z] at h; cases h; exact hp l1 l2 z
theorem zDQ (I : Inv X pins σ H s) (wd : Wd X.g α S H) : ∀ (n : Nat) (d f : MV) (v : V) (k : Bool), Den X.K α H d v → Den X.K α H f v → eqv S n d f = some k → k = true
  | 0, _, _, _, _, _, _, h => by cases h
  | n + 1, d, f, v, k, h1, h2, h => by
    unfold eqv at h
    cases za : vwE S (.val d) with
    | none => rw [za] at h; cases h
    | some p =>
      cases zb : vwE S (.val f) with
      | none => rw [za, zb] at h; cases h
      | some q =>
        rw [za, zb] at h
        exact zPB I wd (zDQ I wd n) za zb (a := .val d) (b := .val f) h1 h2 h
theorem zAN {e : MV → MV → Option Bool} {A : Around} (he : ∀ d f x y u v k, Den X.K α H d x → Den X.K α H f y → RelV x u → RelV y v → e d f = some k → SeqAt.EqAt A s u v k)
    {ds es : List MV} {vs us : List V} {its its2 : List Value} {bs : List Bool} (l1 : DenL X.K α H ds vs) (l2 : DenL X.K α H es us) (r1 : Vals vs its) (r2 : Vals us its2) (z : prs e ds es = some bs) :
    ∀ j (h1 : j < its.toArray.size) (h2 : j < its2.toArray.size), SeqAt.EqAt A s its.toArray[j] its2.toArray[j] (bs.getD j true) := by
  intro j h1 h2
  have g1 : j < vs.length := by rw [r1.length]; simpa using h1
  have g2 : j < us.length := by rw [r2.length]; simpa using h2
  obtain ⟨d, d1, d2⟩ := l1.get (List.getElem?_eq_getElem g1)
  obtain ⟨f, f1, f2⟩ := l2.get (List.getElem?_eq_getElem g2)
  obtain ⟨u, u1, u2⟩ := r1.get (List.getElem?_eq_getElem g1)
  obtain ⟨v, v1, v2⟩ := r2.get (List.getElem?_eq_getElem g2)
  have e1 : its.toArray[j] = u := by
    have : its[j]? = some (its[j]'(by simpa using h1)) := List.getElem?_eq_getElem _
    rw [u1] at this
    simpa using (Option.some.inj this).symm
  have e2 : its2.toArray[j] = v := by
    have : its2[j]? = some (its2[j]'(by simpa using h2)) := List.getElem?_eq_getElem _
    rw [v1] at this
    simpa using (Option.some.inj this).symm
  rw [e1, e2]
  exact he d f _ _ u v _ d2 f2 u2 v2 (zGP z d1 f1)
theorem zKD (I : Inv X pins σ H s) (wd : Wd X.g α S H) : ∀ (n : Nat) (A : Around) (d f : MV) (x y : V) (u v : Value) (k : Bool), A.units + n < cLine → Den X.K α H d x → Den X.K α H f y → RelV x u → RelV y v → eqv S n d f = some k → SeqAt.EqAt A s u v k
  | 0, _, _, _, _, _, _, _, _, _, _, _, _, _, h => by cases h
  | n + 1, A, d, f, x, y, u, v, k, hu, h1, h2, rx, ry, h => by
    have hu0 : A.units < cLine := by omega
    have hsame := h
    unfold eqv at h
    cases za : vwE S (.val d) with
    | none => rw [za] at h; cases h
    | some p =>
      cases zb : vwE S (.val f) with
      | none => rw [za, zb] at h; cases h
      | some q =>
        rw [za, zb] at h
        have h : eqW (eqv S n) p q = some k := h
        have he := fun d f x y u v k a b c d' e => zKD I wd n A.in1 d f x y u v k (show A.units + 1 + n < cLine by omega) a b c d' e
        cases p with
        | fl x' =>
          obtain ⟨rfl, fx⟩ := cN za (α := α) (H := H) (X := X) h1
          cases q with
          | fl y' => obtain ⟨rfl, fy⟩ := cN zb (α := α) (H := H) (X := X) h2; cases h; exact zUG rx ry fx fy
          | tp es =>
            obtain ⟨b, us, rfl, s2, l2⟩ := cO zb (α := α) (H := H) (X := X) h2
            cases ry; cases h
            obtain ⟨its, _, pt, _⟩ := I.tuple s2
            exact zSY rx fx pt hu0
          | ls es =>
            obtain ⟨b, us, rfl, s2, l2⟩ := cP wd zb h2
            cases ry; cases h
            obtain ⟨its, _, pl, _⟩ := I.list s2
            exact eq_lr rx fx pl.isList hu0
        | tp ds =>
          obtain ⟨a, vs, rfl, s1, l1⟩ := cO za (α := α) (H := H) (X := X) h1
          cases rx
          obtain ⟨its, r1, pt, _⟩ := I.tuple s1
          cases q with
          | fl y' => obtain ⟨rfl, fy⟩ := cN zb (α := α) (H := H) (X := X) h2; cases h; exact zSX ry fy pt hu0
          | tp es =>
            obtain ⟨b, us, rfl, s2, l2⟩ := cO zb (α := α) (H := H) (X := X) h2
            cases ry
            by_cases hab : a = b
            · subst hab
              rw [zDQ I wd (n + 1) d f _ k h1 h2 hsame]
              exact SeqAt.EqAt.same _
            · obtain ⟨its2, r2, pt2, _⟩ := I.tuple s2
              rw [zKB] at h
              cases z : prs (eqv S n) ds es with
              | none => rw [z] at h; cases h
              | some bs =>
                rw [z] at h
                cases h
                have := SeqAt.RcAt.tuples pt pt2 hu0 (zAN he l1 l2 r1 r2 z)
                have hl := nE z
                rw [range_all (by rw [hl]; simp [← r1.length, ← r2.length, l1.length, l2.length])] at this
                have e3 : (its.toArray.size == its2.toArray.size) = (ds.length == es.length) := by simp [← r1.length, ← r2.length, l1.length, l2.length]
                rw [e3] at this
                exact SeqAt.EqAt.of_refs hab this
          | ls es =>
            obtain ⟨b, us, rfl, s2, l2⟩ := cP wd zb h2
            cases ry; cases h
            obtain ⟨its2, _, pl, _⟩ := I.list s2
            exact SeqAt.EqAt.tuple_list pt pl.isList hu0
        | ls ds =>
          obtain ⟨a, vs, rfl, s1, l1⟩ := cP wd za h1
          cases rx
          obtain ⟨its, r1, pl, _⟩ := I.list s1
          cases q with
          | fl y' => obtain ⟨rfl, fy⟩ := cN zb (α := α) (H := H) (X := X) h2; cases h; exact eq_ll ry fy pl.isList hu0
          | tp es =>
            obtain ⟨b, us, rfl, s2, l2⟩ := cO zb (α := α) (H := H) (X := X) h2
            cases ry; cases h
            obtain ⟨its2, _, pt, _⟩ := I.tuple s2
            exact SeqAt.EqAt.list_tuple pl.isList pt hu0
          | ls es =>
            obtain ⟨b, us, rfl, s2, l2⟩ := cP wd zb h2
            cases ry
            by_cases hab : a = b
            · subst hab
              rw [zDQ I wd (n + 1) d f _ k h1 h2 hsame]
              exact SeqAt.EqAt.same _
            · obtain ⟨its2, r2, pl2, _⟩ := I.list s2
              rw [zKC] at h
              by_cases hl : ds.length = es.length
              · rw [if_pos hl] at h
                cases z : prs (eqv S n) ds es with
                | none => rw [z] at h; cases h
                | some bs =>
                  rw [z] at h
                  cases h
                  have hs : its.toArray.size = its2.toArray.size := by simp [← r1.length, ← r2.length, l1.length, l2.length, hl]
                  have := SeqAt.RcAt.lists pl.isList pl2.isList hs hu0 (zAN he l1 l2 r1 r2 z)
                  have hl' := nE z
                  rw [range_all (by rw [hl']; simp [← r1.length, l1.length, hl])] at this
                  exact SeqAt.EqAt.of_refs hab this
              · rw [if_neg hl] at h
                cases h
                exact SeqAt.EqAt.of_refs hab (SeqAt.RcAt.lists_lengths pl.isList pl2.isList (by simpa [← r1.length, ← r2.length, l1.length, l2.length] using hl) hu0)
theorem zTA {RC : Around → Shared → Value → Value → Bool → Prop} {tr : Bool → Bool} {A : Around}
    (hff : ∀ x y u v, RelV x u → RelV y v → yW x = true → yW y = true → RC A s u v (tr (eqV x y)))
    (hfl : ∀ x v l items, RelV x v → yW x = true → s.heap.IsList l items → A.units < cLine → RC A s v (.ref l) (tr false) ∧ RC A s (.ref l) v (tr false))
    (hft : ∀ x v l items, RelV x v → yW x = true → s.heap.IsTuple l items → A.units < cLine → RC A s v (.ref l) (tr false) ∧ RC A s (.ref l) v (tr false))
    (hlt : ∀ l b items items2, s.heap.IsList l items → s.heap.IsTuple b items2 → A.units < cLine → RC A s (.ref l) (.ref b) (tr false) ∧ RC A s (.ref b) (.ref l) (tr false))
    (htt : ∀ (l b : Addr) (items items2 : Array Value) (e : Nat → Bool), s.heap.IsTuple l items → s.heap.IsTuple b items2 → A.units < cLine → (∀ j (h1 : j < items.size) (h2 : j < items2.size), SeqAt.EqAt A.in1 s items[j] items2[j] (e j)) → RC A s (.ref l) (.ref b) (tr ((List.range (min items.size items2.size)).all e && items.size == items2.size)))
    (hll : ∀ (l b : Addr) (items items2 : Array Value) (e : Nat → Bool), s.heap.IsList l items → s.heap.IsList b items2 → items.size = items2.size → A.units < cLine → (∀ j (h1 : j < items.size) (h2 : j < items2.size), SeqAt.EqAt A.in1 s items[j] items2[j] (e j)) → RC A s (.ref l) (.ref b) (tr ((List.range items.size).all e)))
    (hln : ∀ (l b : Addr) (items items2 : Array Value), s.heap.IsList l items → s.heap.IsList b items2 → (items.size != items2.size) = true → A.units < cLine → RC A s (.ref l) (.ref b) (tr false))
    (I : Inv X pins σ H s) (wd : Wd X.g α S H) (n : Nat) {a b : Er} {x y : V} {u v : Value} {k : Bool} (hu : A.units + (n + 1) < cLine) (h1 : DenX X.K α H a x) (h2 : DenX X.K α H b y) (rx : RelV x u) (ry : RelV y v) (h : zBG S n a b = some k) : RC A s u v (tr k) := by
  have hu0 : A.units < cLine := by omega
  unfold zBG at h
  cases za : vwE S a with
  | none => rw [za] at h; cases h
  | some p =>
    cases zb : vwE S b with
    | none => rw [za, zb] at h; cases h
    | some q =>
      rw [za, zb] at h
      have h : eqW (eqv S n) p q = some k := h
      have he := fun d f x y u v k a b c d' e => zKD I wd n A.in1 d f x y u v k (show A.units + 1 + n < cLine by omega) a b c d' e
      cases p with
      | fl x' =>
        obtain ⟨rfl, fx⟩ := cN za h1
        cases q with
        | fl y' => obtain ⟨rfl, fy⟩ := cN zb h2; cases h; exact hff _ _ _ _ rx ry fx fy
        | tp es =>
          obtain ⟨b, us, rfl, s2, l2⟩ := cO zb h2
          cases ry; cases h
          obtain ⟨its, _, pt, _⟩ := I.tuple s2
          exact (hft _ _ _ _ rx fx pt hu0).1
        | ls es =>
          obtain ⟨b, us, rfl, s2, l2⟩ := cP wd zb h2
          cases ry; cases h
          obtain ⟨its, _, pl, _⟩ := I.list s2
          exact (hfl _ _ _ _ rx fx pl.isList hu0).1
      | tp ds =>
        obtain ⟨a, vs, rfl, s1, l1⟩ := cO za h1
        cases rx
        obtain ⟨its, r1, pt, _⟩ := I.tuple s1
        cases q with
        | fl y' => obtain ⟨rfl, fy⟩ := cN zb h2; cases h; exact (hft _ _ _ _ ry fy pt hu0).2
        | tp es =>
          obtain ⟨b, us, rfl, s2, l2⟩ := cO zb h2
          cases ry
          obtain ⟨its2, r2, pt2, _⟩ := I.tuple s2
          rw [zKB] at h
          cases z : prs (eqv S n) ds es with
          | none => rw [z] at h; cases h
          | some bs =>
            rw [z] at h
            cases h
            have := htt _ _ _ _ _ pt pt2 hu0 (zAN he l1 l2 r1 r2 z)
            have hl := nE z
            rw [range_all (by rw [hl]; simp [← r1.length, ← r2.length, l1.length, l2.length])] at this
            have e3 : (its.toArray.size == its2.toArray.size) = (ds.length == es.length) := by simp [← r1.length, ← r2.length, l1.length, l2.length]
            rw [e3] at this
            exact this
        | ls es =>
          obtain ⟨b, us, rfl, s2, l2⟩ := cP wd zb h2
          cases ry; cases h
          obtain ⟨its2, _, pl, _⟩ := I.list s2
          exact (hlt _ _ _ _ pl.isList pt hu0).2
      | ls ds =>
        obtain ⟨a, vs, rfl, s1, l1⟩ := cP wd za h1
        cases rx
        obtain ⟨its, r1, pl, _⟩ := I.list s1
        cases q with
        | fl y' => obtain ⟨rfl, fy⟩ := cN zb h2; cases h; exact (hfl _ _ _ _ ry fy pl.isList hu0).2
        | tp es =>
          obtain ⟨b, us, rfl, s2, l2⟩ := cO zb h2
          cases ry; cases h
          obtain ⟨its2, _, pt, _⟩ := I.tuple s2
          exact (hlt _ _ _ _ pl.isList pt hu0).1
        | ls es =>
          obtain ⟨b, us, rfl, s2, l2⟩ := cP wd zb h2
          cases ry
          obtain ⟨its2, r2, pl2, _⟩ := I.list s2
          rw [zKC] at h
          by_cases hl : ds.length = es.length
          · rw [if_pos hl] at h
            cases z : prs (eqv S n) ds es with
            | none => rw [z] at h; cases h
            | some bs =>
              rw [z] at h
              cases h
              have hs : its.toArray.size = its2.toArray.size := by simp [← r1.length, ← r2.length, l1.length, l2.length, hl]
              have := hll _ _ _ _ _ pl.isList pl2.isList hs hu0 (zAN he l1 l2 r1 r2 z)
              have hl' := nE z
              rw [range_all (by rw [hl']; simp [← r1.length, l1.length, hl])] at this
              exact this
          · rw [if_neg hl] at h
            cases h
            exact hln _ _ _ _ pl.isList pl2.isList (by simpa [← r1.length, ← r2.length, l1.length, l2.length] using hl) hu0
theorem zUX (I : Inv X pins σ H s) (wd : Wd X.g α S H) (n : Nat) {A : Around} {a b : Er} {x y : V} {u v : Value} {k : Bool} (hu : A.units + (n + 1) < cLine) (h1 : DenX X.K α H a x) (h2 : DenX X.K α H b y) (rx : RelV x u) (ry : RelV y v) (h : zBG S n a b = some k) : SeqAt.RcAt A s u v k :=
  zTA (RC := SeqAt.RcAt) (tr := id) (fun _ _ _ _ a b c d => zUM a b c d) (fun _ _ _ _ a b c d => ⟨rc_lr a b c d, rc_ll a b c d⟩) (fun _ _ _ _ a b c d => ⟨rc_tr a b c d, rc_tl a b c d⟩)
    (fun _ _ _ _ a b c => ⟨SeqAt.RcAt.list_tuple a b c, SeqAt.RcAt.tuple_list b a c⟩) (fun _ _ _ _ _ a b c d => SeqAt.RcAt.tuples a b c d) (fun _ _ _ _ _ a b c d e => SeqAt.RcAt.lists a b c d e) (fun _ _ _ _ a b c d => SeqAt.RcAt.lists_lengths a b c d)
    I wd n hu h1 h2 rx ry h
theorem zUY (I : Inv X pins σ H s) (wd : Wd X.g α S H) (n : Nat) {A : Around} {a b : Er} {x y : V} {u v : Value} {k : Bool} (hu : A.units + (n + 1) < cLine) (h1 : DenX X.K α H a x) (h2 : DenX X.K α H b y) (rx : RelV x u) (ry : RelV y v) (h : zBG S n a b = some k) : SeqAt.RcNeAt A s u v (!k) :=
  zTA (RC := SeqAt.RcNeAt) (tr := fun b => !b) (fun _ _ _ _ a b c d => zUN a b c d) (fun _ _ _ _ a b c d => ⟨rn_lr a b c d, rn_ll a b c d⟩) (fun _ _ _ _ a b c d => ⟨rn_tr a b c d, rn_tl a b c d⟩)
    (fun _ _ _ _ a b c => ⟨SeqAt.RcNeAt.list_tuple a b c, SeqAt.RcNeAt.tuple_list b a c⟩) (fun _ _ _ _ _ a b c d => SeqAt.RcNeAt.tuples a b c d) (fun _ _ _ _ _ a b c d e => SeqAt.RcNeAt.lists a b c d e) (fun _ _ _ _ a b c d => SeqAt.RcNeAt.lists_lengths a b c d)
    I wd n hu h1 h2 rx ry h
mutual
theorem Den.inj (I : Inv X pins σ H s) (wd : Wd X.g α S H) : ∀ {d f : MV} {v : V}, Den X.K α H d v → Den X.K α H f v → d = f
  | .non, f, v, h, h' => by cases jE h; cases f <;> first | rfl | (have := bA h'; cases this; done) | (have := kJ h'; cases this; done) | (have := kK h'; cases this; done) | (have := jF h'; cases this; done) | (obtain ⟨_, _, e, _⟩ := wU h'; cases e; done) | (obtain ⟨_, _, e, _⟩ := kL h'; cases e; done) | (obtain ⟨_, e, _⟩ := wV h'; cases e; done)
  | .bl b, f, v, h, h' => by cases bA h; cases f <;> first | (have := bA h'; cases this; rfl; done) | (have := jE h'; cases this; done) | (have := kJ h'; cases this; done) | (have := kK h'; cases this; done) | (have := jF h'; cases this; done) | (obtain ⟨_, _, e, _⟩ := wU h'; cases e; done) | (obtain ⟨_, _, e, _⟩ := kL h'; cases e; done) | (obtain ⟨_, e, _⟩ := wV h'; cases e; done)
  | .int b, f, v, h, h' => by cases kJ h; cases f <;> first | (have := kJ h'; cases this; rfl; done) | (have := jE h'; cases this; done) | (have := bA h'; cases this; done) | (have := kK h'; cases this; done) | (have := jF h'; cases this; done) | (obtain ⟨_, _, e, _⟩ := wU h'; cases e; done) | (obtain ⟨_, _, e, _⟩ := kL h'; cases e; done) | (obtain ⟨_, e, _⟩ := wV h'; cases e; done)
  | .str b, f, v, h, h' => by cases kK h; cases f <;> first | (have := kK h'; rw [zLC (V.str.inj this)]; done) | (have := jE h'; cases this; done) | (have := bA h'; cases this; done) | (have := kJ h'; cases this; done) | (have := jF h'; cases this; done) | (obtain ⟨_, _, e, _⟩ := wU h'; cases e; done) | (obtain ⟨_, _, e, _⟩ := kL h'; cases e; done) | (obtain ⟨_, e, _⟩ := wV h'; cases e; done)
  | .typ b, f, v, h, h' => by cases jF h; cases f <;> first | (have := jF h'; cases this; rfl; done) | (have := jE h'; cases this; done) | (have := bA h'; cases this; done) | (have := kJ h'; cases this; done) | (have := kK h'; cases this; done) | (obtain ⟨_, _, e, _⟩ := wU h'; cases e; done) | (obtain ⟨_, _, e, _⟩ := kL h'; cases e; done) | (obtain ⟨_, e, _⟩ := wV h'; cases e; done)
  | .tup ds, f, v, h, h' => by
    obtain ⟨a, vs, rfl, s1, l1⟩ := wU h
    cases f with
    | tup es =>
      obtain ⟨a2, us, e2, s2, l2⟩ := wU h'
      cases e2
      cases I.tuple_inj s1 s2
      rw [DenL.inj I wd l1 l2]
    | scr es => obtain ⟨a2, us, e2, s2, l2⟩ := kL h'; cases e2; exact (zAM I s2.l s1).elim
    | loc l =>
      obtain ⟨a2, e2, h2⟩ := wV h'
      cases e2
      obtain ⟨ho, k1, k2, k3⟩ := wd.mem (List.mem_of_getElem? h2)
      rcases s1 with (s1 | ⟨o, s1⟩) | ⟨o, its, n, s1, _⟩
      · rw [k1] at s1; exact absurd (Option.some.inj s1) (k2 _)
      · rw [k1] at s1; exact absurd (Option.some.inj s1) (k3 _ _)
      · have := (I.bs a o (I.mod.kin a o s1)).2; rw [k1] at this; cases this
    | non => cases jE h'
    | bl b => cases bA h'
    | int b => cases kJ h'
    | str b => cases kK h'
    | typ b => cases jF h'
  | .scr ds, f, v, h, h' => by
    obtain ⟨a, vs, rfl, s1, l1⟩ := kL h
    cases f with
    | scr es =>
      obtain ⟨a2, us, e2, s2, l2⟩ := kL h'
      cases e2
      cases I.list_inj s1.l s2.l
      rw [DenL.inj I wd l1 l2]
    | tup es => obtain ⟨a2, us, e2, s2, l2⟩ := wU h'; cases e2; exact (zAM I s1.l s2).elim
    | loc l =>
      obtain ⟨a2, e2, h2⟩ := wV h'
      cases e2
      obtain ⟨ho, k1, k2, k3⟩ := wd.mem (List.mem_of_getElem? h2)
      rcases s1 with ⟨o, s1⟩ | ⟨o, its, n, s1, _⟩
      · rw [k1] at s1; exact absurd (Option.some.inj s1) (k3 _ _)
      · have := (I.bs a o (I.mod.kin a o s1)).2; rw [k1] at this; cases this
    | non => cases jE h'
    | bl b => cases bA h'
    | int b => cases kJ h'
    | str b => cases kK h'
    | typ b => cases jF h'
  | .loc l, f, v, h, h' => by
    obtain ⟨a, rfl, h1⟩ := wV h
    obtain ⟨ho, k1, k2, k3⟩ := wd.mem (List.mem_of_getElem? h1)
    cases f with
    | loc m =>
      obtain ⟨a2, e2, h2⟩ := wV h'
      cases e2
      by_cases hlm : l = m
      · rw [hlm]
      · exact absurd rfl (wd.ne h1 h2 hlm)
    | tup es =>
      obtain ⟨a2, us, e2, s1, l2⟩ := wU h'
      cases e2
      rcases s1 with (s1 | ⟨o, s1⟩) | ⟨o, its, n, s1, _⟩
      · rw [k1] at s1; exact absurd (Option.some.inj s1) (k2 _)
      · rw [k1] at s1; exact absurd (Option.some.inj s1) (k3 _ _)
      · have := (I.bs a o (I.mod.kin a o s1)).2; rw [k1] at this; cases this
    | scr es =>
      obtain ⟨a2, us, e2, s1, l2⟩ := kL h'
      cases e2
      rcases s1 with ⟨o, s1⟩ | ⟨o, its, n, s1, _⟩
      · rw [k1] at s1; exact absurd (Option.some.inj s1) (k3 _ _)
      · have := (I.bs a o (I.mod.kin a o s1)).2; rw [k1] at this; cases this
    | non => cases jE h'
    | bl b => cases bA h'
    | int b => cases kJ h'
    | str b => cases kK h'
    | typ b => cases jF h'
theorem DenL.inj (I : Inv X pins σ H s) (wd : Wd X.g α S H) : ∀ {ds fs : List MV} {vs : List V}, DenL X.K α H ds vs → DenL X.K α H fs vs → ds = fs
  | [], fs, vs, h, h' => by
    cases h.isnil
    cases fs with
    | nil => rfl
    | cons f fs => obtain ⟨_, _, e, _⟩ := h'.uncons; cases e
  | d :: ds, fs, vs, h, h' => by
    obtain ⟨v, r, rfl, a, l⟩ := h.uncons
    cases fs with
    | nil => cases h'.isnil
    | cons f fs =>
      obtain ⟨v', r', e, a', l'⟩ := h'.uncons
      cases e
      rw [Den.inj I wd a a', DenL.inj I wd l l']
end
end
end M
end L2
namespace L2
namespace M
open PySem PySem.Spec PyProof.Rows
section
variable {X : Cx} {W : XW} {a b c e : Expr} {es : List Expr} {f g h : Rho → Sto → R Er} {af : Rho → Sto → R (List Er)} {pos : Pos}
noncomputable def iiF (C : Int → Int → Prop) [∀ i j, Decidable (C i j)] (g : Int → Int → Int) : Er → Er → Sto → R Er
  | .val (.int i), .val (.int j), S => if C i j then .ok (.val (.int (g i j))) S else .no
  | _, _, _ => .no
noncomputable def ibF (g : Int → Int → Bool) : Er → Er → Sto → R Er
  | .val (.int i), .val (.int j), S => .ok (.val (.bl (g i j))) S
  | _, _, _ => .no
theorem zKE {C C' : Int → Int → Prop} [∀ i j, Decidable (C i j)] {g : Int → Int → Int} (h : ∀ i j, C i j → C' i j) : Op2 X W (rI C' fun i j => .int (g i j)) (iiF C g) := by
  intro p q x y α S H Q wd dp dq post
  unfold iiF at post
  split at post
  · split at post
    · rename_i hc
      exact ⟨_, _, yB dp, yB dq, h _ _ hc, Post.val post wd (yI _)⟩
    · exact post.elim
  · exact post.elim
theorem zRO {g : Int → Int → Int} : Op2 X W (rI0 fun i j => .int (g i j)) (iiF (fun _ _ => True) g) := by
  intro p q x y α S H Q wd dp dq post
  unfold iiF at post
  split at post
  · rw [if_pos trivial] at post
    exact ⟨_, _, yB dp, yB dq, Post.val post wd (yI _)⟩
  · exact post.elim
theorem zUZ {g : Int → Int → Bool} : Op2 X W (rI0 fun i j => .bl (g i j)) (ibF g) := by
  intro p q x y α S H Q wd dp dq post
  unfold ibF at post
  split at post
  · exact ⟨_, _, yB dp, yB dq, Post.val post wd (yT _)⟩
  · exact post.elim
abbrev zEQ := iiF (fun _ _ => True) fun i j => i - j
theorem dA (ha : PEm X W a f) (hb : PEm X W b g) : PEm X W (.BinOp a .Sub b pos) (fun ρ S => (f ρ S).bind fun p S1 => (g ρ S1).bind fun q S2 => zEQ p q S2) := zFM zTW zRO ha hb
noncomputable def divC (_ j : Int) : Prop := 0 < j ∧ j.natAbs.log2 < 9000
instance (i j : Int) : Decidable (divC i j) := inferInstanceAs (Decidable (_ ∧ _))
abbrev zAO := iiF divC fun i j => i / j
theorem zPC : OpR X (binaryOp .FloorDiv) (rI divC fun i j => .int (i / j)) := opI fun i j _ _ _ _ _ hc q => by
  have e : i.fdiv j = i / j := Int.fdiv_eq_ediv_of_nonneg i (Int.le_of_lt hc.1)
  refine floordiv_int (by have := hc.1; omega) ?_ (.inl (PyProof.noPylong_of_log2 hc.2))
  rw [e]
  exact q
theorem kM (ha : PEm X W a f) (hb : PEm X W b g) : PEm X W (.BinOp a .FloorDiv b pos) (fun ρ S => (f ρ S).bind fun p S1 => (g ρ S1).bind fun q S2 => zAO p q S2) := zFM zPC (zKE fun i j h => h) ha hb
abbrev wW := iiF (fun _ j => 0 < j) fun i j => i % j
theorem zX (ha : PEm X W a f) (hb : PEm X W b g) : PEm X W (.BinOp a .Mod b pos) (fun ρ S => (f ρ S).bind fun p S1 => (g ρ S1).bind fun q S2 => wW p q S2) := zFM zTX (zKE fun i j h => h) ha hb
noncomputable def zMY (i j : Int) : Prop := 0 ≤ j ∧ (Builtin.Int.intBits i : Int) * j ≤ 2 ^ 27
instance (i j : Int) : Decidable (zMY i j) := inferInstanceAs (Decidable (_ ∧ _))
abbrev cR := iiF zMY fun i j => i ^ j.toNat
theorem zRP : OpR X (binaryOp .Pow) (rI zMY fun i j => .int (i ^ j.toNat)) := opI fun _ _ _ _ _ _ _ hc q => pow_int hc.1 hc.2 q
theorem jH (ha : PEm X W a f) (hb : PEm X W b g) : PEm X W (.BinOp a .Pow b pos) (fun ρ S => (f ρ S).bind fun p S1 => (g ρ S1).bind fun q S2 => cR p q S2) := zFM zRP (zKE fun i j h => h) ha hb
noncomputable def shlC (i j : Int) : Prop := 0 ≤ j ∧ j ≤ 1000000 ∧ i.natAbs < 2 ^ 64
instance (i j : Int) : Decidable (shlC i j) := inferInstanceAs (Decidable (_ ∧ _ ∧ _))
noncomputable def usubF : Er → Sto → R Er
  | .val (.int i), S => .ok (.val (.int (-i))) S
  | _, _ => .no
noncomputable def lsW (S : Sto) : Er → Option (List MV)
  | .new ds => some ds
  | .val (.loc l) => match S[l]? with
    | some (.lst ds) => some ds
    | _ => none
  | _ => none
theorem zKF {α : List Addr} {S : Sto} {H : Hp} (wd : Wd X.g α S H) {r : Er} {ds : List MV} {x : V} (e : lsW S r = some ds) (d : DenX X.K α H r x) : ∃ a vs, x = .ref a ∧ H a = some (.lst vs) ∧ DenL X.K α H ds vs := by
  unfold lsW at e
  split at e
  · cases e
    obtain ⟨b, vs, rfl, h, _, l⟩ := d
    exact ⟨b, vs, rfl, h, l⟩
  · rename_i n
    obtain ⟨a, rfl, h⟩ := zBE d
    split at e
    · rename_i es hS
      cases e
      obtain ⟨vs, h1, l⟩ := wd.obj n a _ h hS
      exact ⟨a, vs, rfl, h1, l⟩
    · cases e
  · cases e
noncomputable def zLQ (p q : Er) (S : Sto) : R Er := match lsW S p, lsW S q with
  | some x, some y => if x.length + y.length ≤ sizeLine then .ok (.new (x ++ y)) S else .no
  | _, _ => .no
noncomputable def wA : Er → Er → Sto → R Er
  | .val (.int i), .val (.int j), S => .ok (.val (.int (i + j))) S
  | .val (.str x), .val (.str y), S => if x.length + y.length ≤ sizeLine then .ok (.val (.str (x ++ y))) S else .no
  | .val (.tup x), .val (.tup y), S => if x.length + y.length ≤ sizeLine then .ok (.val (.tup (x ++ y))) S else .no
  | p, q, S => zLQ p q S
theorem zPD : OpR X (binaryOp .Add) (fun x y H Q => ∃ a b ys, x = .ref a ∧ y = .ref b ∧ SqT X.K H a [] ∧ SqT X.K H b ys ∧ Q (.ref b) H) := by
  intro pins s σ H x y v u Q I rx ry h
  obtain ⟨a, b, ys, rfl, rfl, ha, hb, q⟩ := h
  cases rx
  cases ry
  obtain ⟨its, r1, p1, _⟩ := I.tuple ha
  obtain ⟨its2, r2, p2, _⟩ := I.tuple hb
  have e0 : its = [] := r1.nil_iff.mpr rfl
  subst e0
  obtain ⟨⟨cls, dd, data, sl⟩, ho, hc, n, hd⟩ := id p1
  obtain ⟨⟨cls2, dd2, data2, sl2⟩, ho2, hc2, n2, hd2⟩ := id p2
  simp only at hc hd hc2 hd2
  subst hc hd hc2 hd2
  exact concat_meets ⟨_, ho, rfl⟩ ⟨_, ho2, rfl⟩ noFill_tuple_add seq_tuple_add PySem.F.slot_tuple_add PySem.F.entry_tuple_add (PySem.F.args_tuple_add_2 _ _)
    (tuple_addW0 a b _ _ n n2 dd dd2 sl sl2 rfl) ⟨ho, ho2, ⟨.ref b, H, I, rfl, q⟩⟩
theorem yK (ha : PEm X W a f) (hb : PEm X W b g) : PEm X W (.BinOp a .Add b pos) (fun ρ S => (f ρ S).bind fun p S1 => (g ρ S1).bind fun q S2 => wA p q S2) := by
  refine zFM (zTV.or (zJO.or (zUI.or (zQZ.or zPD)))) ?_ ha hb
  intro p q x y α S H Q wd dp dq post
  unfold wA at post
  split at post
  · exact .inl ⟨_, _, yB dp, yB dq, Post.val post wd (yI _)⟩
  · split at post
    · rename_i hz
      refine .inr (.inl ⟨_, _, yJ dp, yJ dq, by rw [yH, yH]; exact hz, ?_⟩)
      rw [zRF]
      exact Post.val post wd (wI _)
    · exact post.elim
  · split at post
    · rename_i xx yy hz
      obtain ⟨a1, vs, rfl, s1, l1⟩ := bK dp
      obtain ⟨a2, us, rfl, s2, l2⟩ := bK dq
      by_cases h0 : vs = []
      · subst h0
        have e0 := l1.length
        refine .inr (.inr (.inr (.inr ⟨a1, a2, us, rfl, rfl, s1, s2, ?_⟩)))
        have : xx = [] := by cases xx with | nil => rfl | cons _ _ => simp at e0
        subst this
        exact Post.val post wd (dZ s2 l2)
      · refine .inr (.inr (.inr (.inl ⟨a1, a2, vs, us, rfl, rfl, s1, s2, h0, by rw [l1.length, l2.length]; exact hz, fun h1 => ?_, fun h1 p hp => Post.newt post wd hp (l1.append l2)⟩)))
        subst h1
        have e0 := l2.length
        have : yy = [] := by cases yy with | nil => rfl | cons _ _ => simp at e0
        subst this
        rw [List.append_nil] at post
        exact Post.val post wd (dZ s1 l1)
    · exact post.elim
  · unfold zLQ at post
    split at post
    · rename_i ds1 ds2 e1 e2
      split at post
      · rename_i hz
        obtain ⟨a1, vs, rfl, h1, l1⟩ := zKF wd e1 dp
        obtain ⟨a2, us, rfl, h2, l2⟩ := zKF wd e2 dq
        exact .inr (.inr (.inl ⟨a1, a2, vs, us, rfl, rfl, h1, h2, by rw [l1.length, l2.length]; exact hz, fun p hp => Post.newl post wd hp (l1.append l2)⟩))
      · exact post.elim
    · exact post.elim
noncomputable def mulC (i j : Int) : Prop := (-(2 ^ 64) < i ∧ i < 2 ^ 64) ∨ (-(2 ^ 64) < j ∧ j < 2 ^ 64) ∨ (i.natAbs.log2 < 4000 ∧ j.natAbs.log2 < 4000)
theorem zLR {i : Int} (h : i.natAbs.log2 < 4000) : Builtin.Int.intBits i ≤ 2 ^ 20 := by
  have e : (2 : Nat) ^ 20 = 1048576 := by decide
  unfold Builtin.Int.intBits
  split <;> omega
theorem mulC.ok {i j : Int} (h : mulC i j) : IntMulOk i j := by
  rcases h with h | h | ⟨h1, h2⟩
  · exact CMul.ok (.inl h)
  · exact CMul.ok (.inr h)
  · exact .of_bits (zLR h1) (zLR h2)
theorem zRQ {X : Cx} : OpR X (binaryOp .Mult) (rI mulC fun i j => .int (i * j)) := opI fun _ _ _ _ _ _ _ hc q => mul_int q hc.ok
instance (i j : Int) : Decidable (mulC i j) := inferInstanceAs (Decidable (_ ∨ _ ∨ _))
noncomputable def zTB (p : Er) (k : Int) (S : Sto) : R Er := match lsW S p with
  | some x => if 0 ≤ k ∧ k < 100000 ∧ x.length * k.toNat ≤ sizeLine then .ok (.new (List.replicate k.toNat x).flatten) S else .no
  | none => .no
noncomputable def cS : Er → Er → Sto → R Er
  | .val (.int i), .val (.int j), S => if mulC i j then .ok (.val (.int (i * j))) S else .no
  | .val (.str x), .val (.int k), S => if 0 ≤ k ∧ k < 1000 ∧ x.length ≤ 1000 then .ok (.val (.str (zDB x k))) S else .no
  | p, .val (.int k), S => zTB p k S
  | _, _, _ => .no
theorem DenL.rep {K : PySem.W.Frag} {α : List Addr} {H : Hp} {ds : List MV} {vs : List V} (l : DenL K α H ds vs) : ∀ k : Nat, DenL K α H (List.replicate k ds).flatten (List.replicate k vs).flatten
  | 0 => yN
  | k + 1 => by rw [List.replicate_succ, List.flatten_cons, List.replicate_succ, List.flatten_cons]; exact l.append (DenL.rep l k)
theorem jI (ha : PEm X W a f) (hb : PEm X W b g) : PEm X W (.BinOp a .Mult b pos) (fun ρ S => (f ρ S).bind fun p S1 => (g ρ S1).bind fun q S2 => cS p q S2) := by
  refine zFM (zRQ.or (zJS.or zUJ)) ?_ ha hb
  intro p q x y α S H Q wd dp dq post
  unfold cS at post
  split at post
  · split at post
    · rename_i hc
      exact .inl ⟨_, _, yB dp, yB dq, hc, Post.val post wd (yI _)⟩
    · exact post.elim
  · split at post
    · rename_i hc
      exact .inr (.inl ⟨_, _, yJ dp, yB dq, hc.1, hc.2.1, hc.2.2, Post.val post wd (wI _)⟩)
    · exact post.elim
  · unfold zTB at post
    split at post
    · rename_i ds e1
      split at post
      · rename_i hc
        obtain ⟨a1, vs, rfl, h1, l1⟩ := zKF wd e1 dp
        exact .inr (.inr ⟨a1, _, vs, rfl, yB dq, h1, by omega, by omega, by rw [l1.length]; exact hc.2.2, fun p hp => Post.newl post wd hp (l1.rep _)⟩)
      · exact post.elim
    · exact post.elim
  · exact post.elim
noncomputable def zR : Nat := 40
noncomputable def eqF (p q : Er) (S : Sto) : R Er := match zBG S zR p q with
  | some k => .ok (.val (.bl k)) S
  | none => .no
noncomputable def neF (p q : Er) (S : Sto) : R Er := match zBG S zR p q with
  | some k => .ok (.val (.bl !k)) S
  | none => .no
theorem zPE (hu : X.A.units + 64 < cLine) : OpR X (compareOp .Eq) (fun x y H Q => ∃ α S p q k, Wd X.g α S H ∧ DenX X.K α H p x ∧ DenX X.K α H q y ∧ zBG S zR p q = some k ∧ Q (.bl k) H) := by
  intro pins s σ H x y v u Q I rx ry h
  obtain ⟨α, S, p, q, k, wd, dp, dq, e, hq⟩ := h
  exact zUX I wd zR (by unfold zR; omega) dp dq rx ry e X.prog X.w _ _ ⟨.bl k, H, I, rfl, hq⟩
theorem zPF (hu : X.A.units + 64 < cLine) : OpR X (compareOp .NotEq) (fun x y H Q => ∃ α S p q k, Wd X.g α S H ∧ DenX X.K α H p x ∧ DenX X.K α H q y ∧ zBG S zR p q = some k ∧ Q (.bl (!k)) H) := by
  intro pins s σ H x y v u Q I rx ry h
  obtain ⟨α, S, p, q, k, wd, dp, dq, e, hq⟩ := h
  exact zUY I wd zR (by unfold zR; omega) dp dq rx ry e X.prog X.w _ _ ⟨.bl (!k), H, I, rfl, hq⟩
theorem zLS : Op2 X W (fun x y H Q => ∃ α S p q k, Wd X.g α S H ∧ DenX X.K α H p x ∧ DenX X.K α H q y ∧ zBG S zR p q = some k ∧ Q (.bl k) H) eqF := by
  intro p q x y α S H Q wd dp dq post
  unfold eqF at post
  split at post
  · rename_i k e
    exact ⟨α, S, p, q, k, wd, dp, dq, e, Post.val post wd (yT _)⟩
  · exact post.elim
theorem zLT : Op2 X W (fun x y H Q => ∃ α S p q k, Wd X.g α S H ∧ DenX X.K α H p x ∧ DenX X.K α H q y ∧ zBG S zR p q = some k ∧ Q (.bl (!k)) H) neF := by
  intro p q x y α S H Q wd dp dq post
  unfold neF at post
  split at post
  · rename_i k e
    exact ⟨α, S, p, q, k, wd, dp, dq, e, Post.val post wd (yT _)⟩
  · exact post.elim
theorem zDR (hu : X.A.units + 64 < cLine) (ha : PEm X W a f) (hb : PEm X W b g) : PEm X W (.Compare a [.Eq] [b] pos) (fun ρ S => (f ρ S).bind fun p S1 => (g ρ S1).bind fun q S2 => eqF p q S2) := zJX (zPE hu) zLS ha hb
theorem dB (hu : X.A.units + 64 < cLine) (ha : PEm X W a f) (hb : PEm X W b g) : PTm X W (.Compare a [.Eq] [b] pos) (fun ρ S => ((f ρ S).bind fun p S1 => (g ρ S1).bind fun q S2 => eqF p q S2).bind asB) := zGN (zPE hu) zLS ha hb
theorem pm_ne (hu : X.A.units + 64 < cLine) (ha : PEm X W a f) (hb : PEm X W b g) : PEm X W (.Compare a [.NotEq] [b] pos) (fun ρ S => (f ρ S).bind fun p S1 => (g ρ S1).bind fun q S2 => neF p q S2) := zJX (zPF hu) zLT ha hb
theorem zPG (hu : X.A.units + 64 < cLine) (ha : PEm X W a f) (hb : PEm X W b g) : PTm X W (.Compare a [.NotEq] [b] pos) (fun ρ S => ((f ρ S).bind fun p S1 => (g ρ S1).bind fun q S2 => neF p q S2).bind asB) := zGN (zPF hu) zLT ha hb
abbrev gtF := ibF fun i j => decide (j < i)
theorem tm_gt (ha : PEm X W a f) (hb : PEm X W b g) : PTm X W (.Compare a [.Gt] [b] pos) (fun ρ S => ((f ρ S).bind fun p S1 => (g ρ S1).bind fun q S2 => gtF p q S2).bind asB) := zGN op_gt zUZ ha hb
noncomputable def leF : Er → Er → Sto → R Er
  | .val (.int i), .val (.int j), S => .ok (.val (.bl (decide (i ≤ j)))) S
  | .val (.str x), .val (.str y), S => .ok (.val (.bl (!decide (y < x)))) S
  | _, _, _ => .no
theorem zGQ : Op2 X W (fun x y H Q => rI0 (fun i j => .bl (decide (i ≤ j))) x y H Q ∨ (∃ i j, x = .str i ∧ y = .str j ∧ Q (.bl (!decide (j.cps.toList < i.cps.toList))) H)) leF := by
  intro p q x y α S H Q wd dp dq post
  unfold leF at post
  split at post
  · exact .inl ⟨_, _, yB dp, yB dq, Post.val post wd (yT _)⟩
  · refine .inr ⟨_, _, yJ dp, yJ dq, ?_⟩
    rw [kT, kT]
    exact Post.val post wd (yT _)
  · exact post.elim
theorem zRR (ha : PEm X W a f) (hb : PEm X W b g) (hc : PEm X W c h) (hm : lastMarks [.LtE, .LtE] [b, c] = false := by with_unfolding_all rfl) : PEm X W (.Compare a [.LtE, .LtE] [b, c] pos) (fun ρ S => (f ρ S).bind fun p S1 => (g ρ S1).bind fun q S2 => chF leF leF p q S2 fun S3 => h ρ S3) := zOR (zKZ.or dX) (zKZ.or dX) zGQ zGQ ha hb hc hm
theorem zLU (ha : PEm X W a f) (hb : PEm X W b g) (hc : PEm X W c h) (hm : lastMarks [.LtE, .LtE] [b, c] = false := by with_unfolding_all rfl) : PTm X W (.Compare a [.LtE, .LtE] [b, c] pos) (fun ρ S => ((f ρ S).bind fun p S1 => (g ρ S1).bind fun q S2 => chF leF leF p q S2 fun S3 => h ρ S3).bind asB) := zOS (zKZ.or dX) (zKZ.or dX) zGQ zGQ ha hb hc hm
noncomputable def getL (ds : List MV) : Er → Sto → R Er
  | .val (.int i), S => match atI ds i with | some d => .ok (.val d) S | none => .no
  | _, _ => .no
noncomputable def ixF : Er → Er → Sto → R Er
  | .val (.str x), .val (.int i), S => if x.length ≤ sizeLine then match atI x i with | some c => .ok (.val (.str [c])) S | none => .no else .no
  | .val (.tup ds), q, S => getL ds q S
  | p, q, S => match gA S p with | some ds => getL ds q S | none => .no
theorem zRS {K : PySem.W.Frag} {α : List Addr} {H : Hp} {ds : List MV} {vs : List V} {i : Int} {d : MV} (l : DenL K α H ds vs) (e : atI ds i = some d) : ∃ v, atI vs i = some v ∧ Den K α H d v := by
  unfold atI at e ⊢
  rw [l.length]
  cases z : ixN ds.length i with
  | none => rw [z] at e; cases e
  | some j =>
    rw [z] at e
    obtain ⟨v, h1, h2⟩ := l.at (show ds[j]? = some d from e)
    exact ⟨v, h1, h2⟩
theorem dC (ha : PEm X W a f) (hb : PEm X W b g) (hs : zGE b := by exact fun _ _ => rfl) : PEm X W (.Subscript a b pos) (fun ρ S => (f ρ S).bind fun p S1 => (g ρ S1).bind fun q S2 => ixF p q S2) := by
  refine pm_ix zUF ?_ ha hb hs
  intro p q x y α S H Q wd dp dq post
  have key : ∀ {ds : List MV} {vs : List V} {i : Int} {d : MV}, DenL X.K α H ds vs → atI ds i = some d → Post X.g W α H (.ok (Er.val d) S) Q → ∃ v, atI vs i = some v ∧ Q v H := fun l e post => by
    obtain ⟨v, h1, h2⟩ := zRS l e
    exact ⟨v, h1, Post.val post wd h2⟩
  unfold ixF at post
  split at post
  · split at post
    · rename_i hz
      split at post
      · rename_i ch e
        refine .inr (.inr ⟨_, _, ch, yJ dp, yB dq, by rw [yH]; exact hz, by rw [kT]; exact e, ?_⟩)
        exact Post.val post wd (wI [ch])
      · exact post.elim
    · exact post.elim
  · unfold getL at post
    split at post
    · split at post
      · rename_i d e
        obtain ⟨a1, vs, rfl, s1, l1⟩ := bK dp
        obtain ⟨v, h1, h2⟩ := key l1 e post
        exact .inr (.inl ⟨a1, vs, _, v, rfl, yB dq, s1, h1, h2⟩)
      · exact post.elim
    · exact post.elim
  · split at post
    · rename_i ds el
      unfold getL at post
      split at post
      · split at post
        · rename_i d e
          obtain ⟨a1, vs, rfl, s1, l1⟩ := zDP rfl wd el dp
          obtain ⟨v, h1, h2⟩ := key l1 e post
          exact .inl ⟨a1, vs, _, v, rfl, yB dq, s1, h1, h2⟩
        · exact post.elim
      · exact post.elim
    · exact post.elim
end
end M
end L2
namespace L2
namespace M
open PySem PySem.Spec PyProof.Rows
theorem zER {prog : Program} {w : World} {A : Around} {E : Value → Shared → Prop} {s : Shared} {t sl : Addr} {its : Array Value} {vl vu : Value} {lo hi : Option Int} {Q : Value → Shared → Prop} (ht : IsTup s.heap t its) (hs : s.heap.IsSliceOf sl vl vu .none) (pl : IsPart vl lo) (pu : IsPart vu hi)
    (h0 : HT.sIx its.size 0 lo = 0) (h1 : HT.sIx its.size its.size hi = its.size) (h : Q (.ref t) s) : wpAny (model prog w) A (getItem (.ref t) (.ref sl)) Q E s := by
  have hTs : s.TypeIs (.ref sl) "slice" := by obtain ⟨os, hos, hcs, _⟩ := id hs; exact ⟨os, hos, hcs⟩
  have hTt := ht.typeIs
  unfold getItem
  try with_reducible refine wpAny_holding ?_
  first | refine wpAny_bind (wpAny_pure ?_) | skip
  refine wpAny_bind (wpAny_sequenceKey hTt (by decide) ?_)
  refine wpAny_bind (wpAny_callSpecial?_slot (name := Str.ofString "__getitem__") hTt PyProof.Rows.slot_tuple_getitem (wpAny_call_entry PyProof.Rows.slot_tuple_getitem hTt entry_tuple_getitem ?_ (args_tuple_getitem _ _)))
  show wpAny _ _ (Builtin.Tuple.tupleItemsOf (.ref t) >>= _) _ _ s
  refine wpAny_bind (tupleItemsOf_ ht (wpAny_bind (wpAny_typeOf hTs ?_)))
  rw [if_pos (by decide)]
  refine wpAny_bind (HT.sliceApplied_gen hs pl pu ?_)
  show wpAny _ _ (if (((HT.sIx its.size 0 lo : Nat) : Int) == 0 && (1 : Int) == 1 && (HT.sIx its.size its.size hi - HT.sIx its.size 0 lo) == its.size) = true then _ else _) _ _ s
  rw [if_pos (by rw [h0, h1]; simp)]
  unfold Builtin.Tuple.tupleIsExact
  refine wpAny_bind (wpAny_bind (wpAny_typeOf hTt (wpAny_pure ?_)))
  rw [if_pos (by decide)]
  refine wpAny_bind (wpAny_rule ?_)
  first
    | exact wpAny_pure ⟨_, rfl, wpAny_pure h⟩
    | exact wpAny_bind (wpAny_pure (wpAny_pure ⟨_, rfl, wpAny_pure h⟩))
    | exact wpAny_bind (wpAny_pure ⟨_, rfl, wpAny_pure h⟩)
section
variable {X : Cx} {W : XW} {a b c e : Expr} {es : List Expr} {f g h : Rho → Sto → R Er} {af : Rho → Sto → R (List Er)} {pos : Pos}
theorem zRT : SlR X (fun x lo hi H Q => ∃ a xs, x = .ref a ∧ SqT X.K H a xs ∧ HT.sIx xs.length 0 lo = 0 ∧ HT.sIx xs.length xs.length hi = xs.length ∧ Q (.ref a) H) := by
  intro pins s σ H x v vl vu lo hi sl Q I rx hs pl pu h
  obtain ⟨a, xs, rfl, hx, h0, h1, q⟩ := h
  cases rx
  obtain ⟨its, r, ht, hz⟩ := I.tuple hx
  have hlen : its.toArray.size = xs.length := by rw [List.size_toArray]; exact r.length.symm
  exact ⟨"tuple", _, PyProof.Rows.slot_tuple_getitem.lookup, ht.typeIs, zER ht hs pl pu (by rw [hlen]; exact h0) (by rw [hlen]; exact h1) ⟨.ref a, H, I, rfl, q⟩⟩
noncomputable def zCC : Er → Option Int → Option Int → Sto → R Er
  | .val (.str x), lo, hi, S => if x.length ≤ sizeLine then .ok (.val (.str (xG x lo hi))) S else .no
  | .val (.tup ds), lo, hi, S => .ok (.val (.tup (xG ds lo hi))) S
  | p, lo, hi, S => match gA S p with | some ds => .ok (.new (xG ds lo hi)) S | none => .no
theorem zMZ {α : Type} {ds : List α} {lo hi : Option Int} (h0 : HT.sIx ds.length 0 lo = 0) (h1 : HT.sIx ds.length ds.length hi = ds.length) : xG ds lo hi = ds := by
  unfold xG
  rw [h0, h1]
  simp
theorem zAA {lo hi : Option Expr} {lf hf : Rho → Sto → R (Option Int)} {p2 : Pos} (ha : PEm X W a f) (hl : POm X W lo lf) (hh : POm X W hi hf) : PEm X W (.Subscript a (.Slice lo hi none p2) pos) (fun ρ S => (f ρ S).bind fun p S1 => (lf ρ S1).bind fun l S2 => (hf ρ S2).bind fun u S3 => zCC p l u S3) := by
  refine zOY (zUK.or (zRC.or (zUD.or zRT))) ?_ ha hl hh
  intro p lo hi x α S H Q wd dp post
  unfold zCC at post
  split at post
  · split at post
    · rename_i hz
      exact .inl ⟨_, yJ dp, hz, Post.val post wd (wI _)⟩
    · exact post.elim
  · rename_i _ _ _ ds
    obtain ⟨a1, vs, rfl, s1, l1⟩ := bK dp
    by_cases hw : HT.sIx vs.length 0 lo = 0 ∧ HT.sIx vs.length vs.length hi = vs.length
    · have e : xG ds lo hi = ds := zMZ (by rw [← l1.length]; exact hw.1) (by rw [← l1.length]; exact hw.2)
      rw [e] at post
      exact .inr (.inr (.inr ⟨a1, vs, rfl, s1, hw.1, hw.2, Post.val post wd (dZ s1 l1)⟩))
    · exact .inr (.inr (.inl ⟨a1, vs, rfl, s1, hw, fun p hp => Post.newt post wd hp (l1.cut lo hi)⟩))
  · split at post
    · rename_i ds el
      obtain ⟨a1, vs, rfl, s1, l1⟩ := zDP rfl wd el dp
      exact .inr (.inl ⟨a1, vs, rfl, s1, fun p hp => Post.newl post wd hp (l1.cut lo hi)⟩)
    · exact post.elim
noncomputable def xS {α : Type} (ds : List α) (lo hi st : Option Int) : List α := (sliceRange (sliceBounds lo hi st ds.length).1 (sliceBounds lo hi st ds.length).2.1 (sliceBounds lo hi st ds.length).2.2).filterMap (ds[·]?)
theorem DenL.pick {K : PySem.W.Frag} {α : List Addr} {H : Hp} {ds : List MV} {vs : List V} (l : DenL K α H ds vs) : ∀ idx : List Nat, DenL K α H (idx.filterMap (ds[·]?)) (idx.filterMap (vs[·]?))
  | [] => yN
  | i :: idx => by
    cases z : ds[i]? with
    | none =>
      have z2 : vs[i]? = none := by rw [List.getElem?_eq_none_iff, l.length]; exact List.getElem?_eq_none_iff.mp z
      rw [List.filterMap_cons_none z, List.filterMap_cons_none z2]
      exact DenL.pick l idx
    | some d =>
      obtain ⟨v, h1, h2⟩ := l.at z
      rw [List.filterMap_cons_some z, List.filterMap_cons_some h1]
      exact yE h2 (DenL.pick l idx)
theorem Vals.pick {xs : List V} {us : List Value} (r : Vals xs us) : ∀ idx : List Nat, Vals (idx.filterMap (xs[·]?)) (idx.filterMap (us[·]?))
  | [] => .nil
  | i :: idx => by
    cases z : xs[i]? with
    | none => rw [List.filterMap_cons_none z, List.filterMap_cons_none (r.none_of z)]; exact Vals.pick r idx
    | some d =>
      obtain ⟨v, h1, h2⟩ := r.get z
      rw [List.filterMap_cons_some z, List.filterMap_cons_some h1]
      exact .cons h2 (Vals.pick r idx)
noncomputable def zFP (st : Int) (p : Er) (lo hi : Option Int) (S : Sto) : R Er := match gA S p with
  | some ds => if (xS ds lo hi (some st)).length ≤ sizeLine then .ok (.new (xS ds lo hi (some st))) S else .no
  | none => .no
theorem zLV {st : Int} {lo hi : Option Expr} {lf hf : Rho → Sto → R (Option Int)} {p2 : Pos} {ste : Expr} (h0 : st ≠ 0) (ha : PEm X W a f) (hl : POm X W lo lf) (hh : POm X W hi hf)
    (hst : ∀ pins s σ H (Q : VK), Inv X pins σ H s → Q (.int st) H → wpAny (model X.prog X.w) X.A (eval ste X.env) (EP X pins σ Q) X.xe s) :
    PEm X W (.Subscript a (.Slice lo hi (some ste) p2) pos) (fun ρ S => (f ρ S).bind fun p S1 => (lf ρ S1).bind fun l S2 => (hf ρ S2).bind fun u S3 => zFP st p l u S3) := by
  obtain ⟨ta, ha, fa⟩ := ha
  obtain ⟨tl, hl, fl⟩ := hl
  obtain ⟨th, hh, fh⟩ := hh
  refine ⟨fun σ H Q => ta σ H fun x H1 => tl σ H1 fun l H2 => th σ H2 fun u H3 => ∃ a xs, x = .ref a ∧ SqL X.K H3 a xs ∧ (xS xs l u (some st)).length ≤ sizeLine ∧ ∀ p, H3 p = none → Q (.ref p) (upd H3 p (.lst (xS xs l u (some st)))), ?_, fun α ρ S σ H Q wd sl q => fa α ρ S σ H _ wd sl (q.bind fun u p S1 α1 H1 e1 x1 w1 d1 q1 => fl α1 ρ S1 σ H1 _ w1 (sl.ext x1) ((q1.shift x1).bind fun u2 l S2 α2 H2 e2 x2 w2 d2 q2 =>
    fh α2 ρ S2 σ H2 _ w2 ((sl.ext x1).ext x2) ((q2.shift x2).bind fun u3 m S3 α3 H3 e3 x3 w3 d3 q3 => ?_)))⟩
  · intro pins s σ H Q I h
    refine Subscript_ (thn (ha pins s σ H _ I h) fun v s1 ⟨x, H1, I1, r1, q1⟩ => ?_)
    refine wpAny_Slice (thn (hl pins s1 σ H1 _ I1 q1) fun vl s2 ⟨l, H2, I2, pl, q2⟩ => thn (hh pins s2 σ H2 _ I2 q2) fun vu s3 ⟨u, H3, I3, pu, q3⟩ => ?_)
    rw [evalPart_some]
    refine thn (hst pins s3 σ H3 (fun w' H' => w' = .int st ∧ H' = H3) I3 ⟨rfl, rfl⟩) fun vs s4 ⟨y, H4, I4, r4, ey, eH⟩ => ?_
    subst ey eH
    obtain ⟨t4, rfl⟩ := r4
    obtain ⟨a, xs, rfl, sq, hz2, q⟩ := q3
    cases r1
    have I5 : Inv X pins σ H4 { s4 with heap := s4.heap.push { cls := .type "slice", data := .fields #[vl, vu, .int st t4] } } := I4.kept (t' := s4.toks) fun b ob q => Heap.get?_push_of_some _ q
    obtain ⟨its, r, ht, hz⟩ := I5.list sq
    have hlen := r.length
    refine tail_any (ops := [.ref a, .ref s4.heap.objs.size]) (T := "list") ht.isList.typeIs slot_list_getitem.lookup ?_ (by with_unfolding_all rfl)
    refine wpAny_getItem_list_slice ht.isList (Heap.IsSliceOf.new ..) pl pu (.int st t4) (by intro z; exact h0 (Option.some.inj z)) ?_ (by rw [List.size_toArray]; omega)
    have ep : slicePick its.toArray l u (some st) = (xS its l u (some st)).toArray := by
      unfold slicePick xS
      simp
    rw [ep]
    have el : xs.length = its.length := hlen
    refine ⟨.ref _, _, I5.laid (t' := s4.toks) (o := .lst (xS xs l u (some st))) (fun b ob q => Heap.get?_push_of_some _ q) (Nat.le_refl _) ?_, rfl, q _ (I5.hok.fresh (Nat.le_refl _))⟩
    refine ⟨hz2, _, 0, ?_, Heap.get?_push_size _ rfl⟩
    unfold xS
    rw [el]
    exact Vals.pick r _
  · cases d2
    cases d3
    replace q3 := q3.shift x3
    unfold zFP at q3
    split at q3
    · rename_i ds el
      split at q3
      · rename_i hz
        obtain ⟨a1, vs, e5, s1, l1⟩ := zDP rfl w3 el ((d1.1.ext x2).ext x3)
        have lp : DenL X.K α3 H3 (xS ds u2 u3 (some st)) (xS vs u2 u3 (some st)) := by
          unfold xS
          rw [← l1.length]
          exact l1.pick _
        exact ⟨a1, vs, e5, s1, by rw [lp.length]; exact hz, fun p hp => Post.newl q3 w3 hp lp⟩
      · exact q3.elim
    · exact q3.elim
theorem zII {i : Int} {j : Nat} : ∀ pins s σ H (Q : VK), Inv X pins σ H s → Q (.int i) H → wpAny (model X.prog X.w) X.A (eval (.Constant (.int i) j pos) X.env) (EP X pins σ Q) X.xe s := fun pins s σ H Q I h => zJK pins s σ H Q I h
end
end M
end L2
namespace L2
namespace M
open PySem PySem.Spec PyProof.Rows
section
variable {X : Cx} {W : XW} {a b c e : Expr} {es : List Expr} {f g h : Rho → Sto → R Er} {af : Rho → Sto → R (List Er)} {pos : Pos}
noncomputable def zNA (S : Sto) (n : Nat) (d : MV) : List MV → Option (List Bool)
  | [] => some []
  | y :: ys => (eqv S n y d).bind fun k => (zNA S n d ys).map (k :: ·)
section
variable {α : List Addr} {S : Sto} {H : Hp} {pins : List (Addr × Obj)} {σ : St} {s : Shared}
noncomputable def zIJ (X : Cx) (α : List Addr) (S : Sto) (H : Hp) (n : Nat) (d : MV) (u : Value) : Bool := open Classical in decide (∃ y x, Den X.K α H y x ∧ RelV x u ∧ eqv S n y d = some true)
open Classical in
theorem zRU (I : Inv X pins σ H s) (wd : Wd X.g α S H) {n : Nat} {d y : MV} {x : V} {u : Value} {k : Bool} (dy : Den X.K α H y x) (r : RelV x u) (e : eqv S n y d = some k) : zIJ X α S H n d u = k := by
  unfold zIJ
  cases k with
  | true => exact decide_eq_true ⟨y, x, dy, r, e⟩
  | false =>
    refine decide_eq_false fun ⟨y', x', dy', r', e'⟩ => ?_
    have ex := r.inj r'
    subst ex
    rw [dy.inj I wd dy'] at e
    rw [e] at e'
    cases e'
theorem zAP (I : Inv X pins σ H s) (wd : Wd X.g α S H) {n : Nat} {A : Around} {d : MV} {x : V} {v : Value} (hu : A.units + n < cLine) (dd : Den X.K α H d x) (rx : RelV x v) : ∀ {ys : List MV} {vs : List V} {us : List Value} {bs : List Bool}, DenL X.K α H ys vs → Vals vs us → zNA S n d ys = some bs →
    us.map (zIJ X α S H n d) = bs ∧ ∀ u ∈ us, SeqAt.EqAt A s u v (zIJ X α S H n d u)
  | [], _, _, bs, l, r, e => by
    cases l.isnil; cases r; cases e
    exact ⟨rfl, fun u hu => by cases hu⟩
  | y :: ys, _, _, bs, l, r, e => by
    obtain ⟨v', r', rfl, dy, l'⟩ := l.uncons
    cases r with
    | cons r1 r2 =>
      unfold zNA at e
      cases z : eqv S n y d with
      | none => rw [z] at e; cases e
      | some k =>
        rw [z] at e
        cases z2 : zNA S n d ys with
        | none => simp [z2] at e
        | some cs =>
          simp [z2] at e
          subst e
          obtain ⟨h1, h2⟩ := zAP I wd hu dd rx l' r2 z2
          have h3 := zRU I wd dy r1 z
          refine ⟨by rw [List.map_cons, h1, h3], fun u hu' => ?_⟩
          rcases List.mem_cons.mp hu' with rfl | hu'
          · rw [h3]; exact zKD I wd n A y d _ _ _ _ k hu dy dd r1 rx z
          · exact h2 u hu'
end
theorem any_map {us : List Value} {f : Value → Bool} {bs : List Bool} (h : us.map f = bs) : us.toArray.any f = bs.any id := by
  subst h
  simp [List.any_map]
noncomputable def itemsOf (S : Sto) : Er → Option (List MV)
  | .val (.tup ds) => some ds
  | r => gA S r
theorem zDS {α : List Addr} {S : Sto} {H : Hp} (wd : Wd X.g α S H) {r : Er} {ds : List MV} {x : V} (e : itemsOf S r = some ds) (d : DenX X.K α H r x) : ∃ a vs, x = .ref a ∧ (SqL X.K H a vs ∨ SqT X.K H a vs) ∧ DenL X.K α H ds vs := by
  unfold itemsOf at e
  split at e
  · cases e
    obtain ⟨a, vs, rfl, s, l⟩ := bK d
    exact ⟨a, vs, rfl, .inr s, l⟩
  · obtain ⟨a, vs, rfl, s, l⟩ := zDP rfl wd e d
    exact ⟨a, vs, rfl, .inl s, l⟩
noncomputable def zPH (neg : Bool) (p q : Er) (S : Sto) : R Er := match p with
  | .val d => match itemsOf S q with
    | some ys => match zNA S zR d ys with
      | some bs => .ok (.val (.bl (if neg = true then !bs.any id else bs.any id))) S
      | none => .no
    | none => .no
  | .new _ => .no
noncomputable def inF (neg : Bool) : Er → Er → Sto → R Er
  | .val (.str [c]), .val (.str y), S => .ok (.val (.bl (if neg = true then !decide (c ∈ y) else decide (c ∈ y)))) S
  | p, q, S => zPH neg p q S
abbrev zPI (X : Cx) (neg : Bool) : R2 := fun x y H Q => ∃ α S d q ys bs, Wd X.g α S H ∧ Den X.K α H d x ∧ DenX X.K α H q y ∧ itemsOf S q = some ys ∧ zNA S zR d ys = some bs ∧ Q (.bl (if neg = true then !bs.any id else bs.any id)) H
theorem zVA (hu : X.A.units + 64 < cLine) : OpR X (compareOp .In) (zPI X false) := by
  intro pins s σ H x y v u Q I rx ry h
  obtain ⟨α, S, d, q, ys, bs, wd, dd, dq, ei, ea, hq⟩ := h
  obtain ⟨a, vs, rfl, sq, l⟩ := zDS wd ei dq
  cases ry
  rcases sq with sq | sq
  · obtain ⟨its, r, pl, _⟩ := I.list sq
    obtain ⟨h1, h2⟩ := zAP I wd (A := X.A.in1) (by show X.A.units + 1 + zR < cLine; unfold zR; omega) dd rx l r ea
    refine SeqAt.in_listAt (zIJ X α S H zR d) pl.isList (fun w hw => h2 w (by simpa using hw)) ⟨.bl _, H, I, rfl, ?_⟩
    rw [any_map h1]
    exact hq
  · obtain ⟨its, r, pl, _⟩ := I.tuple sq
    obtain ⟨h1, h2⟩ := zAP I wd (A := X.A.in1) (by show X.A.units + 1 + zR < cLine; unfold zR; omega) dd rx l r ea
    refine SeqAt.in_tupleAt (zIJ X α S H zR d) pl (fun w hw => h2 w (by simpa using hw)) ⟨.bl _, H, I, rfl, ?_⟩
    rw [any_map h1]
    exact hq
theorem zNB (hu : X.A.units + 64 < cLine) : OpR X (compareOp .NotIn) (zPI X true) := by
  intro pins s σ H x y v u Q I rx ry h
  obtain ⟨α, S, d, q, ys, bs, wd, dd, dq, ei, ea, hq⟩ := h
  obtain ⟨a, vs, rfl, sq, l⟩ := zDS wd ei dq
  cases ry
  rcases sq with sq | sq
  · obtain ⟨its, r, pl, _⟩ := I.list sq
    obtain ⟨h1, h2⟩ := zAP I wd (A := X.A.in1) (by show X.A.units + 1 + zR < cLine; unfold zR; omega) dd rx l r ea
    refine SeqAt.notIn_listAt (zIJ X α S H zR d) pl.isList (fun w hw => h2 w (by simpa using hw)) ⟨.bl _, H, I, rfl, ?_⟩
    rw [any_map h1]
    exact hq
  · obtain ⟨its, r, pl, _⟩ := I.tuple sq
    obtain ⟨h1, h2⟩ := zAP I wd (A := X.A.in1) (by show X.A.units + 1 + zR < cLine; unfold zR; omega) dd rx l r ea
    refine SeqAt.notIn_tupleAt (zIJ X α S H zR d) pl (fun w hw => h2 w (by simpa using hw)) ⟨.bl _, H, I, rfl, ?_⟩
    rw [any_map h1]
    exact hq
theorem zLW {neg : Bool} : Op2 X W (fun x y H Q => (∃ i j, x = .str i ∧ y = .str j ∧ Q (.bl (if neg = true then !(!(Builtin.Str.occurrences j i 0 j.length 1).isEmpty) else !(Builtin.Str.occurrences j i 0 j.length 1).isEmpty)) H) ∨ zPI X neg x y H Q) (inF neg) := by
  intro p q x y α S H Q wd dp dq post
  unfold inF at post
  split at post
  · refine .inl ⟨_, _, yJ dp, yJ dq, ?_⟩
    rw [← zRG, PySem.StrLaws.found_one, kT]
    exact Post.val post wd (yT _)
  · unfold zPH at post
    split at post
    · rename_i d _
      split at post
      · rename_i ys ei
        split at post
        · rename_i bs ea
          exact .inr ⟨α, S, _, q, ys, bs, wd, dp, dq, ei, ea, Post.val post wd (yT _)⟩
        · exact post.elim
      · exact post.elim
    · exact post.elim
theorem OpR.imp {f : Value → Value → Sem Value} {r r' : R2} (h : OpR X f r) (i : ∀ x y H Q, r' x y H Q → r x y H Q) : OpR X f r' := fun pins s σ H x y v u Q I rx ry q => h pins s σ H x y v u Q I rx ry (i x y H Q q)
theorem zVB (hu : X.A.units + 64 < cLine) : OpR X (compareOp .In) (fun x y H Q => (∃ i j, x = .str i ∧ y = .str j ∧ Q (.bl (if (false : Bool) = true then !(!(Builtin.Str.occurrences j i 0 j.length 1).isEmpty) else !(Builtin.Str.occurrences j i 0 j.length 1).isEmpty)) H) ∨ zPI X false x y H Q) :=
  OpR.imp (zMI.or (zVA hu)) fun x y H Q q => q.imp (fun q => q) fun q => q
theorem zNC (hu : X.A.units + 64 < cLine) : OpR X (compareOp .NotIn) (fun x y H Q => (∃ i j, x = .str i ∧ y = .str j ∧ Q (.bl (if (true : Bool) = true then !(!(Builtin.Str.occurrences j i 0 j.length 1).isEmpty) else !(Builtin.Str.occurrences j i 0 j.length 1).isEmpty)) H) ∨ zPI X true x y H Q) :=
  OpR.imp (zFZ.or (zNB hu)) fun x y H Q q => q.imp (fun q => q) fun q => q
theorem pm_in (hu : X.A.units + 64 < cLine) (ha : PEm X W a f) (hb : PEm X W b g) (hm : behindInMarks .In b = false := by with_unfolding_all rfl) : PEm X W (.Compare a [.In] [b] pos) (fun ρ S => (f ρ S).bind fun p S1 => (g ρ S1).bind fun q S2 => inF false p q S2) := zJX (zVB hu) zLW ha hb hm
theorem zIK (hu : X.A.units + 64 < cLine) (ha : PEm X W a f) (hb : PEm X W b g) (hm : behindInMarks .NotIn b = false := by with_unfolding_all rfl) : PTm X W (.Compare a [.NotIn] [b] pos) (fun ρ S => ((f ρ S).bind fun p S1 => (g ρ S1).bind fun q S2 => inF true p q S2).bind asB) := zGN (zNC hu) zLW ha hb hm
theorem zAQ {K : PySem.W.Frag} {α : List Addr} {H : Hp} {r : Er} {vs : List V} (d : ArgsX K α H [r] vs) : ∃ v, vs = [v] ∧ DenX K α H r v := by
  cases d with
  | cons a l => cases l; exact ⟨_, rfl, a⟩
theorem argx2 {K : PySem.W.Frag} {α : List Addr} {H : Hp} {r r' : Er} {vs : List V} (d : ArgsX K α H [r, r'] vs) : ∃ v u, vs = [v, u] ∧ DenX K α H r v ∧ DenX K α H r' u := by
  cases d with
  | cons a l => obtain ⟨u, rfl, l'⟩ := zAQ l; exact ⟨_, u, rfl, a, l'⟩
noncomputable def zGR : List Er → Sto → R Er
  | [.val (.str x)], S => if x.length ≤ sizeLine then .ok (.val (.int x.length)) S else .no
  | [r], S => match itemsOf S r with | some ds => .ok (.val (.int ds.length)) S | none => .no
  | _, _ => .no
theorem zBH : zDJ X W (fun xs H Q => (∃ z, xs = [.str z] ∧ z.length ≤ sizeLine ∧ Q (.int z.length) H) ∨ ∃ p ys, xs = [.ref p] ∧ (SqL X.K H p ys ∨ SqT X.K H p ys) ∧ Q (.int ys.length) H) zGR := by
  intro rs vs α S H Q wd d post
  unfold zGR at post
  split at post
  · split at post
    · rename_i hz
      obtain ⟨v, rfl, dv⟩ := zAQ d
      cases yJ dv
      refine .inl ⟨_, rfl, by rw [yH]; exact hz, ?_⟩
      rw [yH]
      exact Post.val post wd (yI _)
    · exact post.elim
  · split at post
    · rename_i ds e
      obtain ⟨v, rfl, dv⟩ := zAQ d
      obtain ⟨a, us, rfl, sq, l⟩ := zDS wd e dv
      refine .inr ⟨a, us, rfl, sq, ?_⟩
      rw [l.length]
      exact Post.val post wd (yI _)
    · exact post.elim
  · exact post.elim
theorem jB : CallR X (.builtin "len") (fun xs H Q => (∃ z, xs = [.str z] ∧ z.length ≤ sizeLine ∧ Q (.int z.length) H) ∨ ∃ p ys, xs = [.ref p] ∧ (SqL X.K H p ys ∨ SqT X.K H p ys) ∧ Q (.int ys.length) H) := zGH.or zGG
noncomputable def zAR : List MV → Option (List Bool)
  | [] => some []
  | .bl b :: r => (zAR r).map (b :: ·)
  | _ :: _ => none
theorem zFQ {K : PySem.W.Frag} {α : List Addr} {H : Hp} : ∀ {ds : List MV} {bs : List Bool} {vs : List V}, zAR ds = some bs → DenL K α H ds vs → vs = bs.map V.bl
  | [], _, _, e, l => by cases e; exact l.isnil
  | d :: r, bs, _, e, l => by
    cases d with
    | bl b =>
      unfold zAR at e
      cases z : zAR r with
      | none => rw [z] at e; cases e
      | some cs =>
        rw [z] at e
        cases e
        obtain ⟨v, us, rfl, dv, l'⟩ := l.uncons
        rw [bA dv, zFQ z l']
        rfl
    | _ => cases e
noncomputable def zPJ : List Er → Sto → R Er
  | [r], S => match (gA S r).bind zAR with | some bs => .ok (.val (.bl (bs.all id))) S | none => .no
  | _, _ => .no
theorem zPK (hc : X.calm = true) : zDJ X W (fun xs H Q => ∃ (a : Addr) (bs : List Bool), xs = [.ref a] ∧ SqL X.K H a (bs.map V.bl) ∧ X.calm = true ∧ Q (.bl (bs.all id)) H) zPJ := by
  intro rs vs α S H Q wd d post
  unfold zPJ at post
  split at post
  · split at post
    · rename_i bs e
      obtain ⟨v, rfl, dv⟩ := zAQ d
      cases z : gA S _ with
      | none => rw [z] at e; cases e
      | some ds =>
        rw [z] at e
        obtain ⟨a1, us, rfl, s, l⟩ := zDP rfl wd z dv
        refine ⟨a1, bs, rfl, ?_, hc, Post.val post wd (yT _)⟩
        rw [← zFQ e l]
        exact s
    · exact post.elim
  · exact post.elim
noncomputable def zGS (S : Sto) : Er → Option String
  | .val .non => some "NoneType"
  | .val (.bl _) => some "bool"
  | .val (.int _) => some "int"
  | .val (.str _) => some "str"
  | .val (.tup _) => some "tuple"
  | .val (.typ _) => none
  | r => (gA S r).map fun _ => "list"
noncomputable def zPL (t T : String) : Bool := t == T || (t == "bool" && T == "int")
noncomputable def known (T : String) : Bool := T == "int" || T == "bool" || T == "str" || T == "tuple" || T == "list"
noncomputable def nI : List Er → Sto → R Er
  | [r, .val (.typ T)], S => match zGS S r with
    | some t => if known T = true then .ok (.val (.bl (zPL t T))) S else .no
    | none => .no
  | _, _ => .no
theorem jC (K : PySem.W.Frag) {t T : String} (ht : t = "NoneType" ∨ t = "bool" ∨ t = "int" ∨ t = "str" ∨ t = "tuple" ∨ t = "list") (hT : known T = true) : PySem.W.kitOne K (.type t) (.type T) = some (zPL t T) := by
  have hT' : T = "int" ∨ T = "bool" ∨ T = "str" ∨ T = "tuple" ∨ T = "list" := by
    unfold known at hT
    simp only [Bool.or_eq_true, beq_iff_eq] at hT
    rcases hT with (((h | h) | h) | h) | h
    · exact .inl h
    · exact .inr (.inl h)
    · exact .inr (.inr (.inl h))
    · exact .inr (.inr (.inr (.inl h)))
    · exact .inr (.inr (.inr (.inr h)))
  rcases ht with rfl | rfl | rfl | rfl | rfl | rfl <;> rcases hT' with rfl | rfl | rfl | rfl | rfl <;> kernel_rfl
theorem dE : CallR X (.builtin "isinstance") (fun xs H Q => ∃ α S r x t T, xs = [x, .ty T] ∧ Wd X.g α S H ∧ DenX X.K α H r x ∧ zGS S r = some t ∧ known T = true ∧ Q (.bl (zPL t T)) H) := by
  intro pins s σ H xs us Q I rr h
  obtain ⟨α, S, r, x, t, T, rfl, wd, d, et, hk, q⟩ := h
  obtain ⟨u, w', rfl, rx, rT⟩ := vals2 rr
  cases rT
  have fin : ∀ tk, EP X pins σ Q (.bool (zPL t T)) { s with toks := tk } := fun tk => ⟨.bl _, H, I.tok _, rfl, q⟩
  unfold zGS at et
  split at et
  · cases et
    cases zJW d
    cases rx
    exact PySem.W.kia_one PySem.W.kitx_none I.kIn True.intro (jC X.K (.inl rfl) hk) (fun z => nomatch z) fin
  · cases et
    cases cZ d
    cases rx
    exact PySem.W.kia_one PySem.W.kitx_bool I.kIn True.intro (jC X.K (.inr (.inl rfl)) hk) (fun z => nomatch z) fin
  · cases et
    cases yB d
    obtain ⟨t, rfl⟩ := rx
    exact PySem.W.kia_one PySem.W.kitx_int I.kIn True.intro (jC X.K (.inr (.inr (.inl rfl))) hk) (fun z => nomatch z) fin
  · cases et
    cases yJ d
    obtain ⟨t, rfl⟩ := rx
    exact PySem.W.kia_one PySem.W.kitx_str I.kIn True.intro (jC X.K (.inr (.inr (.inr (.inl rfl)))) hk) (fun z => nomatch z) fin
  · cases et
    obtain ⟨a, vs, rfl, sq, l⟩ := bK d
    cases rx
    obtain ⟨its, r1, p1, _⟩ := I.tuple sq
    obtain ⟨o, h1, h2, _⟩ := p1
    exact PySem.W.kia_one PySem.W.kitx_tuple I.kIn ⟨o, h1, h2⟩ (jC X.K (.inr (.inr (.inr (.inr (.inl rfl))))) hk) (fun z => nomatch z) fin
  · cases et
  · cases z : gA S r with
    | none => rw [z] at et; cases et
    | some ds =>
      rw [z] at et
      cases et
      obtain ⟨a, vs, rfl, sq, l⟩ := zDP rfl wd z d
      cases rx
      obtain ⟨its, r1, p1, _⟩ := I.list sq
      obtain ⟨o, h1, h2, _⟩ := p1.isList
      exact PySem.W.kia_one PySem.W.kitx_list I.kIn ⟨o, h1, h2⟩ (jC X.K (.inr (.inr (.inr (.inr (.inr rfl))))) hk) (fun z => nomatch z) fin
theorem zDT : zDJ X W (fun xs H Q => ∃ α S r x t T, xs = [x, .ty T] ∧ Wd X.g α S H ∧ DenX X.K α H r x ∧ zGS S r = some t ∧ known T = true ∧ Q (.bl (zPL t T)) H) nI := by
  intro rs vs α S H Q wd d post
  unfold nI at post
  split at post
  · split at post
    · rename_i t et
      split at post
      · rename_i hk
        obtain ⟨v, u, rfl, d1, d2⟩ := argx2 d
        cases zUR d2
        exact ⟨α, S, _, v, t, _, rfl, wd, d1, et, hk, Post.val post wd (yT _)⟩
      · exact post.elim
    · exact post.elim
  · exact post.elim
theorem zBI : bootBuiltins "len" = some (.builtin "len") := by decide +kernel
theorem zPM : bootBuiltins "all" = some (.builtin "all") := by decide +kernel
theorem xU : bootBuiltins "isinstance" = some (.builtin "isinstance") := by decide +kernel
theorem zGT : bootBuiltins "int" = some (.type "int") := by decide +kernel
theorem zRV : bootBuiltins "bool" = some (.type "bool") := by decide +kernel
theorem zDU : bootBuiltins "str" = some (.type "str") := by decide +kernel
end
end M
end L2
namespace L2
namespace M
open PySem PySem.Spec PyProof.Rows
noncomputable def zGU (n : Nat) : List Nat := (Nat.toDigits 10 n).map Char.toNat
noncomputable def zIL (i : Int) : List Nat := if i < 0 then 45 :: zGU i.natAbs else zGU i.natAbs
theorem zPN (i : Int) : Str.ofString (toString i) = mkS (zIL i) := by
  have key : (Str.ofString (toString i)).cps.toList = zIL i := by
    unfold zIL
    cases i with
    | ofNat m =>
      rw [if_neg (by have : (0 : Int) ≤ Int.ofNat m := Int.natCast_nonneg m; omega)]
      exact PySem.W.KIN.signs_num m
    | negSucc m =>
      rw [if_pos (Int.negSucc_lt_zero m), signs_ofString]
      show (String.toList ("-" ++ Nat.repr (m + 1))).map Char.toNat = 45 :: zGU (m + 1)
      rw [String.toList_append, List.map_append, Nat.toList_repr]
      rfl
  have : ∀ s : Str, s = mkS s.cps.toList := fun s => by cases s; simp [mkS]
  rw [this (Str.ofString (toString i)), key]
section
variable {X : Cx} {W : XW} {a b c e o i : Expr} {es : List Expr} {f g h : Rho → Sto → R Er} {af : Rho → Sto → R (List Er)} {pos apos : Pos}
theorem zIM : CallR X (.type "str") (fun xs H Q => (∃ i, xs = [.int i] ∧ i.natAbs.log2 < 1920 ∧ Q (.str (mkS (zIL i))) H) ∨ ∃ x, xs = [.str x] ∧ Q (.str x) H) := by
  intro pins s σ H xs us Q I r h
  rcases h with ⟨i, rfl, hz, q⟩ | ⟨x, rfl, q⟩
  · refine zGA pins s σ H _ us Q I r ⟨i, rfl, hz, ?_⟩
    show Q (.str (Str.ofString (toString i))) H
    rw [zPN]; exact q
  · obtain ⟨u, rfl, t, rfl⟩ := vals1 r
    exact PySem.P.str_of_str ⟨.str x, H, I, ⟨_, rfl⟩, q⟩
noncomputable def strF : List Er → Sto → R Er
  | [.val (.int i)], S => if i.natAbs.log2 < 1920 then .ok (.val (.str (zIL i))) S else .no
  | [.val (.str x)], S => .ok (.val (.str x)) S
  | _, _ => .no
theorem zVC : zDJ X W (fun xs H Q => (∃ i, xs = [.int i] ∧ i.natAbs.log2 < 1920 ∧ Q (.str (mkS (zIL i))) H) ∨ ∃ x, xs = [.str x] ∧ Q (.str x) H) strF := by
  intro rs vs α S H Q wd d post
  unfold strF at post
  split at post
  · obtain ⟨v, rfl, dv⟩ := zAQ d
    cases yB dv
    split at post
    · rename_i hz
      exact .inl ⟨_, rfl, hz, Post.val post wd (wI _)⟩
    · exact post.elim
  · obtain ⟨v, rfl, dv⟩ := zAQ d
    cases yJ dv
    exact .inr ⟨_, rfl, Post.val post wd (wI _)⟩
  · exact post.elim
theorem gG : CallR X (.type "int") (fun xs H Q => ((∃ i, xs = [.int i] ∧ Q (.int i) H) ∨ ∃ k, xs = [.bl k] ∧ Q (.int (if k then 1 else 0)) H) ∨ ∃ x n, xs = [.str x] ∧ PySem.intText? x = some n ∧ x.length ≤ 640 ∧ Q (.int n) H) := by
  refine zMJ.or ?_
  intro pins s σ H xs us Q I r h
  obtain ⟨x, n, rfl, hn, hl, q⟩ := h
  obtain ⟨u, rfl, t, rfl⟩ := vals1 r
  exact PySem.W.KIN.call_text hn hl ⟨.int n, H, I.tok _, ⟨_, rfl⟩, q⟩
noncomputable def zES : List Er → Sto → R Er
  | [.val (.int i)], S => .ok (.val (.int i)) S
  | [.val (.bl k)], S => .ok (.val (.int (if k then 1 else 0))) S
  | [.val (.str x)], S => match PySem.intText? (mkS x) with
    | some n => if x.length ≤ 640 then .ok (.val (.int n)) S else .no
    | none => .no
  | _, _ => .no
theorem zGV : zDJ X W (fun xs H Q => ((∃ i, xs = [.int i] ∧ Q (.int i) H) ∨ ∃ k, xs = [.bl k] ∧ Q (.int (if k then 1 else 0)) H) ∨ ∃ x n, xs = [.str x] ∧ PySem.intText? x = some n ∧ x.length ≤ 640 ∧ Q (.int n) H) zES := by
  intro rs vs α S H Q wd d post
  unfold zES at post
  split at post
  · obtain ⟨v, rfl, dv⟩ := zAQ d
    cases yB dv
    exact .inl (.inl ⟨_, rfl, Post.val post wd (yI _)⟩)
  · obtain ⟨v, rfl, dv⟩ := zAQ d
    cases cZ dv
    exact .inl (.inr ⟨_, rfl, Post.val post wd (yI _)⟩)
  · obtain ⟨v, rfl, dv⟩ := zAQ d
    cases yJ dv
    split at post
    · rename_i n hn
      split at post
      · rename_i hz
        exact .inr ⟨_, n, rfl, hn, by rw [yH]; exact hz, Post.val post wd (yI _)⟩
      · exact post.elim
    · exact post.elim
  · exact post.elim
noncomputable def dF : Er → Sto → Bool
  | .val (.str _), _ => true
  | _, _ => false
theorem ty_str : TyM X "str" dF := by
  intro p x α S H wd d h
  unfold dF at h
  split at h
  · cases yJ d; rfl
  · cases h
theorem zRW (x y : List Nat) : Txt.startswith (mkS x) (mkS y) = (decide (y.length ≤ x.length) && decide (x.take y.length = y)) := by
  show (decide (0 + (mkS y).length ≤ (mkS x).length) && PySem.Builtin.Str.subAt (mkS x) (mkS y) 0) = _
  rw [yH, yH, Nat.zero_add]
  congr 1
  unfold PySem.Builtin.Str.subAt
  rw [yH, Bool.eq_iff_iff, beq_iff_eq, decide_eq_true_eq, Nat.zero_add]
  constructor
  · intro h
    have := congrArg Array.toList h
    simpa [mkS] using this
  · intro h
    apply Array.toList_inj.mp
    simpa [mkS] using h
noncomputable def swF : Er → List Er → Sto → R Er
  | .val (.str x), [.val (.str y)], S => .ok (.val (.bl (decide (y.length ≤ x.length) && decide (x.take y.length = y)))) S
  | _, _, _ => .no
theorem zND : MtR X "str.startswith" (fun x xs H Q => ∃ y z, x = .str (mkS y) ∧ xs = [.str (mkS z)] ∧ Q (.bl (decide (z.length ≤ y.length) && decide (y.take z.length = z))) H) := by
  intro pins s σ H x xs v us Q I rx rs h
  obtain ⟨y, z, rfl, rfl, q⟩ := h
  obtain ⟨t, rfl⟩ := rx
  obtain ⟨u, rfl, t', rfl⟩ := vals1 rs
  refine PySem.SC.startswith ⟨.bl _, H, I, rfl, ?_⟩
  rw [zRW]
  exact q
theorem zNE : MtdM X W (fun x xs H Q => ∃ y z, x = .str (mkS y) ∧ xs = [.str (mkS z)] ∧ Q (.bl (decide (z.length ≤ y.length) && decide (y.take z.length = z))) H) swF := by
  intro p rs x vs α S H0 H Q α0 wd x0 dp da post
  replace post := post.shift x0
  unfold swF at post
  split at post
  · obtain ⟨v, rfl, dv⟩ := zLN da
    exact ⟨_, _, yJ dp, by rw [yJ dv], Post.val post wd (yT _)⟩
  · exact post.elim
theorem zNF (ho : PEm X W a f) (ha : PAm X W (e :: es) af)
    (hbase : attributeBase a "startswith" X.env (eval a X.env) = eval a X.env := by rfl)
    (hfew : ((backTo pos (starEach (e :: es) X.env)).all (fun x => !x.1) && (backToKw pos (keywordEach [] X.env)).all (fun x => x.1.isSome)
      && decide ((e :: es).length + ([] : List Keyword).length + (if ([] : List Keyword).isEmpty then 0 else 1) < 30)) = true := by rfl)
    (hline : (apos.endLine == pos.line) = true := by rfl) (hs : starEach (e :: es) X.env = (false, eval e X.env) :: starEach es X.env := by rfl) (hplain : (backTo pos (starEach es X.env)).any (·.1) = false := by rfl) :
    PEm X W (.Call (.Attribute a "startswith" apos) (e :: es) [] pos) (fun ρ S => (f ρ S).bind fun p S1 => if dF p S1 = true then (af ρ S1).bind fun rs S2 => swF p rs S2 else .no) :=
  zLK PySem.F.plainAttrs_str PySem.F.slot_str_startswith PySem.F.type_str_startswith zND zNE ty_str ho ha hbase hfew hline hs hplain
noncomputable def strIdx (x y : List Nat) : Option Nat := (Builtin.Str.occurrences (mkS x) (mkS y) 0 (mkS x).length 1).head?
noncomputable def zIN : Er → List Er → Sto → R Er
  | .val (.str x), [.val (.str y)], S => match strIdx x y with | some i => .ok (.val (.int (i : Nat))) S | none => .no
  | _, _, _ => .no
theorem zRX : MtR X "str.index" (fun x xs H Q => ∃ y z i, x = .str (mkS y) ∧ xs = [.str (mkS z)] ∧ strIdx y z = some i ∧ Q (.int (i : Nat)) H) := by
  intro pins s σ H x xs v us Q I rx rs h
  obtain ⟨y, z, i, rfl, rfl, hi, q⟩ := h
  obtain ⟨t, rfl⟩ := rx
  obtain ⟨u, rfl, t', rfl⟩ := vals1 rs
  unfold strIdx at hi
  cases zz : Builtin.Str.occurrences (mkS y) (mkS z) 0 (mkS y).length 1 with
  | nil => rw [zz] at hi; cases hi
  | cons k r =>
    rw [zz] at hi
    cases hi
    exact PySem.SC.index zz ⟨.int _, H, I.tok _, ⟨_, rfl⟩, q⟩
theorem zRY : MtdM X W (fun x xs H Q => ∃ y z i, x = .str (mkS y) ∧ xs = [.str (mkS z)] ∧ strIdx y z = some i ∧ Q (.int (i : Nat)) H) zIN := by
  intro p rs x vs α S H0 H Q α0 wd x0 dp da post
  replace post := post.shift x0
  unfold zIN at post
  split at post
  · split at post
    · rename_i i hi
      obtain ⟨v, rfl, dv⟩ := zLN da
      exact ⟨_, _, i, yJ dp, by rw [yJ dv], hi, Post.val post wd (yI _)⟩
    · exact post.elim
  · exact post.elim
theorem zRZ (ho : PEm X W a f) (ha : PAm X W (e :: es) af)
    (hbase : attributeBase a "index" X.env (eval a X.env) = eval a X.env := by rfl)
    (hfew : ((backTo pos (starEach (e :: es) X.env)).all (fun x => !x.1) && (backToKw pos (keywordEach [] X.env)).all (fun x => x.1.isSome)
      && decide ((e :: es).length + ([] : List Keyword).length + (if ([] : List Keyword).isEmpty then 0 else 1) < 30)) = true := by rfl)
    (hline : (apos.endLine == pos.line) = true := by rfl) (hs : starEach (e :: es) X.env = (false, eval e X.env) :: starEach es X.env := by rfl) (hplain : (backTo pos (starEach es X.env)).any (·.1) = false := by rfl) :
    PEm X W (.Call (.Attribute a "index" apos) (e :: es) [] pos) (fun ρ S => (f ρ S).bind fun p S1 => if dF p S1 = true then (af ρ S1).bind fun rs S2 => zIN p rs S2 else .no) :=
  zLK PySem.F.plainAttrs_str PySem.F.slot_str_index PySem.F.type_str_index zRX zRY ty_str ho ha hbase hfew hline hs hplain
end
end M
end L2
namespace L2
namespace M
open PySem PySem.Spec PyProof.Rows
theorem _root_.L2.Inv.turnedL {X : Cx} {pins : List (Addr × Obj)} {σ : St} {H : Hp} {s : Shared} {h' : Heap} {t' : Nat} {fp : List Addr} (I : Inv X pins σ H s) (k : ∀ b o, b ∉ fp → s.heap.get? b = some o → h'.get? b = some o)
    (hf : ∀ b ∈ fp, nW X pins H b) : Inv X pins σ H { s with heap := h', toks := t' } := by
  have nit : ∀ b u, H b = some u → b ∉ fp := fun b u e z => by rw [(hf b z).1] at e; cases e
  refine I.step (g' := s.gens) (d' := s.drawn) (ch := fp) (fun b hb => ⟨(hf b hb).2.2.2.1, (hf b hb).2.1, (hf b hb).2.2.2.2.1, (hf b hb).2.2.2.2.2⟩) (fun b o _ _ hc e _ => k b o hc e) (fun b o _ _ hc e _ => ⟨o.slots, k b o hc e⟩) (fun _ _ _ _ n => n)
    (fun b o hc e => ⟨o, k b o hc e⟩) (fun _ _ e => e) (fun _ _ _ e => e) (fun b ps e => ⟨#[], by rw [e]; simp⟩) (fun m hm => ?_) (fun b u e => ?_) I.bare
  · obtain ⟨o, es, ep, ho, r⟩ := hm
    exact ⟨o, es, ep, k _ o (fun z => (hf _ z).2.1 rfl) ho, r⟩
  · refine (I.hok b u e).stay (fun c v hc q => k c v ?_ q) (fun _ q => q) fun _ _ q => q
    rcases hc with z | z
    · rw [z]; exact nit b u e
    · exact nit c _ z
noncomputable def IsSub (k : Bool) (h : Heap) (it l : Addr) (i : Nat) : Prop := if k = true then h.IsListIter it l i else h.IsTupleIter it l i
noncomputable def IsSeq (k : Bool) (h : Heap) (l : Addr) (its : Array Value) : Prop := if k = true then h.IsList l its else h.IsTuple l its
noncomputable def zDV (k : Bool) (l : Addr) : Obj := { cls := .type (if k = true then "list_iterator" else "tuple_iterator"), data := .fields #[.ref l, .int 0 0] }
theorem IsSub.mk' {k : Bool} {h : Heap} {it l : Addr} (e : h.get? it = some (zDV k l)) : IsSub k h it l 0 := by
  cases k with
  | true => exact ⟨_, e, rfl, rfl⟩
  | false => exact ⟨_, e, rfl, rfl⟩
theorem IsSub.there {k : Bool} {h : Heap} {it l : Addr} {i : Nat} (x : IsSub k h it l i) : ∃ o, h.get? it = some o ∧ ∀ v, o.data ≠ .cell v := by
  cases k with
  | true => obtain ⟨o, e, _, d⟩ := (x : h.IsListIter it l i); exact ⟨o, e, fun v z => by rw [d] at z; cases z⟩
  | false => obtain ⟨o, e, _, d⟩ := (x : h.IsTupleIter it l i); exact ⟨o, e, fun v z => by rw [d] at z; cases z⟩
theorem IsSub.move {k : Bool} {h h' : Heap} {it l : Addr} {i : Nat} (x : IsSub k h it l i) (f : ∀ o, h.get? it = some o → h'.get? it = some o) : IsSub k h' it l i := by
  cases k with
  | true => obtain ⟨o, e, r⟩ := (x : h.IsListIter it l i); exact ⟨o, f o e, r⟩
  | false => obtain ⟨o, e, r⟩ := (x : h.IsTupleIter it l i); exact ⟨o, f o e, r⟩
theorem IsSeq.move {k : Bool} {h h' : Heap} {l : Addr} {its : Array Value} (x : IsSeq k h l its) (f : ∀ o, h.get? l = some o → h'.get? l = some o) : IsSeq k h' l its := by
  cases k with
  | true => obtain ⟨o, e, r⟩ := (x : h.IsList l its); exact ⟨o, f o e, r⟩
  | false => obtain ⟨o, e, r⟩ := (x : h.IsTuple l its); exact ⟨o, f o e, r⟩
section
variable {prog : Program} {w : World} {A : Around} {E : Value → Shared → Prop} {s : Shared}
theorem zIO {k : Bool} {l : Addr} {its : Array Value} {Q : Value → Shared → Prop} (hl : IsSeq k s.heap l its) (h : Q (.ref s.heap.objs.size) { s with heap := s.heap.push (zDV k l) }) : wpAny (model prog w) A (pyIter (.ref l)) Q E s := by
  cases k with
  | true => exact wpAny_pyIter_list hl h
  | false => exact wpAny_pyIter_tuple hl h
theorem zDW {k : Bool} {it l : Addr} {i : Nat} {its : Array Value} {x : Value} {Q : Value → Shared → Prop} (hit : IsSub k s.heap it l i) (hl : IsSeq k s.heap l its) (hx : its[i]? = some x)
    (hQ : ∀ h', IsSub k h' it l (i + 1) → Heap.SameBut it s.heap h' → Q x { s with heap := h' }) : wpAny (model prog w) A (Builtin.SmallTypes.nextOf (.ref it)) Q E s := by
  cases k with
  | true => exact wpAny_nextOf_list_item hit hl hx hQ
  | false =>
    have hit' : s.heap.IsTupleIter it l i := hit
    obtain ⟨o, ho, hc, hd⟩ := id hit'
    obtain ⟨ol, hol, _, nl, hdl⟩ := (hl : s.heap.IsTuple l its)
    unfold Builtin.SmallTypes.nextOf
    refine wpAny_bind (wpAny_callSpecial?_slot (name := Str.ofString "__next__") hit'.typeIs F.slot_tuple_iterator_next (wpAny_call_entry F.slot_tuple_iterator_next hit'.typeIs F.entry_tuple_iterator_next ?_ (F.args_tuple_iterator_next_1 _)))
    show wpAny _ _ (field (.ref it) 0 >>= _) _ _ s
    refine wpAny_bind (wpAny_field ho hd (x := .ref l) rfl ?_)
    show wpAny _ _ (if (Value.ref l == Value.none) = true then _ else _) _ _ s
    rw [if_neg (show ¬ ((Value.ref l == Value.none) = true) from Bool.false_ne_true)]
    show wpAny _ _ (field (.ref it) 1 >>= _) _ _ s
    refine wpAny_bind (wpAny_field ho hd (x := .int i 0) rfl ?_)
    show wpAny _ _ (seqItems? (.ref l) >>= _) _ _ s
    refine wpAny_bind (wpAny_seqItems hol hdl ?_)
    simp only [Int.toNat_natCast, hx]
    refine wpAny_bind (wpAny_setField ho hd (by simp) (wpAny_pure ⟨x, rfl, wpAny_pure (hQ _ ?_ (Heap.SameBut.update ..))⟩))
    exact ⟨_, Heap.get?_update_self _ ho (Obj.isFreed_of_fields (Obj.data_mapFields hd _)), (Obj.cls_mapFields ..).trans hc, by rw [Obj.data_mapFields hd]; simp [rawInt]⟩
theorem zLX {k : Bool} {it l : Addr} {i : Nat} {its : Array Value} {Q : Value → Shared → Prop} (hh : A.handled = none) (hit : IsSub k s.heap it l i) (hl : IsSeq k s.heap l its) (hx : its[i]? = none)
    (hE : ∀ h' e, Heap.ExtBut it s.heap h' → (∃ o, h'.get? e = some o ∧ o.cls = .type "StopIteration") → E (.ref e) { s with heap := h' }) : wpAny (model prog w) A (Builtin.SmallTypes.nextOf (.ref it)) Q E s := by
  cases k with
  | true => exact wpAny_nextOf_list_end hh hit hl hx hE
  | false =>
    have hit' : s.heap.IsTupleIter it l i := hit
    obtain ⟨o, ho, hc, hd⟩ := id hit'
    obtain ⟨ol, hol, _, nl, hdl⟩ := (hl : s.heap.IsTuple l its)
    unfold Builtin.SmallTypes.nextOf
    refine wpAny_bind (wpAny_callSpecial?_slot (name := Str.ofString "__next__") hit'.typeIs F.slot_tuple_iterator_next (wpAny_call_entry F.slot_tuple_iterator_next hit'.typeIs F.entry_tuple_iterator_next ?_ (F.args_tuple_iterator_next_1 _)))
    show wpAny _ _ (field (.ref it) 0 >>= _) _ _ s
    refine wpAny_bind (wpAny_field ho hd (x := .ref l) rfl ?_)
    show wpAny _ _ (if (Value.ref l == Value.none) = true then _ else _) _ _ s
    rw [if_neg (show ¬ ((Value.ref l == Value.none) = true) from Bool.false_ne_true)]
    show wpAny _ _ (field (.ref it) 1 >>= _) _ _ s
    refine wpAny_bind (wpAny_field ho hd (x := .int i 0) rfl ?_)
    show wpAny _ _ (seqItems? (.ref l) >>= _) _ _ s
    refine wpAny_bind (wpAny_seqItems hol hdl ?_)
    simp only [Int.toNat_natCast, hx]
    refine wpAny_bind (wpAny_rule (wpAny_bind (wpAny_setField ho hd (by simp) ?_)))
    show wpAny _ _ (newExc (.type "StopIteration") [] >>= _) _ _ _
    refine wpAny_bind ?_
    simp only [newExc, newTuple]
    refine wpAny_bind (wpAny_newObj_type ?_ (by size_fits))
    refine wpAny_bind (m := firstArgMember _ _) (wpAny_of_eq (a := Value.none) (by first | rfl | (simp only [firstArgMember]; rfl)) ?_)
    refine wpAny_newObj_type ?_ (by size_fits)
    simp only [raiseNew]
    refine wpAny_bind (wpAny_handled ?_)
    first | rw [show A.in1.handled = none from hh] | rw [hh]
    refine wpAny_bind (wpAny_pure (wpAny_throw ?_))
    exact hE _ _ (((Heap.SameBut.update ..).extBut.push _).push _) ⟨_, Heap.get?_push_size _ rfl, rfl⟩
end
structure ZipSt (k1 k2 : Bool) (z TI TO i1 i2 l1 l2 : Addr) (i : Nat) (h : Heap) : Prop where
  z : IsZip h z TI TO .none
  ti : IsPair h TI (.ref i1) (.ref i2)
  to : ∃ a b, IsPair h TO a b
  s1 : IsSub k1 h i1 l1 i
  s2 : IsSub k2 h i2 l2 i
structure Apart5 (z TI TO i1 i2 : Addr) : Prop where
  TIz : TI ≠ z
  TOz : TO ≠ z
  i1z : i1 ≠ z
  i2z : i2 ≠ z
  TITO : TI ≠ TO
  TIi1 : TI ≠ i1
  TIi2 : TI ≠ i2
  TOi1 : TO ≠ i1
  TOi2 : TO ≠ i2
  i12 : i1 ≠ i2
section
variable {prog : Program} {w : World} {A : Around} {E : Value → Shared → Prop} {s : Shared} {k1 k2 : Bool} {z TI TO i1 i2 l1 l2 : Addr} {i : Nat} {xs ys : Array Value}
noncomputable def Off (l z TO i1 i2 : Addr) : Prop := l ≠ z ∧ l ≠ TO ∧ l ≠ i1 ∧ l ≠ i2
theorem zPO {x y : Value} {Q : Value → Shared → Prop} (D : Apart5 z TI TO i1 i2) (o1 : Off l1 z TO i1 i2) (o2 : Off l2 z TO i1 i2) (st : ZipSt k1 k2 z TI TO i1 i2 l1 l2 i s.heap) (hl1 : IsSeq k1 s.heap l1 xs) (hl2 : IsSeq k2 s.heap l2 ys) (hx : xs[i]? = some x) (hy : ys[i]? = some y)
    (hQ : ∀ h', IsZip h' z TI TO (rawInt s.heap.objs.size) → IsPair h' TO x y → IsSub k1 h' i1 l1 (i + 1) → IsSub k2 h' i2 l2 (i + 1) → IsPair h' s.heap.objs.size x y →
      (∀ c o, c ≠ z → c ≠ TO → c ≠ i1 → c ≠ i2 → s.heap.get? c = some o → h'.get? c = some o) → Q (.ref s.heap.objs.size) { s with heap := h' }) :
    wpAny (model prog w) A (Builtin.«zip.__next__» ⟨[.ref z], []⟩) (fun fin s' => ∃ v, fin = .done (.ret v) ∧ Q v s') E s := by
  obtain ⟨hz, hTI, ⟨a, b, hTO⟩, h1, h2⟩ := st
  show wpAny _ _ (field (.ref z) 2 >>= _) _ _ _
  refine wpAny_bind (wpAny_field hz rfl (x := .bool false) rfl ?_)
  show wpAny _ _ (field (.ref z) 3 >>= _) _ _ _
  refine wpAny_bind (wpAny_field hz rfl (x := .ref TI) rfl (wpAny_bind (wpAny_seqItems hTI rfl ?_)))
  show wpAny _ _ (Builtin.SmallTypes.ownedTupleIsFree (.ref z) >>= _) _ _ _
  refine wpAny_bind ?_
  unfold Builtin.SmallTypes.ownedTupleIsFree
  refine wpAny_bind (wpAny_field hz rfl (x := .none) rfl (wpAny_pure ?_))
  simp only [if_true]
  refine wpAny_bind (wpAny_rule (wpAny_bind (wpAny_field hz rfl (x := .ref TO) rfl (wpAny_bind (wpAny_setField_rec hz (by simp) fun ha hza hsa => ?_)))))
  replace hza : IsZip ha z TI TO .ellipsis := hza
  refine wpAny_bind ?_
  simp only [List.zipIdx_cons, List.zipIdx_nil, List.forIn_cons, List.forIn_nil]
  refine wpAny_bind (wpAny_bind (wpAny_onRaise ?_))
  show wpAny _ _ (Builtin.SmallTypes.nextOf (.ref i1) >>= _) _ _ _
  refine wpAny_bind (zDW (h1.move fun o e => hsa.extBut _ _ D.i1z e) (hl1.move fun o e => hsa.extBut _ _ o1.1 e) hx fun hb h1b hsb => wpAny_pure ?_)
  have tob : IsPair hb TO a b := hsb.extBut _ _ D.TOi1 (hsa.extBut _ _ D.TOz hTO)
  refine wpAny_bind (wpAny_seqItems tob rfl (wpAny_bind (wpAny_updateSeq_pair tob fun hc toc hsc => wpAny_bind (wpAny_letGo (wpAny_pure ?_)))))
  replace toc : IsPair hc TO x b := toc
  refine wpAny_bind (wpAny_bind (wpAny_onRaise ?_))
  show wpAny _ _ (Builtin.SmallTypes.nextOf (.ref i2) >>= _) _ _ _
  have mv : ∀ c o, c ≠ z → c ≠ TO → c ≠ i1 → s.heap.get? c = some o → hc.get? c = some o := fun c o n1 n2 n3 e => hsc.extBut _ _ n2 (hsb.extBut _ _ n3 (hsa.extBut _ _ n1 e))
  refine wpAny_bind (zDW (h2.move fun o e => mv _ o D.i2z D.TOi2.symm D.i12.symm e) (hl2.move fun o e => mv _ o o2.1 o2.2.1 o2.2.2.1 e) hy fun hd h2d hsd => wpAny_pure ?_)
  have tod : IsPair hd TO x b := hsd.extBut _ _ D.TOi2 toc
  refine wpAny_bind (wpAny_seqItems tod rfl (wpAny_bind (wpAny_updateSeq_pair tod fun he toe hse => wpAny_bind (wpAny_letGo (wpAny_pure (wpAny_pure ?_))))))
  replace toe : IsPair he TO x y := toe
  refine wpAny_bind (wpAny_seqItems toe rfl (wpAny_bind (wpAny_newTuple ?_)))
  have hsz : he.objs.size = s.heap.objs.size := by rw [hse.1, hsd.1, hsc.1, hsb.1, hsa.1]
  have ze : IsZip he z TI TO .ellipsis := hse.extBut _ _ D.TOz.symm (hsd.extBut _ _ D.i2z.symm (hsc.extBut _ _ D.TOz.symm (hsb.extBut _ _ D.i1z.symm hza)))
  have mve : ∀ c o, c ≠ z → c ≠ TO → c ≠ i1 → c ≠ i2 → s.heap.get? c = some o → he.get? c = some o := fun c o n1 n2 n3 n4 e => hse.extBut _ _ n2 (hsd.extBut _ _ n4 (mv c o n1 n2 n3 e))
  have s1e : IsSub k1 he i1 l1 (i + 1) := h1b.move fun o e => hse.extBut _ _ D.TOi1.symm (hsd.extBut _ _ D.i12 (hsc.extBut _ _ D.TOi1.symm e))
  have s2e : IsSub k2 he i2 l2 (i + 1) := h2d.move fun o e => hse.extBut _ _ D.TOi2.symm e
  have hzlt : z < he.objs.size := Heap.lt_size ze
  show wpAny _ _ (Builtin.SmallTypes.ownedTupleHandOut (.ref z) (.ref he.objs.size) >>= _) _ _ _
  refine wpAny_bind ?_
  unfold Builtin.SmallTypes.ownedTupleHandOut
  have zf : IsZip (he.push { cls := .type "tuple", data := .seq #[x, y] }) z TI TO .ellipsis := Heap.get?_push_of_some _ ze
  refine wpAny_bind (wpAny_setField_rec zf (by simp) fun hg' zg hsg => ?_)
  replace zg : IsZip hg' z TI TO (rawInt he.objs.size) := zg
  refine wpAny_setField_rec zg (by simp) fun hh' zh hsh => ?_
  replace zh : IsZip hh' z TI TO (rawInt he.objs.size) := zh
  have up : ∀ c o, c ≠ z → he.get? c = some o → hh'.get? c = some o := fun c o c1 e => hsh.extBut _ _ c1 (hsg.extBut _ _ c1 (Heap.get?_push_of_some _ e))
  have tT : IsPair hh' he.objs.size x y := hsh.extBut _ _ (Nat.ne_of_gt hzlt) (hsg.extBut _ _ (Nat.ne_of_gt hzlt) (Heap.get?_push_size _ rfl))
  rw [hsz] at zh tT
  refine wpAny_pure ⟨_, rfl, ?_⟩
  show Q (.ref he.objs.size) _
  rw [hsz]
  exact hQ hh' zh (up _ _ D.TOz toe) (s1e.move fun o e => up _ o D.i1z e) (s2e.move fun o e => up _ o D.i2z e) tT fun c o c1 c2 c3 c4 e => up c o c1 (mve c o c1 c2 c3 c4 e)
theorem zSA {Q : Fin → Shared → Prop} (hh : A.handled = none) (D : Apart5 z TI TO i1 i2) (o1 : Off l1 z TO i1 i2) (o2 : Off l2 z TO i1 i2) (st : ZipSt k1 k2 z TI TO i1 i2 l1 l2 i s.heap) (hl1 : IsSeq k1 s.heap l1 xs) (hl2 : IsSeq k2 s.heap l2 ys) (hend : xs[i]? = none ∨ ys[i]? = none)
    (hE : ∀ h' e, (∀ c o, c ≠ z → c ≠ TO → c ≠ i1 → c ≠ i2 → s.heap.get? c = some o → h'.get? c = some o) → (∃ o, h'.get? e = some o ∧ o.cls = .type "StopIteration") → E (.ref e) { s with heap := h' }) :
    wpAny (model prog w) A (Builtin.«zip.__next__» ⟨[.ref z], []⟩) Q E s := by
  obtain ⟨hz, hTI, ⟨a, b, hTO⟩, h1, h2⟩ := st
  show wpAny _ _ (field (.ref z) 2 >>= _) _ _ _
  refine wpAny_bind (wpAny_field hz rfl (x := .bool false) rfl ?_)
  show wpAny _ _ (field (.ref z) 3 >>= _) _ _ _
  refine wpAny_bind (wpAny_field hz rfl (x := .ref TI) rfl (wpAny_bind (wpAny_seqItems hTI rfl ?_)))
  show wpAny _ _ (Builtin.SmallTypes.ownedTupleIsFree (.ref z) >>= _) _ _ _
  refine wpAny_bind ?_
  unfold Builtin.SmallTypes.ownedTupleIsFree
  refine wpAny_bind (wpAny_field hz rfl (x := .none) rfl (wpAny_pure ?_))
  simp only [if_true]
  refine wpAny_bind (wpAny_rule (wpAny_bind (wpAny_field hz rfl (x := .ref TO) rfl (wpAny_bind (wpAny_setField_rec hz (by simp) fun ha hza hsa => ?_)))))
  replace hza : IsZip ha z TI TO .ellipsis := hza
  refine wpAny_bind ?_
  simp only [List.zipIdx_cons, List.zipIdx_nil, List.forIn_cons, List.forIn_nil]
  refine wpAny_bind (wpAny_bind (wpAny_onRaise ?_))
  show wpAny _ _ (Builtin.SmallTypes.nextOf (.ref i1) >>= _) _ _ _
  cases hx : xs[i]? with
  | none =>
    refine wpAny_bind (zLX hh (h1.move fun o e => hsa.extBut _ _ D.i1z e) (hl1.move fun o e => hsa.extBut _ _ o1.1 e) hx fun hb e hsb he => ?_)
    obtain ⟨oe, hoe, hce⟩ := he
    have hzb : IsZip hb z TI TO .ellipsis := hsb _ _ D.i1z.symm hza
    have hez : e ≠ z := fun q => by subst q; rw [hzb] at hoe; cases hoe; simp at hce
    exact wpAny_setField_rec hzb (by simp) fun hc _ hsc => hE hc e (fun c o c1 _ c3 _ q => hsc.extBut _ _ c1 (hsb _ _ c3 (hsa.extBut _ _ c1 q))) ⟨oe, hsc.extBut _ _ hez hoe, hce⟩
  | some x =>
    have hy : ys[i]? = none := by rcases hend with h | h; (rw [hx] at h; cases h); exact h
    refine wpAny_bind (zDW (h1.move fun o e => hsa.extBut _ _ D.i1z e) (hl1.move fun o e => hsa.extBut _ _ o1.1 e) hx fun hb h1b hsb => wpAny_pure ?_)
    have tob : IsPair hb TO a b := hsb.extBut _ _ D.TOi1 (hsa.extBut _ _ D.TOz hTO)
    refine wpAny_bind (wpAny_seqItems tob rfl (wpAny_bind (wpAny_updateSeq_pair tob fun hc toc hsc => wpAny_bind (wpAny_letGo (wpAny_pure ?_)))))
    refine wpAny_bind (wpAny_bind (wpAny_onRaise ?_))
    show wpAny _ _ (Builtin.SmallTypes.nextOf (.ref i2) >>= _) _ _ _
    have mv : ∀ c o, c ≠ z → c ≠ TO → c ≠ i1 → s.heap.get? c = some o → hc.get? c = some o := fun c o n1 n2 n3 e => hsc.extBut _ _ n2 (hsb.extBut _ _ n3 (hsa.extBut _ _ n1 e))
    refine wpAny_bind (zLX hh (h2.move fun o e => mv _ o D.i2z D.TOi2.symm D.i12.symm e) (hl2.move fun o e => mv _ o o2.1 o2.2.1 o2.2.2.1 e) hy fun hd e hsd he => ?_)
    obtain ⟨oe, hoe, hce⟩ := he
    have hzd : IsZip hd z TI TO .ellipsis := hsd _ _ D.i2z.symm (hsc.extBut _ _ D.TOz.symm (hsb.extBut _ _ D.i1z.symm hza))
    have hez : e ≠ z := fun q => by subst q; rw [hzd] at hoe; cases hoe; simp at hce
    exact wpAny_setField_rec hzd (by simp) fun hg' _ hsg => hE hg' e (fun c o c1 c2 c3 c4 q => hsg.extBut _ _ c1 (hsd _ _ c4 (mv c o c1 c2 c3 q))) ⟨oe, hsg.extBut _ _ hez hoe, hce⟩
theorem zKG (k1 k2 : Bool) (l1 l2 : Addr) (xs ys : Array Value) :
    Meets (Builtin.«zip.__new__» ⟨[.type "zip", .ref l1, .ref l2], []⟩) (fun _ R s => IsSeq k1 s.heap l1 xs ∧ IsSeq k2 s.heap l2 ys ∧
      R (.ok (.ret (.ref (s.heap.objs.size + 4)))) { s with heap := ((((s.heap.push (zDV k1 l1)).push (zDV k2 l2)).push { cls := .type "tuple", data := .seq #[.ref s.heap.objs.size, .ref (s.heap.objs.size + 1)] }).push { cls := .type "tuple", data := .seq #[.none, .none] }).push { cls := .type "zip", data := .fields #[.none, .bool false, .bool false, .ref (s.heap.objs.size + 2), .ref (s.heap.objs.size + 3)] } }) :=
  .of_wp fun prog w A R s h => by
    obtain ⟨hp, g, d, tk, os⟩ := s; obtain ⟨hl1, hl2, h⟩ := h
    have hsub := sub_zip
    have hL1 : IsSeq k1 (Shared.heap ⟨hp, g, d, tk, os⟩) l1 xs := hl1
    have hL2 : IsSeq k2 (Shared.heap ⟨hp.push (zDV k1 l1), g, d, tk, os⟩) l2 ys := hl2.move fun o e => Heap.get?_push_of_some _ e
    have z1 : ∀ (h : Heap) (o : Obj), (h.push o).objs.size = h.objs.size + 1 := fun h o => Heap.size_push ..
    simp only [z1] at h ⊢
    wp_walk using zIO hL1, zIO hL2
    exact ⟨_, rfl, by simp only [z1]; exact h⟩
theorem zPP (hl1 : IsSeq k1 s.heap l1 xs) (hl2 : IsSeq k2 s.heap l2 ys) {Q : Value → Shared → Prop}
    (h : ∀ h', ZipSt k1 k2 (s.heap.objs.size + 4) (s.heap.objs.size + 2) (s.heap.objs.size + 3) s.heap.objs.size (s.heap.objs.size + 1) l1 l2 0 h' → (∀ c o, s.heap.get? c = some o → h'.get? c = some o) → Q (.ref (s.heap.objs.size + 4)) { s with heap := h' }) :
    wpAny (model prog w) A (call (.type "zip") [.ref l1, .ref l2]) Q E s := by
  refine callType_new F.called_zip (by decide) (F.typeCall_zip_2 _ _) (F.newCall_zip_2 _ _) (fun obj => F.args_object_init_3 obj _ _) F.entry_zip_new (zKG k1 k2 l1 l2 xs ys) ⟨hl1, hl2, ?_⟩
  have z1 : ∀ (h : Heap) (o : Obj), (h.push o).objs.size = h.objs.size + 1 := fun h o => Heap.size_push ..
  have pg : ∀ (h : Heap) (o : Obj) (n : Nat), o.isFreed = false → h.objs.size = n → (h.push o).get? n = some o := fun h o n hf e => by subst e; exact Heap.get?_push_size _ hf
  have up : ∀ (h : Heap) (o u : Obj) (n : Nat), h.get? n = some u → (h.push o).get? n = some u := fun h o u n e => Heap.get?_push_of_some _ e
  refine ⟨⟨_, pg _ _ _ rfl (by simp only [z1]), rfl⟩, h _ ⟨pg _ _ _ rfl (by simp only [z1]), up _ _ _ _ (up _ _ _ _ (pg _ _ _ rfl (by simp only [z1]))), ⟨.none, .none, up _ _ _ _ (pg _ _ _ rfl (by simp only [z1]))⟩, ?_, ?_⟩ fun c o e => up _ _ _ _ (up _ _ _ _ (up _ _ _ _ (up _ _ _ _ (up _ _ _ _ e))))⟩
  · exact IsSub.mk' (up _ _ _ _ (up _ _ _ _ (up _ _ _ _ (up _ _ _ _ (pg _ _ _ rfl rfl)))))
  · exact IsSub.mk' (up _ _ _ _ (up _ _ _ _ (up _ _ _ _ (pg _ _ _ rfl (by simp only [z1])))))
end
theorem apart_new (n : Nat) : Apart5 (n + 4) (n + 2) (n + 3) n (n + 1) := by
  constructor <;> (show (_ : Nat) ≠ _; omega)
noncomputable def SqK (k : Bool) (K : PySem.W.Frag) (H : Hp) (a : Addr) (xs : List V) : Prop := if k = true then SqL K H a xs else SqT K H a xs
noncomputable def Itz (K : PySem.W.Frag) (k1 k2 : Bool) (l1 l2 : Addr) : It :=
  ⟨fun i H => ∃ xs ys x y, SqK k1 K H l1 xs ∧ SqK k2 K H l2 ys ∧ xs[i]? = some x ∧ ys[i]? = some y,
   fun i H v H' => ∃ p x y, H p = none ∧ v = .ref p ∧ H' = upd H p (.tup [x, y]) ∧ (∀ xs, SqK k1 K H l1 xs → xs[i]? = some x) ∧ ∀ ys, SqK k2 K H l2 ys → ys[i]? = some y,
   fun i H => ∃ xs ys, SqK k1 K H l1 xs ∧ SqK k2 K H l2 ys ∧ (xs.length ≤ i ∨ ys.length ≤ i)⟩
section
variable {X : Cx} {pins : List (Addr × Obj)} {σ : St} {H : Hp} {s : Shared}
theorem _root_.L2.Inv.seqK (I : Inv X pins σ H s) {k : Bool} {a : Addr} {xs : List V} (h : SqK k X.K H a xs) : ∃ its : List Value, Vals xs its ∧ IsSeq k s.heap a its.toArray ∧ xs.length ≤ sizeLine := by
  cases k with
  | true => obtain ⟨its, r, p, z⟩ := I.list h; exact ⟨its, r, p.isList, z⟩
  | false => obtain ⟨its, r, p, z⟩ := I.tuple h; exact ⟨its, r, p, z⟩
theorem _root_.L2.Inv.seqK_inj (I : Inv X pins σ H s) {k : Bool} {a : Addr} {xs ys : List V} (h : SqK k X.K H a xs) (h' : SqK k X.K H a ys) : xs = ys := by
  cases k with
  | true => exact I.list_inj h h'
  | false => exact I.tuple_inj h h'
theorem gH (I : Inv X pins σ H s) {k : Bool} {l b : Addr} {xs : List V} (h : SqK k X.K H l xs) (hb : nW X pins H b) : l ≠ b := by
  rintro rfl
  have kk : ∀ o, X.K.lookup l = some o → False := fun o e => by
    have e1 := I.mod.kin l o e
    rcases hb.2.2.2.1 with z | z
    · exact I.ok.noex l o e1 z
    · exact absurd (Nat.lt_of_lt_of_le (Heap.lt_size e1) (Nat.le_trans I.ok.bsz z)) (Nat.lt_irrefl _)
  cases k with
  | true =>
    rcases (h : SqL X.K H l xs) with (h | ⟨o, h⟩) | ⟨o, its, n, h, _⟩
    · rw [hb.1] at h; cases h
    · rw [hb.1] at h; cases h
    · exact kk o h
  | false =>
    rcases (h : SqT X.K H l xs) with (h | ⟨o, h⟩) | ⟨o, its, n, h, _⟩
    · rw [hb.1] at h; cases h
    · rw [hb.1] at h; cases h
    · exact kk o h
end
theorem zPQ {P : Program} {w : World} {K : PySem.W.Frag} {elts : List Expr} {kt : Nat} {pt : Pos} {k1 k2 : Bool} {z TI TO i1 i2 l1 l2 : Addr} (D : Apart5 z TI TO i1 i2) :
    Turn P w K (.Tuple elts kt pt) (Itz K k1 k2 l1 l2) [z, TI, TO, i1, i2] z (fun i h => ZipSt k1 k2 z TI TO i1 i2 l1 l2 i h) where
  mem := by simp
  obj := fun i h st b hb => by
    obtain ⟨hz, hTI, ⟨a, b', hTO⟩, h1, h2⟩ := st
    have hb' : b = z ∨ b = TI ∨ b = TO ∨ b = i1 ∨ b = i2 := by simpa using hb
    rcases hb' with rfl | rfl | rfl | rfl | rfl
    · exact ⟨_, hz, fun v q => by cases q⟩
    · exact ⟨_, hTI, fun v q => by cases q⟩
    · exact ⟨_, hTO, fun v q => by cases q⟩
    · exact h1.there
    · exact h2.there
  keep := fun i h h' st k => by
    obtain ⟨hz, hTI, ⟨a, b', hTO⟩, h1, h2⟩ := st
    exact ⟨k z (by simp) _ hz, k TI (by simp) _ hTI, ⟨a, b', k TO (by simp) _ hTO⟩, h1.move fun o e => k i1 (by simp) o e, h2.move fun o e => k i2 (by simp) o e⟩
  item := by
    intro X hP hw hK hc i pins s σ H E I hf st hg
    subst hP hw hK
    obtain ⟨xs, ys, x, y, q1, q2, hx, hy⟩ := hg
    obtain ⟨its, r1, p1, _⟩ := I.seqK q1
    obtain ⟨its2, r2, p2, _⟩ := I.seqK q2
    obtain ⟨u, hu, ru⟩ := r1.get hx
    obtain ⟨v, hv, rv⟩ := r2.get hy
    have off : ∀ {k : Bool} {l : Addr} {xs : List V}, SqK k X.K H l xs → Off l z TO i1 i2 := fun q => ⟨gH I q (hf z (by simp)), gH I q (hf TO (by simp)), gH I q (hf i1 (by simp)), gH I q (hf i2 (by simp))⟩
    have hT : s.TypeIs (.ref z) "zip" := ⟨_, st.z, rfl⟩
    unfold pyNext
    refine wpAny_bind (wpAny_attempt (wpAny_callSpecial?_slot (name := Str.ofString "__next__") hT F.slot_zip_next (wpAny_call_entry F.slot_zip_next hT F.entry_zip_next
      (zPO D (off q1) (off q2) st p1 p2 (x := u) (y := v) (by simpa using hu) (by simpa using hv) fun h' a1 a2 a3 a4 a5 a6 => wpAny_pure ⟨_, rfl, ?_⟩) (F.args_zip_next_1 _))))
    refine wpAny_letOwnedTupleGo_zip a1 fun h2 z2 sb2 => ?_
    have hpn : H s.heap.objs.size = none := I.hok.fresh (Nat.le_refl _)
    have I0 : Inv X pins σ (upd H s.heap.objs.size (.tup [x, y])) { s with heap := s.heap.push { cls := .type "tuple", data := .seq #[u, v] } } :=
      I.laid (t' := s.toks) (o := .tup [x, y]) (fun b o e => Heap.get?_push_of_some _ e) (Nat.le_refl _) ⟨by show 2 ≤ sizeLine; decide, [u, v], .cons ru (.cons rv .nil), ⟨_, Heap.get?_push_size _ rfl, rfl, _, rfl⟩⟩
    have lt : ∀ b ∈ [z, TI, TO, i1, i2], b < s.heap.objs.size := fun b hb => by
      have : ∃ o, s.heap.get? b = some o := by
        obtain ⟨hz, hTI, ⟨a, b', hTO⟩, g1, g2⟩ := st
        have hb' : b = z ∨ b = TI ∨ b = TO ∨ b = i1 ∨ b = i2 := by simpa using hb
        rcases hb' with rfl | rfl | rfl | rfl | rfl
        · exact ⟨_, hz⟩
        · exact ⟨_, hTI⟩
        · exact ⟨_, hTO⟩
        · obtain ⟨o, e, _⟩ := g1.there; exact ⟨o, e⟩
        · obtain ⟨o, e, _⟩ := g2.there; exact ⟨o, e⟩
      obtain ⟨o, e⟩ := this
      exact Heap.lt_size e
    have fr : ∀ b ∈ [z, TI, TO, i1, i2], upd H s.heap.objs.size (.tup [x, y]) b = none := fun b hb => by rw [zP (Nat.ne_of_lt (lt b hb))]; exact (hf b hb).1
    have zne : s.heap.objs.size ≠ z := Nat.ne_of_gt (lt z (by simp))
    have mv : ∀ b o, b ∉ [z, TI, TO, i1, i2] → (s.heap.push { cls := .type "tuple", data := .seq #[u, v] }).get? b = some o → h2.get? b = some o := fun b o hb e => by
      simp only [List.mem_cons, List.not_mem_nil, or_false, not_or] at hb
      refine sb2.extBut _ _ hb.1 ?_
      by_cases hbs : b = s.heap.objs.size
      · subst hbs
        rw [Heap.get?_push_size _ rfl] at e
        cases e
        exact a5
      · rw [Heap.get?_push_ne _ _ _ hbs] at e
        exact a6 b o hb.1 hb.2.2.1 hb.2.2.2.1 hb.2.2.2.2 e
    have I2 := I0.turnedL (h' := h2) (t' := s.toks) mv fun b hb => let ⟨_, c2, c3, c4, c5, c6⟩ := hf b hb; ⟨fr b hb, c2, c3, c4, c5, c6⟩
    refine ⟨.ref s.heap.objs.size, _, I2, rfl, ⟨s.heap.objs.size, x, y, hpn, rfl, rfl, fun zs hz => ?_, fun zs hz => ?_⟩, ⟨z2, ?_, ⟨u, v, ?_⟩, ?_, ?_⟩, fr⟩
    · rw [I.seqK_inj hz q1]; exact hx
    · rw [I.seqK_inj hz q2]; exact hy
    · exact sb2.extBut _ _ D.TIz (a6 TI _ D.TIz D.TITO D.TIi1 D.TIi2 st.ti)
    · exact sb2.extBut _ _ D.TOz a2
    · exact a3.move fun o e => sb2.extBut _ _ D.i1z e
    · exact a4.move fun o e => sb2.extBut _ _ D.i2z e
  done := by
    intro X hP hw hK hc i pins s σ H E I hf st hg
    subst hP hw hK
    obtain ⟨xs, ys, q1, q2, hx⟩ := hg
    obtain ⟨its, r1, p1, _⟩ := I.seqK q1
    obtain ⟨its2, r2, p2, _⟩ := I.seqK q2
    have off : ∀ {k : Bool} {l : Addr} {xs : List V}, SqK k X.K H l xs → Off l z TO i1 i2 := fun q => ⟨gH I q (hf z (by simp)), gH I q (hf TO (by simp)), gH I q (hf i1 (by simp)), gH I q (hf i2 (by simp))⟩
    have hT : s.TypeIs (.ref z) "zip" := ⟨_, st.z, rfl⟩
    have e1 := r1.length
    have e2 := r2.length
    unfold pyNext
    refine wpAny_bind (wpAny_attempt (wpAny_callSpecial?_slot (name := Str.ofString "__next__") hT F.slot_zip_next (wpAny_call_entry F.slot_zip_next hT F.entry_zip_next
      (zSA (I.ok.hd hc) D (off q1) (off q2) st p1 p2 (by rcases hx with h | h; (exact .inl (by simp; omega)); exact .inr (by simp; omega)) fun h' e hk he => ?_) (F.args_zip_next_1 _))))
    obtain ⟨o, ho, hcl⟩ := he
    refine wpAny_bind (wpAny_isInstance (T := "StopIteration") (b := true) ⟨o, ho, hcl⟩ isSubtype_stop (wpAny_pure ⟨rfl, ?_⟩))
    refine I.turnedL (h' := h') (t' := s.toks) (fun b o hb e => ?_) hf
    simp only [List.mem_cons, List.not_mem_nil, or_false, not_or] at hb
    exact hk b o hb.1 hb.2.2.1 hb.2.2.2.1 hb.2.2.2.2 e
  self := fun _ _ _ _ _ st h => wpAny_pyIter_zip st.z h
end M
end L2
namespace L2
namespace M
open PySem PySem.Spec PyProof.Rows
structure Sr where
  k : Bool
  ds : List MV
  gs : List (Nat × List MV)
noncomputable def srcOf (S : Sto) : Er → Option Sr
  | .val (.tup ds) => some ⟨false, ds, []⟩
  | .new ds => some ⟨true, ds, []⟩
  | .val (.scr ds) => some ⟨true, ds, []⟩
  | .val (.loc l) => match S[l]? with
    | some (.lst ds) => some ⟨true, ds, [(l, ds)]⟩
    | _ => none
  | _ => none
structure SrcD (X : Cx) (q : Sr) (l : Addr) (P : List Addr → Sto → Hp → Prop) : Prop where
  get : ∀ α S H, P α S H → ∃ vs, SqK q.k X.K H l vs ∧ DenL X.K α H q.ds vs
  stays : ∀ α1 S1 H1 α2 S2 H2, P α1 S1 H1 → Ext α1 H1 α2 H2 → Wd X.g α2 S2 H2 → stay q.gs S2 → P α2 S2 H2
  st : ∀ α S H, P α S H → stay q.gs S
theorem zPR {X : Cx} {α : List Addr} {S : Sto} {H : Hp} (wd : Wd X.g α S H) {r : Er} {x : V} {q : Sr} (e : srcOf S r = some q) (d : DenX X.K α H r x) : ∃ l P, x = .ref l ∧ P α S H ∧ SrcD X q l P := by
  unfold srcOf at e
  split at e
  · rename_i ds
    cases e
    obtain ⟨a, vs, rfl, s, l⟩ := bK d
    exact ⟨a, fun α S H => ∃ vs, SqT X.K H a vs ∧ DenL X.K α H ds vs, rfl, ⟨vs, s, l⟩, fun α S H h => h, fun α1 S1 H1 α2 S2 H2 ⟨vs, h1, h2⟩ x w _ => ⟨vs, x.sqT h1, h2.ext x⟩, fun _ _ _ _ => kF⟩
  · rename_i ds
    cases e
    obtain ⟨b, vs, rfl, h, n, l⟩ := d
    exact ⟨b, fun α S H => ∃ vs, H b = some (.lst vs) ∧ b ∉ α ∧ DenL X.K α H ds vs, rfl, ⟨vs, h, n, l⟩, fun α S H ⟨vs, h1, _, h2⟩ => ⟨vs, (SqL.of h1 : SqL X.K H b vs), h2⟩,
      fun α1 S1 H1 α2 S2 H2 ⟨vs, h1, h2, h3⟩ x w _ => ⟨vs, x.keep b _ h1 h2, x.out h1 h2, h3.ext x⟩, fun _ _ _ _ => kF⟩
  · rename_i ds
    cases e
    obtain ⟨a, vs, rfl, s, l⟩ := zGM d
    exact ⟨a, fun α S H => ∃ vs, SqF X.K H a vs ∧ DenL X.K α H ds vs, rfl, ⟨vs, s, l⟩, fun α S H ⟨vs, h1, h2⟩ => ⟨vs, h1.l, h2⟩, fun α1 S1 H1 α2 S2 H2 ⟨vs, h1, h2⟩ x w _ => ⟨vs, x.sqF h1, h2.ext x⟩, fun _ _ _ _ => kF⟩
  · rename_i n
    split at e
    · rename_i ds hS
      cases e
      obtain ⟨a, rfl, h⟩ := zBE d
      obtain ⟨vs, h1, h2⟩ := wd.obj n a _ h hS
      refine ⟨a, fun α S H => ∃ vs, H a = some (.lst vs) ∧ DenL X.K α H ds vs ∧ α[n]? = some a ∧ S[n]? = some (.lst ds), rfl, ⟨vs, h1, h2, h, hS⟩, fun α S H ⟨vs, h1, h2, _⟩ => ⟨vs, (SqL.of h1 : SqL X.K H a vs), h2⟩, ?_, ?_⟩
      · intro α1 S1 H1 α2 S2 H2 ⟨vs, a1, a2, a3, a4⟩ x w hs
        have hs' := hs (n, ds) (by simp)
        obtain ⟨us, b1, b2⟩ := w.obj n a _ (x.at a3) hs'
        exact ⟨us, b1, b2, x.at a3, hs'⟩
      · intro α S H ⟨vs, _, _, _, a4⟩ p hp
        have : p = (n, ds) := by simpa using hp
        subst this
        exact a4
    · cases e
  · cases e
noncomputable def iZip (K : PySem.W.Frag) (ta : TA) : TI := fun σ H R => ta σ H fun vs H1 => ∃ k1 k2 l1 l2, vs = [.ref l1, .ref l2] ∧ (∃ xs, SqK k1 K H1 l1 xs) ∧ (∃ ys, SqK k2 K H1 l2 ys) ∧ R (Itz K k1 k2 l1 l2) H1
section
variable {X : Cx} {W : XW} {a b : Expr} {elts : List Expr} {kt : Nat} {pt p pos : Pos} {ta : TA} {af : Rho → Sto → R (List Er)}
theorem zVD : bootBuiltins "zip" = some (.type "zip") := by decide +kernel
theorem zVE (hg : Gl X "zip") (hm : X.mg "zip" = none) (ha : PA X [a, b] ta) (hs : starEach [a, b] X.env = [(false, eval a X.env), (false, eval b X.env)] := by rfl) (hs2 : starEach [b] X.env = [(false, eval b X.env)] := by rfl) :
    PI X (.Tuple elts kt pt) (.Call (.Name "zip" p) [a, b] [] pos) (iZip X.K ta) := by
  intro pins s σ H R I h
  refine Call_ (zCS I hg hm zVD (PyProof.Rows.callWith_type1 (thn (ha pos pins s σ H _ I h) fun us s1 ⟨vs, H1, I1, r1, q1⟩ => ?_) (by rw [hs, hs2]) (by rw [hs2]; rfl)))
  obtain ⟨k1, k2, l1, l2, rfl, ⟨xs, c1⟩, ⟨ys, c2⟩, q⟩ := q1
  cases r1 with
  | cons r rr =>
    cases rr with
    | cons r' rr =>
      cases rr
      cases r
      cases r'
      obtain ⟨its, v1, p1, _⟩ := I1.seqK c1
      obtain ⟨its2, v2, p2, _⟩ := I1.seqK c2
      refine zPP p1 p2 fun h' st hk => wpAny_pyIter_zip st.z ?_
      have I2 : Inv X pins σ H1 { s1 with heap := h' } := I1.kept (t' := s1.toks) hk
      refine ⟨_, _, _, _, H1, rfl, I2, zPQ (apart_new _), st, fun b hb => ?_, q⟩
      have hle : s1.heap.objs.size ≤ b := by
        have hb' : b = s1.heap.objs.size + 4 ∨ b = s1.heap.objs.size + 2 ∨ b = s1.heap.objs.size + 3 ∨ b = s1.heap.objs.size ∨ b = s1.heap.objs.size + 1 := by simpa using hb
        rcases hb' with h | h | h | h | h <;> rw [h] <;> (first | exact Nat.le_refl _ | exact Nat.le_add_right _ _)
      exact I1.fpOk hle (I1.hok.fresh hle)
noncomputable def pairs (xs ys : List MV) : List MV := List.zipWith (fun x y => .tup [x, y]) xs ys
noncomputable def itZ (rs : List Er) (S : Sto) : R Wk := match rs with
  | [p, q] => match srcOf S p with
    | some a => match srcOf S q with
      | some b => .ok ⟨pairs a.ds b.ds, a.gs ++ b.gs⟩ S
      | none => .no
    | none => .no
  | _ => .no
theorem zVF (hg : Gl X "zip") (hm : X.mg "zip" = none) (ha : PAm X W [a, b] af) (hs : starEach [a, b] X.env = [(false, eval a X.env), (false, eval b X.env)] := by rfl) (hs2 : starEach [b] X.env = [(false, eval b X.env)] := by rfl) :
    PIm X W (.Tuple elts kt pt) (.Call (.Name "zip" p) [a, b] [] pos) (fun ρ S => (af ρ S).bind itZ) := by
  obtain ⟨t, ha, k⟩ := ha
  refine ⟨_, zVE hg hm ha hs hs2, fun α ρ S σ H Rc wd sl q => k α ρ S σ H _ wd sl (q.bind fun vs rs S1 α1 H1 e x1 w1 d1 q1 => ?_)⟩
  replace q1 := q1.shift x1
  unfold itZ at q1
  split at q1
  · rename_i r1 r2
    split at q1
    · rename_i s1 e1
      split at q1
      · rename_i s2 e2
        obtain ⟨u, v, rfl, du, dv⟩ := args2 d1
        obtain ⟨l1, P1, rfl, p1, D1⟩ := zPR w1 e1 du
        obtain ⟨l2, P2, rfl, p2, D2⟩ := zPR w1 e2 dv
        have g1 := D1.get _ _ _ p1
        have g2 := D2.get _ _ _ p2
        refine ⟨s1.k, s2.k, l1, l2, rfl, ⟨_, g1.choose_spec.1⟩, ⟨_, g2.choose_spec.1⟩, q1.here (u := Itz X.K s1.k s2.k l1 l2) w1 ⟨fun α S H => P1 α S H ∧ P2 α S H, ?_, ⟨p1, p2⟩, ?_, ?_⟩⟩
        · intro i α2 S2 H2 ⟨b1, b2⟩ w2
          obtain ⟨us, c1, c2⟩ := D1.get _ _ _ b1
          obtain ⟨ws, c3, c4⟩ := D2.get _ _ _ b2
          have hl : (pairs s1.ds s2.ds).length = min us.length ws.length := by unfold pairs; rw [List.length_zipWith, c2.length, c4.length]
          refine ⟨fun hi => ?_, fun hi => ?_⟩
          · have hi : i < (pairs s1.ds s2.ds).length := hi
            have h1 : i < us.length := by omega
            have h2 : i < ws.length := by omega
            refine ⟨⟨us, ws, us[i], ws[i], c1, c3, List.getElem?_eq_getElem h1, List.getElem?_eq_getElem h2⟩, ?_⟩
            rintro x H' ⟨pp, xx, yy, hp, rfl, rfl, hx, hy⟩
            obtain ⟨d, hd, dd⟩ := c2.get (hx us c1)
            obtain ⟨f, hf, df⟩ := c4.get (hy ws c3)
            have xn := w2.newx (o := .tup [xx, yy]) hp
            have wn := w2.new (o := .tup [xx, yy]) hp
            refine ⟨xn, wn, ⟨D1.stays _ _ _ _ _ _ b1 xn wn (D1.st _ _ _ b1), D2.stays _ _ _ _ _ _ b2 xn wn (D2.st _ _ _ b2)⟩, .tup [d, f], ?_, ?_⟩
            · unfold pairs; rw [List.getElem?_zipWith, hd, hf]
            · exact dZ (.of jD) (yE (dd.ext xn) (yE (df.ext xn) yN))
          · have hi : (pairs s1.ds s2.ds).length ≤ i := hi
            refine ⟨us, ws, c1, c3, ?_⟩
            by_cases h1 : us.length ≤ i
            · exact .inl h1
            · exact .inr (by omega)
        · intro α1 S1 H1 α2 S2 H2 ⟨b1, b2⟩ x w hs
          exact ⟨D1.stays _ _ _ _ _ _ b1 x w fun p hp => hs p (List.mem_append_left _ hp), D2.stays _ _ _ _ _ _ b2 x w fun p hp => hs p (List.mem_append_right _ hp)⟩
        · intro p hp
          rcases List.mem_append.mp hp with h | h
          · exact D1.st _ _ _ p1 p h
          · exact D2.st _ _ _ p2 p h
      · exact q1.elim
    · exact q1.elim
  · exact q1.elim
end
end M
end L2
namespace L2
namespace M
open PySem PySem.Spec PyProof.Rows
noncomputable def zIP (K : PySem.W.Frag) (F : List MV → Sto → R Er) : Sp := fun vs H Q _ => ∃ ds, DenL K [] H ds vs ∧ ds.length = 1 ∧ ∀ g : Gm, g.K = K → Post g W0 [] H (F ds []) Q
theorem zPS {g : Gm} {F : List MV → Sto → R Er} : ∀ vs H Q E, zIP g.K F vs H Q E → spM g 1 F vs H Q E := fun vs H Q E ⟨ds, l, hl, q⟩ => ⟨[], [], ds, ⟨rfl, by simp, fun l a o h => by simp at h⟩, l, hl, q g rfl⟩
theorem zVG {K : PySem.W.Frag} {H : Hp} {a : Addr} {xs : List V} (hO : zOE H) (h : SqL K H a xs) : SqF K H a xs := by
  rcases h with (h | ⟨o, h⟩) | h
  · rcases hO a with z | ⟨o, ys, z⟩
    · rw [z] at h; cases h
    · rw [z] at h; cases h
  · exact .inl ⟨o, h⟩
  · exact .inr h
theorem zPT {K : PySem.W.Frag} {F : List MV → Sto → R Er} {H : Hp} {a : Addr} {ns : List Int} (hO : zOE H) (hS : SqL K H a (ns.map V.int)) (h : ∃ S, F [.scr (ns.map MV.int)] [] = .ok (.val (.bl true)) S) : zIP K F [.ref a] H (fun v _ => v = .bl true) fun _ _ _ => False := by
  obtain ⟨S, h⟩ := h
  refine ⟨_, yE (zLF (zVG hO hS) (zFL ns)) yN, rfl, fun g _ => ?_⟩
  rw [h]
  exact fun v α' H' x w d => cZ d.1
theorem bok {β γ : Type} (b : β) (S : Sto) (k : β → Sto → R γ) : (R.ok b S).bind k = k b S := by
  have h := R.bind_ok b S k
  exact Eq.trans h rfl
theorem zSB (d : MV) (S : Sto) : zH (some (some d)) S = .ok (.val d) S := rfl
theorem zIQ {S T : Sto} : zPA S (S ++ T) := ⟨by rw [List.length_append]; omega, fun l hl => .inl (List.getElem?_append_left hl)⟩
theorem zGW (n : Nat) (i : Int) : lo n (.int i) := by unfold lo; trivial
theorem zBJ (n : Nat) (i : List Nat) : lo n (.str i) := by unfold lo; trivial
theorem zLY (n : Nat) (i : Bool) : lo n (.bl i) := by unfold lo; trivial
theorem zVH (n : Nat) : lo n .non := by unfold lo; trivial
theorem zPU {n : Nat} : ∀ {ds : List MV}, (∀ d ∈ ds, lo n d) → loL n ds
  | [], _ => by unfold loL; trivial
  | d :: ds, h => by unfold loL; exact ⟨h d List.mem_cons_self, zPU fun e he => h e (List.mem_cons_of_mem _ he)⟩
theorem zIR {S T : Sto} {d : MV} (h : lo S.length d) (hn : ∀ l, d ≠ .loc l) : cL S (.val d) (S ++ T) = .ok (.val d) S := by
  unfold cL
  rw [if_pos zIQ]
  have e : (S ++ T).take S.length = S := by simp
  cases d with
  | loc l => exact absurd rfl (hn l)
  | _ => dsimp only; rw [if_pos h, e]
theorem zPV {S T : Sto} {ds : List MV} (h : loL S.length ds) : cL S (.new ds) (S ++ T) = .ok (.new ds) S := by
  unfold cL
  rw [if_pos zIQ]
  have e : (S ++ T).take S.length = S := by simp
  dsimp only
  rw [if_pos h, e]
theorem zDX {n : Nat} {F : List MV → Sto → R Er} {rs : List Er} {S T : Sto} {d : MV} (hn : rs.length = n) (hF : F (zK rs S).1 (zK rs S).2 = .ok (.val d) (S ++ T)) (h : lo S.length d) (hd : ∀ l, d ≠ .loc l) : zU n F rs S = .ok (.val d) S := by
  unfold zU
  rw [if_pos hn, hF]
  exact zIR h hd
theorem zPW {n : Nat} {F : List MV → Sto → R Er} {rs : List Er} {S T : Sto} {ds : List MV} (hn : rs.length = n) (hF : F (zK rs S).1 (zK rs S).2 = .ok (.new ds) (S ++ T)) (h : loL S.length ds) : zU n F rs S = .ok (.new ds) S := by
  unfold zU
  rw [if_pos hn, hF]
  exact zPV h
theorem xI {n : Nat} {F : List MV → Sto → R Er} {rs : List Er} {S : Sto} {d : MV} (hn : rs.length = n) (hF : F (zK rs S).1 (zK rs S).2 = .ok (.val d) S) (h : lo S.length d) (hd : ∀ l, d ≠ .loc l) : zU n F rs S = .ok (.val d) S := zDX (T := []) hn (by rw [List.append_nil]; exact hF) h hd
end M
end L2
namespace L2
namespace M
open PySem PySem.Spec PyProof.Rows
section
variable {S : Sto}
theorem as_bl (b : Bool) (S : Sto) : asB (.val (.bl b)) S = .ok b S := rfl
theorem as_int (i : Int) (S : Sto) : asI (.val (.int i)) S = .ok (some i) S := rfl
theorem zVI (b : Bool) (S : Sto) : zDI (.val (.bl b)) S = .ok b S := rfl
theorem add_int (i j : Int) (S : Sto) : wA (.val (.int i)) (.val (.int j)) S = .ok (.val (.int (i + j))) S := rfl
theorem sub_int (i j : Int) (S : Sto) : zEQ (.val (.int i)) (.val (.int j)) S = .ok (.val (.int (i - j))) S := rfl
theorem add_str {x y : List Nat} (h : x.length + y.length ≤ sizeLine) : wA (.val (.str x)) (.val (.str y)) S = .ok (.val (.str (x ++ y))) S := if_pos h
theorem zKH {p q : Er} {x y : List MV} (h1 : lsW S p = some x) (h2 : lsW S q = some y) (h : x.length + y.length ≤ sizeLine) : wA p q S = .ok (.new (x ++ y)) S := by
  have e : zLQ p q S = .ok (.new (x ++ y)) S := by
    unfold zLQ
    rw [h1, h2]
    exact if_pos h
  unfold wA
  split
  · cases h1
  · cases h1
  · cases h1
  · exact e
theorem zVJ {g : Int → Int → Bool} (i j : Int) (S : Sto) : ibF g (.val (.int i)) (.val (.int j)) S = .ok (.val (.bl (g i j))) S := rfl
theorem zSC (i j : Int) : eqV (.int i) (.int j) = decide (i = j) := by
  show (i == j) = _
  by_cases h : i = j
  · subst h; simp
  · rw [decide_eq_false h]; simpa using h
theorem zSD (x y : List Nat) : eqV (.str (mkS x)) (.str (mkS y)) = decide (x = y) := by
  show (mkS x == mkS y) = _
  by_cases h : x = y
  · subst h; simp
  · rw [decide_eq_false h]
    have : mkS x ≠ mkS y := fun z => h (zLC z)
    simpa using this
theorem zSE (n : Nat) (i j : Int) : eqv S (n + 1) (.int i) (.int j) = some (decide (i = j)) := by rw [← zSC]; rfl
theorem zCL (n : Nat) (x y : List Nat) : eqv S (n + 1) (.str x) (.str y) = some (decide (x = y)) := by rw [← zSD]; rfl
theorem zPX (n : Nat) (x y : Bool) : eqv S (n + 1) (.bl x) (.bl y) = some (x == y) := rfl
theorem zSF (d f : MV) : eqF (.val d) (.val f) S = match eqv S (zR + 1) d f with | some k => .ok (.val (.bl k)) S | none => .no := rfl
theorem zSG (d f : MV) : neF (.val d) (.val f) S = match eqv S (zR + 1) d f with | some k => .ok (.val (.bl !k)) S | none => .no := rfl
theorem zGX {d f : MV} {k : Bool} (h : eqv S (zR + 1) d f = some k) : eqF (.val d) (.val f) S = .ok (.val (.bl k)) S := by rw [zSF, h]
theorem zKI {d f : MV} {k : Bool} (h : eqv S (zR + 1) d f = some k) : neF (.val d) (.val f) S = .ok (.val (.bl !k)) S := by rw [zSG, h]
theorem eq_int (i j : Int) (S : Sto) : eqF (.val (.int i)) (.val (.int j)) S = .ok (.val (.bl (decide (i = j)))) S := zGX (zSE _ i j)
theorem eq_str (x y : List Nat) (S : Sto) : eqF (.val (.str x)) (.val (.str y)) S = .ok (.val (.bl (decide (x = y)))) S := zGX (zCL _ x y)
theorem wK {b : Int} (h : 0 < b) (h2 : b < 1073741824) (a : Int) (S : Sto) : zAO (.val (.int a)) (.val (.int b)) S = .ok (.val (.int (a / b))) S := by
  refine if_pos ⟨h, ?_⟩
  have h3 : b.natAbs < 2 ^ 30 := by omega
  have := (Nat.log2_lt (by omega : b.natAbs ≠ 0)).mpr h3
  omega
theorem mod_lit {b : Int} (h : 0 < b) (a : Int) (S : Sto) : wW (.val (.int a)) (.val (.int b)) S = .ok (.val (.int (a % b))) S := if_pos h
theorem zAS {b : Int} (h : -(2 ^ 64) < b ∧ b < 2 ^ 64) (a : Int) (S : Sto) : cS (.val (.int a)) (.val (.int b)) S = .ok (.val (.int (a * b))) S := if_pos (Or.inr (Or.inl h))
theorem zDY {a : Int} (h : -(2 ^ 64) < a ∧ a < 2 ^ 64) (b : Int) (S : Sto) : cS (.val (.int a)) (.val (.int b)) S = .ok (.val (.int (a * b))) S := if_pos (Or.inl h)
theorem zSH {a b : Int} (h : zMY a b) (S : Sto) : cR (.val (.int a)) (.val (.int b)) S = .ok (.val (.int (a ^ b.toNat))) S := if_pos h
theorem zSI (ρ : Rho) (i : Nat) (d : MV) (S : Sto) : xZ ρ i (.val d) S = .ok (.next (ρ.set i (some d))) S := rfl
theorem zSJ (ρ : Rho) (i : Nat) (ds : List MV) (S : Sto) : xZ ρ i (.new ds) S = .ok (.next (ρ.set i (some (.loc S.length)))) (S ++ [.lst ds]) := rfl
theorem zSK (S : Sto) : zK [] S = ([], S) := rfl
theorem zSL (d : MV) (rs : List Er) (S : Sto) : zK (.val d :: rs) S = (d :: (zK rs S).1, (zK rs S).2) := rfl
theorem zD {F G : Rho → Sto → R Fl} {ρ ρ' : Rho} {S S' : Sto} (h : F ρ S = .ok (.next ρ') S') : zT F G ρ S = G ρ' S' := by unfold zT; rw [h]; rfl
theorem xJ {F G : Rho → Sto → R Fl} {ρ : Rho} {S S' : Sto} {r : Er} (h : F ρ S = .ok (.ret r) S') : zT F G ρ S = .ok (.ret r) S' := by unfold zT; rw [h]; rfl
theorem nM (S : Sto) : stay [] S := kF
theorem jJ {gf : MV → Rho → Sto → R Rho} {b : Rho → Sto → R Fl} {gs : List (Nat × List MV)} {d : MV} {ds : List MV} {ρ ρ0 ρ' : Rho} {S0 S' : Sto} (hg : gf d ρ S = .ok ρ0 S0) (h : b ρ0 S0 = .ok (.next ρ') S') (hs : stay gs S') : jG gf b gs (d :: ds) ρ S = jG gf b gs ds ρ' S' := by
  conv => lhs; unfold jG
  rw [hg, bok, h, bok]
  dsimp only
  rw [if_pos hs]
theorem zAT {α : Type} {xs : List α} {i : Int} (h0 : 0 ≤ i) (h1 : i < xs.length) : ∃ c, atI xs i = some c := by
  refine ⟨xs[i.toNat]'(by omega), ?_⟩
  unfold atI ixN
  rw [if_pos h0, if_pos h1]
  exact List.getElem?_eq_getElem _
theorem zCM {α : Type} {P : α → Prop} {xs : List α} {i : Int} {e : α} (h : ∀ e ∈ xs, P e) (z : atI xs i = some e) : P e := by
  unfold atI at z
  cases q : ixN xs.length i with
  | none => rw [q] at z; cases z
  | some j => rw [q] at z; exact h e (List.mem_of_getElem? (show xs[j]? = some e from z))
theorem ix_str {x : List Nat} {i : Int} {c : Nat} (h : x.length ≤ sizeLine) (hk : atI x i = some c) : ixF (.val (.str x)) (.val (.int i)) S = .ok (.val (.str [c])) S := by
  show (if x.length ≤ sizeLine then match atI x i with | some c => R.ok (Er.val (.str [c])) S | none => .no else .no) = _
  rw [if_pos h, hk]
theorem zKJ {ds : List MV} {i : Int} {d : MV} (hk : atI ds i = some d) : ixF (.new ds) (.val (.int i)) S = .ok (.val d) S := by
  show (match atI ds i with | some d => R.ok (Er.val d) S | none => .no) = _
  rw [hk]
theorem zVK {l : Nat} {ds : List MV} {i : Int} {d : MV} (hS : S[l]? = some (.lst ds)) (hk : atI ds i = some d) : ixF (.val (.loc l)) (.val (.int i)) S = .ok (.val d) S := by
  have e : gA S (.val (.loc l)) = some ds := by unfold gA; dsimp only; rw [hS]
  show (match gA S (.val (.loc l)) with | some ds => getL ds (.val (.int i)) S | none => .no) = _
  rw [e]
  show (match atI ds i with | some d => R.ok (Er.val d) S | none => .no) = _
  rw [hk]
theorem zIS {l : Nat} {ds : List MV} (hS : S[l]? = some (.lst ds)) : gA S (.val (.loc l)) = some ds := by unfold gA; dsimp only; rw [hS]
theorem zSM {l : Nat} {ds : List MV} (hS : S[l]? = some (.lst ds)) : lsW S (.val (.loc l)) = some ds := by unfold lsW; dsimp only; rw [hS]
theorem zPY {j : Int} (h : -(2 ^ 62) ≤ j ∧ j < 2 ^ 62) : zIH [.val (.int j)] S = .ok ⟨(List.range j.toNat).map fun k => .int (k : Nat), []⟩ S := if_pos h
theorem cut_str {x : List Nat} (h : x.length ≤ sizeLine) (lo hi : Option Int) : zCC (.val (.str x)) lo hi S = .ok (.val (.str (xG x lo hi))) S := if_pos h
theorem zDZ {α : Type} (x : List α) (lo hi : Option Int) : (xG x lo hi).length ≤ x.length := by
  unfold xG
  rw [List.length_take, List.length_drop]
  omega
theorem zPZ {α β : Type} (f : α → β) (x : List α) (lo hi : Option Int) : xG (x.map f) lo hi = (xG x lo hi).map f := by
  unfold xG
  rw [List.length_map, List.map_take, List.map_drop]
theorem zSN {α : Type} (x : List α) (k : Int) (h0 : 0 ≤ k) : xG x none (some k) = x.take k.toNat := by
  unfold xG
  have h1 : HT.sIx x.length 0 none = 0 := rfl
  rw [h1]
  have h2 : HT.sIx x.length x.length (some k) = min k.toNat x.length := by
    unfold HT.sIx
    simp only
    split <;> omega
  rw [h2, List.drop_zero, Nat.sub_zero]
  by_cases hk : k.toNat ≤ x.length
  · rw [Nat.min_eq_left hk]
  · rw [Nat.min_eq_right (by omega), List.take_length, List.take_of_length_le (by omega)]
theorem fits {n : Nat} (h : n ≤ 1000000) : n ≤ sizeLine := by rw [sizeLine_eq]; exact Nat.le_trans h (by decide)
theorem dG {rs : List Er} (h : rs.length ≤ 1000000) : xH rs S = .ok (.new (zK rs S).1) (zK rs S).2 := if_pos (fits h)
theorem zGY {rs : List Er} (h : rs.length ≤ 1000000) : zIG rs S = .ok (.val (.tup (zK rs S).1)) (zK rs S).2 := if_pos (fits h)
theorem lst0 (S : Sto) : xH [] S = .ok (.new []) S := dG (by simp)
theorem lst1 (a : MV) (S : Sto) : xH [.val a] S = .ok (.new [a]) S := dG (by simp)
theorem lst2 (a b : MV) (S : Sto) : xH [.val a, .val b] S = .ok (.new [a, b]) S := dG (by simp)
theorem lst3 (a b c : MV) (S : Sto) : xH [.val a, .val b, .val c] S = .ok (.new [a, b, c]) S := dG (by simp)
theorem lst6 (a b c d e f : MV) (S : Sto) : xH [.val a, .val b, .val c, .val d, .val e, .val f] S = .ok (.new [a, b, c, d, e, f]) S := dG (by simp)
theorem tup2 (a b : MV) (S : Sto) : zIG [.val a, .val b] S = .ok (.val (.tup [a, b])) S := zGY (by simp)
theorem tup3 (a b c : MV) (S : Sto) : zIG [.val a, .val b, .val c] S = .ok (.val (.tup [a, b, c])) S := zGY (by simp)
theorem zVL (i : Int) (S : Sto) : nI [.val (.int i), .val (.typ "str")] S = .ok (.val (.bl false)) S := rfl
theorem zVM (i : List Nat) (S : Sto) : nI [.val (.str i), .val (.typ "str")] S = .ok (.val (.bl true)) S := rfl
theorem zVN (i : Int) (S : Sto) : nI [.val (.int i), .val (.typ "tuple")] S = .ok (.val (.bl false)) S := rfl
theorem zVO (i : List Nat) (S : Sto) : nI [.val (.str i), .val (.typ "tuple")] S = .ok (.val (.bl false)) S := rfl
theorem zVP (i : List MV) (S : Sto) : nI [.val (.tup i), .val (.typ "tuple")] S = .ok (.val (.bl true)) S := rfl
theorem zVQ (i : Bool) (S : Sto) : nI [.val (.bl i), .val (.typ "bool")] S = .ok (.val (.bl true)) S := rfl
theorem zIT {gf : MV → Rho → Sto → R Rho} {cf : Rho → Sto → R Bool} {ef : Rho → Sto → R Er} {ρb : Rho} {gs : List (Nat × List MV)} {F : MV → MV} (hs : stay gs S) :
    ∀ {ds : List MV}, (∀ d ∈ ds, ∃ ρ1, gf d ρb S = .ok ρ1 S ∧ cf ρ1 S = .ok true S ∧ ef ρ1 S = .ok (.val (F d)) S) → kR gf cf ef ρb gs ds S = .ok (ds.map F) S
  | [], _ => rfl
  | d :: ds, st => by
    obtain ⟨ρ1, h1, h2, h3⟩ := st d List.mem_cons_self
    have e := zIT hs (ds := ds) fun d hd => st d (List.mem_cons_of_mem _ hd)
    unfold kR
    rw [h1, nZ, bok, h2, nZ, bok, if_pos rfl, h3, nZ, bok]
    unfold zDM
    rw [bok, if_pos hs, e]
    rfl
noncomputable def Nm (x : List Nat) : Prop := 1 ≤ x.length ∧ x.length ≤ 8 ∧ ∀ c ∈ x, 97 ≤ c ∧ c ≤ 122
noncomputable def Vl : MV → Prop
  | .int i => -(10 ^ 30) < i ∧ i < 10 ^ 30
  | .str x => Nm x
  | _ => False
theorem Vl.cases {d : MV} (h : Vl d) : (∃ i, d = .int i ∧ -(10 ^ 30) < i ∧ i < 10 ^ 30) ∨ ∃ x, d = .str x ∧ Nm x := by
  cases d with
  | int i => exact .inl ⟨i, rfl, h⟩
  | str x => exact .inr ⟨x, rfl, h⟩
  | _ => exact h.elim
theorem Vl.lo {d : MV} (h : Vl d) (n : Nat) : lo n d := by
  rcases h.cases with ⟨i, rfl, _⟩ | ⟨x, rfl, _⟩
  · exact zGW n i
  · exact zBJ n x
theorem Vl.noloc {d : MV} (h : Vl d) (l : Nat) : d ≠ .loc l := fun e => by subst e; exact h.elim
end
end M
end L2
namespace L2
namespace M
open PySem PySem.Spec PyProof.Rows
noncomputable instance : DecidableEq MV := fun _ _ => Classical.propDecidable _
section
variable {X : Cx} {W : XW} {a b o i : Expr} {f g : Rho → Sto → R Er} {pos : Pos}
theorem Wd.put {gg : Gm} {α : List Addr} {S : Sto} {H : Hp} {p : Addr} {ho : HO} {m : MO} (w : Wd gg α S H) (hp : H p = none) (q : ObD gg (α ++ [p]) (upd H p ho) p m) : Ext α H (α ++ [p]) (upd H p ho) ∧ Wd gg (α ++ [p]) (S ++ [m]) (upd H p ho) := by
  have x := w.newx (o := ho) hp
  have nw := w.new (o := ho) hp
  have np := w.fresh hp
  refine ⟨⟨⟨⟨[p], rfl⟩, x.tup, x.frz⟩, fun b hb => ?_, x.keep, x.has⟩, ⟨?_, ?_, fun l c ob h1 h2 => ?_⟩⟩
  · rcases List.mem_append.mp hb with h | h
    · exact .inl h
    · rw [List.mem_singleton.mp h]; exact .inr hp
  · rw [List.length_append, List.length_append, w.len]; rfl
  · exact List.nodup_append.mpr ⟨w.nd, by simp, fun a ha c hc => by rw [List.mem_singleton.mp hc]; rintro rfl; exact np ha⟩
  · by_cases hl : l < α.length
    · rw [List.getElem?_append_left hl] at h1
      rw [List.getElem?_append_left (by rw [← w.len]; exact hl)] at h2
      exact (nw.obj l c ob h1 h2).move (Ex0.grow α [p] _) rfl
    · have hl' : l = α.length := by
        have := (List.getElem?_eq_some_iff.mp h1).1
        rw [List.length_append, List.length_singleton] at this
        omega
      subst hl'
      rw [List.getElem?_append_right (Nat.le_refl _), Nat.sub_self] at h1
      rw [List.getElem?_append_right (by rw [w.len]; exact Nat.le_refl _), w.len, Nat.sub_self] at h2
      cases h1; cases h2
      exact q
theorem DenN.length {α : List Addr} {H : Hp} : ∀ {kvs xs}, DenN X.K α H kvs xs → xs.length = kvs.length
  | _, _, .nil => rfl
  | _, _, .cons _ _ _ _ _ l => by rw [List.length_cons, List.length_cons, DenN.length l]
end
end M
end L2
namespace L2
namespace M
open PySem PySem.Spec PyProof.Rows
noncomputable def FsD (g : Gm) (α : List Addr) (H : Hp) (d : Option Addr) (fs : List (Str × MV)) : Prop := fs = [] ∨ ∃ dx gs, d = some dx ∧ H dx = some (.xd gs) ∧ DenF g.K α H fs gs
abbrev WE (g : Gm) (E : XK) : XW := fun c fs _ α H => ∀ C d, g.mg c = some (.ref C) → FsD g α H d fs → E (.ref C) d H
noncomputable def zEA : MV → Bool
  | .non => true
  | .bl _ => true
  | .int _ => true
  | .str _ => true
  | _ => false
theorem zNG {K : PySem.W.Frag} {α α' : List Addr} {H : Hp} : ∀ {d : MV} {v : V}, zEA d = true → Den K α H d v → Den K α' H d v
  | .non, _, _, q => by cases jE q; exact dY
  | .bl _, _, _, q => by cases bA q; exact yT _
  | .int _, _, _, q => by cases kJ q; exact yI _
  | .str _, _, _, q => by cases kK q; exact wI _
theorem zEB {K : PySem.W.Frag} {α α' : List Addr} {H : Hp} : ∀ {fs gs}, fs.all (fun p => zEA p.2) = true → DenF K α H fs gs → DenF K α' H fs gs
  | _, _, _, .nil => .nil
  | _, _, h, .cons a l => by
    rw [List.all_cons, Bool.and_eq_true] at h
    exact .cons (zNG h.1 a) (zEB h.2 l)
theorem Post.wmono {β τ : Type} [Dn β τ] {g : Gm} {W W' : XW} {α : List Addr} {H : Hp} (f : ∀ c fs S α' H', W c fs S α' H' → W' c fs S α' H') : ∀ {m : R β} {Q : τ → Hp → Prop}, Post g W α H m Q → Post g W' α H m Q
  | .ok b S, Q, q => q
  | .exc c fs S, _, q => fun α' H' x w => f _ _ _ _ _ (q α' H' x w)
  | .no, _, q => q
noncomputable def XCl (K : PySem.W.Frag) (C : Addr) (bm : List Value) (init : Option Value) : Prop :=
  ∃ nm q N bs hd sn sub ab col dd k0 k1 k2 k3 k5, K.lookup C = some (excClassObj nm q C N bs bm hd sn sub ab col dd k0 k1 k2 k3 k5 "ValueError.__new__") ∧ PySem.W.nsOkIn K N = true ∧ PySem.W.nsIn K N "__init__" = some init ∧ ∀ n ∈ qn, PySem.W.nsIn K N n = some none
noncomputable def XEach (K : PySem.W.Frag) (mg : Str → Option Value) (M : Addr) : List (Str × Addr) → Prop
  | [] => True
  | (c, C) :: r => (mg c = some (.ref C) ∧ ∃ i, XCl K C (.ref M :: bmV) i) ∧ XEach K mg M r
structure XTab (K : PySem.W.Frag) (mg : Str → Option Value) (M : Addr) (cs : List (Str × Addr)) : Prop where
  m : mg "MendError" = some (.ref M)
  mc : XCl K M bmV none
  each : XEach K mg M cs
  nd : (M :: cs.map (·.2)).Nodup
theorem XEach.at {K : PySem.W.Frag} {mg : Str → Option Value} {M : Addr} : ∀ {cs : List (Str × Addr)}, XEach K mg M cs → ∀ {c C}, (c, C) ∈ cs → mg c = some (.ref C) ∧ ∃ i, XCl K C (.ref M :: bmV) i
  | (c, C) :: r, h, c', C', z => by
    rcases List.mem_cons.mp z with z | z
    · cases z; exact h.1
    · exact XEach.at h.2 z
theorem zGZ {K : PySem.W.Frag} {h : Heap} {C M : Addr} {i : Option Value} (X : K.In h) (c : XCl K C (.ref M :: bmV) i) (m : XCl K M bmV none) : zBD h C M := by
  obtain ⟨_, _, N, _, _, _, _, _, _, _, _, _, _, _, _, l, o, _, q⟩ := c
  obtain ⟨_, _, N', _, _, _, _, _, _, _, _, _, _, _, _, l', o', _, q'⟩ := m
  exact ⟨_, _, _, _, _, _, _, _, _, _, _, _, _, _, _, _, _, X _ _ l, .of_isNs (PySem.W.isNs_of_in X o), fun n hn => PySem.W.nsMap_none_of_in X o (q n hn),
    _, _, _, _, _, _, _, _, _, _, _, _, _, _, _, _, _, X _ _ l', .of_isNs (PySem.W.isNs_of_in X o'), fun n hn => PySem.W.nsMap_none_of_in X o' (q' n hn)⟩
section
variable {X : Cx} {E : XK} {e : Expr} {es : List Expr} {af : Rho → Sto → R (List Er)} {pos np cpos : Pos} {x : Str} {C M : Addr}
theorem zFR (hx : XOk X E) (hg : Gl X x) (hm : X.mg x = some (.ref C)) (hc : XCl X.K C (.ref M :: bmV) none) (hM : XCl X.K M bmV none) (ha : PAm X (WE X.g E) (e :: es) af) (hex : X.ex = [] := by rfl) (hcalm : X.calm = true := by rfl)
    (hd : (x == ("__debug__" : Str)) = false := by decide) (he : starEach (e :: es) X.env = (false, eval e X.env) :: starEach es X.env := by rfl) (hpl : (backTo cpos (starEach es X.env)).any (·.1) = false := by rfl) :
    PSm X (WE X.g E) (.Raise (some (.Call (.Name x np) (e :: es) [] cpos)) none pos) (fun ρ S => (af ρ S).bind fun rs S1 => if rs.length ≤ 10 then .exc x [] S1 else .no) := by
  obtain ⟨ta, ha, fa⟩ := ha
  refine ⟨fun D σ H => ta σ H fun vs H1 => vs.length ≤ 10 ∧ E (.ref C) none H1, fun pins s σ H D I h => ?_, fun α ρ S σ H D wd sl q => fa α ρ S σ H _ wd sl (q.expr fun vs rs S1 α1 H1 e1 x1 w1 d1 q1 => ?_)⟩
  · obtain ⟨nm, q, N, bs, hdt, sn, sub, ab, col, dd, k0, k1, k2, k3, k5, lC, oN, iN, _⟩ := hc
    obtain ⟨_, _, N', _, _, _, _, _, _, _, _, _, _, _, _, lM, oM, iM, _⟩ := hM
    have XB := I.mod.kin
    have hN := Heap.Ns.of_isNs (PySem.W.isNs_of_in XB oN)
    have hni := PySem.W.nsMap_none_of_in XB oN iN
    have T : OwnTail X.base bmV (.ref M :: bmV) := .own (XB _ _ lM) (.of_isNs (PySem.W.isNs_of_in XB oM)) (PySem.W.nsMap_none_of_in XB oM iM) .base
    refine wpAny_Raise_call_subT (C := C) (nm := nm) (q := q) (N := N) (bs := bs) (bm := .ref M :: bmV) (hdct := hdt) (sn := sn) (sub := sub) (ab := ab) (col := col) (dd := dd) (k0 := k0) (k1 := k1) (k2 := k2) (k3 := k3) (k5 := k5)
      F.excBase_ValueError (T.hasType F.excBase_ValueError.hasBase) (I.ok.hd hcalm) (by rw [he]; exact hpl) hni (zAF I hg hm ⟨rfl, ?_⟩ hd)
    have hr := ha cpos pins s σ H _ I h
    rw [he] at hr ⊢
    refine Calls.evalArgs_plain (thn hr fun us s1 ⟨vs, H1, I1, r1, hl, hE⟩ => ⟨rfl, by rw [← r1.length]; exact Nat.le_trans hl (by decide), I1.bk _ _ (XB _ _ lC), hN.keeps I1.bk, T.keeps I1.bk, fun h' a mk => ?_⟩)
    obtain ⟨t, ht, _, _⟩ := mk.there
    exact hx.born pins σ H1 _ a C none (I1.kept (t' := s1.toks) mk.keeps) ⟨_, _, ht, rfl, rfl, rfl, rfl⟩ (I1.older hex mk.new) (I1.hok.none_of mk.new) hE
  · split at q1
    · rename_i hl
      exact ⟨by rw [ArgsE.length d1]; exact hl, q1 α1 H1 x1 w1 C none hm (.inl rfl)⟩
    · exact q1.elim
end
section
variable {X : Cx} {W : XW} {a : Expr} {f : Rho → Sto → R Er} {pos p p2 : Pos} {M : Addr} {cs : List (Str × Addr)} {c2 : Str} {D : Addr}
noncomputable def dH (ns : List Str) (c2 : Str) : Er → Sto → R Er
  | .val (.loc l), S => match S[l]? with
    | some (.ins c _) => if c ∈ ns then .ok (.val (.bl (decide (c = c2)))) S else .no
    | _ => .no
  | _, _ => .no
noncomputable def zNH (ns : List Str) : Er → Sto → R Er
  | .val (.loc l), S => match S[l]? with
    | some (.ins c _) => if c ∈ ns then .ok (.val (.bl true)) S else .no
    | _ => .no
  | _, _ => .no
noncomputable def IsX (X : Cx) (M : Addr) (H : Hp) (x : V) (C : Addr) : Prop := ∃ aa oe, x = .ref aa ∧ H aa = some (.ext fun h => h.get? aa = some oe) ∧ oe.cls = .ref C ∧ (∃ i, XCl X.K C (.ref M :: bmV) i) ∧ XCl X.K M bmV none
theorem zQA : CallR X (.builtin "isinstance") (fun xs H Q => ∃ x C D, xs = [x, .ref D] ∧ IsX X M H x C ∧ (C = D ∨ (C ≠ D ∧ M ≠ D ∧ ∃ bm i, XCl X.K D bm i)) ∧ Q (.bl (decide (C = D))) H) := by
  intro pins s σ H xs us Q I r h
  obtain ⟨_, C, D, rfl, ⟨aa, oe, rfl, hH, hc, ⟨i, cC⟩, cM⟩, hD, q⟩ := h
  obtain ⟨u1, us, r1, ⟨u2, _, r2, r3, rfl⟩, rfl⟩ : ∃ u1 us', RelV (.ref aa) u1 ∧ (∃ u2 us'', RelV (.ref D) u2 ∧ Vals [] us'' ∧ us' = u2 :: us'') ∧ us = u1 :: us' := by
    cases r with
    | cons r1 r => cases r with
      | cons r2 r => exact ⟨_, _, r1, ⟨_, _, r2, r, rfl⟩, rfl⟩
  cases r1; cases r2; cases r3
  have ha : s.heap.get? aa = some oe := (I.hok aa _ hH).1
  have O := zGZ I.kIn cC cM
  obtain ⟨hp, g, d, tk, os⟩ := s
  rcases hD with rfl | ⟨n1, n2, bm, i2, cD⟩
  · refine PyProof.Rows.call_isinstance_of (zMU ha hc ⟨.bl true, H, I, rfl, ?_⟩)
    simpa using q
  · obtain ⟨_, _, _, _, _, _, _, _, _, _, _, _, _, _, _, lD, _⟩ := cD
    obtain ⟨oC, hC, hCc, hCd⟩ := zOO O
    refine PyProof.Rows.call_isinstance_of (zRJ O ha hc (I.kIn _ _ lD) hC hCc hCd ?_ ⟨.bl false, H, I.tok _, rfl, ?_⟩)
    · simp only [List.contains_cons, List.contains_nil, Bool.or_eq_false_iff, beq_eq_false_iff_ne]
      exact ⟨fun z => n1 (by cases z; rfl), fun z => n2 (by cases z; rfl), by simp, by simp, by simp, by simp, trivial⟩
    · simpa [n1] using q
theorem zQB : CallR X (.builtin "isinstance") (fun xs H Q => ∃ x C, xs = [x, .ty "ValueError"] ∧ IsX X M H x C ∧ Q (.bl true) H) := by
  intro pins s σ H xs us Q I r h
  obtain ⟨_, C, rfl, ⟨aa, oe, rfl, hH, hc, ⟨i, cC⟩, cM⟩, q⟩ := h
  obtain ⟨u1, us, r1, ⟨u2, _, r2, r3, rfl⟩, rfl⟩ : ∃ u1 us', RelV (.ref aa) u1 ∧ (∃ u2 us'', RelV (.ty "ValueError") u2 ∧ Vals [] us'' ∧ us' = u2 :: us'') ∧ us = u1 :: us' := by
    cases r with
    | cons r1 r => cases r with
      | cons r2 r => exact ⟨_, _, r1, ⟨_, _, r2, r, rfl⟩, rfl⟩
  cases r1; cases r2; cases r3
  have ha : s.heap.get? aa = some oe := (I.hok aa _ hH).1
  have O := zGZ I.kIn cC cM
  obtain ⟨hp, g, d, tk, os⟩ := s
  exact PyProof.Rows.call_isinstance_of (zRK O ha hc (by kernel_rfl) (by simp [List.contains_cons]) ⟨.bl true, H, I, rfl, q⟩)
theorem zLZ {α : List Addr} {S : Sto} {H : Hp} {r : Er} {x : V} (T : XTab X.K X.mg M cs) (wd : Wd X.g α S H) (d : DenX X.K α H r x) {l : Nat} {c : Str} {fs : List (Str × MV)} (e : r = .val (.loc l)) (hl : S[l]? = some (.ins c fs)) (hc : c ∈ cs.map (·.1)) :
    ∃ C, (c, C) ∈ cs ∧ IsX X M H x C := by
  subst e
  obtain ⟨aa, rfl, h⟩ := zBE d
  obtain ⟨o, h1, C, gs, hm, hf, oe, hH, hcl, _⟩ : ∃ o, S[l]? = some o ∧ ObD X.g α H aa (.ins c fs) := ⟨_, hl, wd.obj l aa _ h hl⟩
  obtain ⟨⟨c', C'⟩, hm', rfl⟩ := List.mem_map.mp hc
  obtain ⟨q1, q2⟩ := T.each.at hm'
  have : C = C' := by
    have z : X.mg c' = some (.ref C) := hm
    rw [q1] at z; cases z; rfl
  subst this
  exact ⟨C, hm', aa, oe, rfl, hH, hcl, q2, T.mc⟩
theorem XTab.inj {K : PySem.W.Frag} {mg : Str → Option Value} (T : XTab K mg M cs) {c c' : Str} {C C' : Addr} (h : (c, C) ∈ cs) (h' : (c', C') ∈ cs) (hn : (cs.map (·.1)).Nodup) : (C = C' ↔ c = c') := by
  constructor
  · rintro rfl
    have nd := (List.nodup_cons.mp T.nd).2
    have : ∀ (l : List (Str × Addr)), (l.map (·.2)).Nodup → (c, C) ∈ l → (c', C) ∈ l → c = c' := by
      intro l
      induction l with
      | nil => intro _ z; simp at z
      | cons y r ih =>
        intro nd a b
        rw [List.map_cons, List.nodup_cons] at nd
        rcases List.mem_cons.mp a with a1 | a1 <;> rcases List.mem_cons.mp b with b1 | b1
        · rw [← b1] at a1; cases a1; rfl
        · exact absurd (show y.2 ∈ r.map (·.2) from by rw [← a1]; exact List.mem_map.mpr ⟨(c', C), b1, rfl⟩) nd.1
        · exact absurd (show y.2 ∈ r.map (·.2) from by rw [← b1]; exact List.mem_map.mpr ⟨(c, C), a1, rfl⟩) nd.1
        · exact ih nd.2 a1 b1
    exact this cs nd h h'
  · rintro rfl
    have a := (T.each.at h).1
    rw [(T.each.at h').1] at a; cases a; rfl
theorem kN {ns : List Str} (T : XTab X.K X.mg M cs) (hn : (cs.map (·.1)).Nodup) (hD : (c2, D) ∈ cs) (hz : X.mg "isinstance" = none) (hg : Gl X "isinstance") (hg2 : Gl X c2) (ha : PEm X W a f) (hns : cs.map (·.1) = ns := by rfl) (hd : (c2 == ("__debug__" : Str)) = false := by decide)
    (he : starEach [a, .Name c2 p2] X.env = (false, eval a X.env) :: starEach [.Name c2 p2] X.env := by rfl) (hp2 : (backTo pos (starEach [.Name c2 p2] X.env)).any (·.1) = false := by rfl) :
    PEm X W (.Call (.Name "isinstance" p) [a, .Name c2 p2] [] pos) (fun ρ S => (f ρ S).bind (dH ns c2)) := by
  subst hns
  obtain ⟨ta, ha, fa⟩ := ha
  have mD := (T.each.at hD).1
  refine ⟨_, zCU (zQA (M := M)) hg hz PyProof.Rows.boot_isinstance (zAG ha (zAG (zFY (v := .ref D) hg2 mD rfl hd) zJP) he) (by decide) (by decide) he hp2, fun α ρ S σ H Q wd sl q => fa α ρ S σ H _ wd sl (q.bind fun u r S1 α1 H1 e1 x1 w1 d1 q1 => ?_)⟩
  replace q1 := q1.shift x1
  unfold dH at q1
  split at q1
  · rename_i l
    split at q1
    · rename_i c fs hl
      split at q1
      · rename_i hc
        obtain ⟨C, hC, ix⟩ := zLZ T w1 d1.1 rfl hl hc
        refine ⟨u, C, D, rfl, ix, ?_, ?_⟩
        · by_cases z : C = D
          · exact .inl z
          · exact .inr ⟨z, fun y => (List.nodup_cons.mp T.nd).1 (by rw [y]; exact List.mem_map.mpr ⟨_, hD, rfl⟩), _, (T.each.at hD).2⟩
        · have e2 : decide (C = D) = decide (c = c2) := decide_eq_decide.mpr (T.inj hC hD hn)
          rw [e2]
          exact Post.val q1 w1 (yT _)
      · exact q1.elim
    · exact q1.elim
  · exact q1.elim
theorem zVR {ns : List Str} (T : XTab X.K X.mg M cs) (hz : X.mg "isinstance" = none) (hz2 : X.mg "ValueError" = none) (hg : Gl X "isinstance") (hg2 : Gl X "ValueError") (ha : PEm X W a f) (hns : cs.map (·.1) = ns := by rfl)
    (he : starEach [a, .Name "ValueError" p2] X.env = (false, eval a X.env) :: starEach [.Name "ValueError" p2] X.env := by rfl) (hp2 : (backTo pos (starEach [.Name "ValueError" p2] X.env)).any (·.1) = false := by rfl) :
    PEm X W (.Call (.Name "isinstance" p) [a, .Name "ValueError" p2] [] pos) (fun ρ S => (f ρ S).bind (zNH ns)) := by
  subst hns
  obtain ⟨ta, ha, fa⟩ := ha
  refine ⟨_, zCU (zQB (M := M)) hg hz PyProof.Rows.boot_isinstance (zAG ha (zAG (zKX (v := .ty "ValueError") hg2 hz2 (by decide +kernel) rfl (by decide) (by decide)) zJP) he) (by decide) (by decide) he hp2, fun α ρ S σ H Q wd sl q => fa α ρ S σ H _ wd sl (q.bind fun u r S1 α1 H1 e1 x1 w1 d1 q1 => ?_)⟩
  replace q1 := q1.shift x1
  unfold zNH at q1
  split at q1
  · rename_i l
    split at q1
    · rename_i c fs hl
      split at q1
      · rename_i hc
        obtain ⟨C, hC, ix⟩ := zLZ T w1 d1.1 rfl hl hc
        exact ⟨u, C, rfl, ix, Post.val q1 w1 (yT _)⟩
      · exact q1.elim
    · exact q1.elim
  · exact q1.elim
end
noncomputable def spX (g : Gm) (n : Nat) (F : List MV → Sto → R Er) : Sp := fun vs H Q E => ∃ α S ds, Wd g α S H ∧ DenL g.K α H ds vs ∧ ds.length = n ∧ Post g (WE g E) α H (F ds S) Q
noncomputable def zAU (n : Nat) (F : List MV → Sto → R Er) (rs : List Er) (S : Sto) : R Er := if rs.length = n then (match F (zK rs S).1 (zK rs S).2 with
  | .ok r S2 => cL S r S2
  | .exc c fs S2 => if fs.all (fun p => zEA p.2) = true then (cL S (.val .non) S2).bind fun _ S3 => .exc c fs S3 else .no
  | .no => .no) else .no
section
variable {X : Cx} {E : XK} {e : Expr} {es : List Expr} {af : Rho → Sto → R (List Er)} {pos : Pos}
theorem zKK {n : Nat} {F : List MV → Sto → R Er} {rs : List Er} {vs : List V} {α α1 : List Addr} {H H1 : Hp} {S1 : Sto} {Q : VK} (x1 : Ext α H α1 H1) (w1 : Wd X.g α1 S1 H1) (d1 : ArgsE X.K H α1 H1 rs vs) (q : Post X.g (WE X.g E) α H (zAU n F rs S1) Q) :
    spX X.g n F vs H1 Q E := by
  unfold zAU at q
  split at q
  · rename_i hl
    obtain ⟨α2, x2, y2, w2, l2⟩ := bB w1 x1 d1
    refine ⟨α2, _, _, w2, l2, by rw [nB]; exact hl, ?_⟩
    cases z : F (zK rs S1).1 (zK rs S1).2 with
    | ok r S3 =>
      rw [z] at q
      intro v α3 H3 x3 w3 d3
      obtain ⟨r', S', α', e', x', w', d'⟩ := zGO x1 w1 y2.pre x2 x3 w3 d3
      have q : Post X.g (WE X.g E) α H (cL S1 r S3) Q := q
      rw [e'] at q
      exact q v α' H3 x' w' d'
    | exc c fs S3 =>
      rw [z] at q
      dsimp only at q
      split at q
      · rename_i hp
        intro α3 H3 x3 w3 C d hC hf
        obtain ⟨r', S', α', e', x', w', d'⟩ := zGO (r := .val .non) (v := .non) x1 w1 y2.pre x2 x3 w3 (DenE.val dY)
        rw [e'] at q
        exact q α' H3 x' w' C d hC (hf.imp id fun ⟨dx, gs, h1, h2, h3⟩ => ⟨dx, gs, h1, h2, zEB hp h3⟩)
      · exact q.elim
    | no => rw [z] at q; exact q.elim
  · exact q.elim
end
section
variable {P : Program} {w : World} {K : PySem.W.Frag} {mg : Str → Option Value} {base : Heap}
theorem okX {x qual : Str} {st : Stmt} {f : Addr} {fd : FuncData} {N ps : List Str} {k : Nat} (Fb : Rho → Sto → R Fl) (F : Fun K x qual st f fd) (Sc : FnScope N ps (zG st))
    (hbody : ∀ (cdv : Value) (A : Around) (outer : List Env) (s : Shared) (H : Hp) (E : XK), Room k (A.deeper (envOfC qual (zG st) s.heap.objs.size f cdv)) →
      zDK (zGC (CXe P w) P w K mg base N qual (zG st) f cdv A outer s H E) (WE ⟨K, mg, P, w⟩ E) (zV st) Fb) :
    FnOk P w K mg base (CXe P w) (k + 1) f fd ps (spX ⟨K, mg, P, w⟩ ps.length fun ds S => kU (Fb (yC N ds) S)) := by
  obtain ⟨oc, od, kV, doc, pm, an, cdv, ct, osl, rfl, lk, hcd⟩ := F.ex
  refine zSW lk hcd Sc (fun vs H Q E h => ?_) fun A outer s H vs Q E hr h => ?_
  · obtain ⟨α, S, ds, _, l, hl, _⟩ := h
    rw [l.length, hl]
  · obtain ⟨α, S, ds, wd, l, hl, q⟩ := h
    obtain ⟨t, ht, kk⟩ := hbody cdv A outer s H E hr
    refine ⟨t, ht, kk α (yC N ds) S (start N vs) H _ wd (zBW l) ?_⟩
    dsimp only at q
    cases z : Fb (yC N ds) S with
    | ok fl S' =>
      rw [z] at q
      cases fl with
      | next ρ => exact fun σ α' H' x' w' s' => q .non α' H' x' w' (DenE.val dY)
      | ret r => exact fun v α' H' x' w' d' => q v α' H' x' w' d'
      | brk ρ => exact q.elim
      | cont ρ => exact q.elim
    | exc c fs S' => rw [z] at q; exact fun α' H' x' w' => q α' H' x' w'
    | no => rw [z] at q; exact q
theorem _root_.L2.FnOk.noX {k n : Nat} {f : Addr} {fd : FuncData} {ps : List Str} {g : Gm} {F : List MV → Sto → R Er} (G : FnOk P w K mg base (CXe P w) k f fd ps (spX g n F)) : FnOk P w K mg base CX0 k f fd ps (spM g n F) := by
  have up : ∀ {vs H Q}, ∀ {E}, spM g n F vs H Q E → spX g n F vs H Q E0 := fun ⟨α, S, ds, h1, h2, h3, h4⟩ => ⟨α, S, ds, h1, h2, h3, h4.wmono fun _ _ _ _ _ z => z.elim⟩
  refine ⟨fun vs H Q E h => G.len vs H Q E0 (up h), fun A outer s H args us vs Q E hr e0 hb hv h => codeAny_mono (G.run A outer s H args us vs Q E0 hr e0 hb hv (up h)) fun r s' hq => ?_⟩
  cases r with
  | error e =>
    obtain ⟨_, _, _, _, _, _, _, _, _, _, _, _, _, _, _, z⟩ := hq
    exact z
  | ok fl => cases fl <;> exact hq
end
end M
end L2
namespace L2
open PySem PySem.Spec PyProof.Rows
structure Out (X : Cx) (pins : List (Addr × Obj)) (H : Hp) (s : Shared) (b : Addr) : Prop where
  s0 : X.s₀.heap.get? b = none
  h : H b = none
  pin : ∀ p ∈ X.pn ++ pins, p.1 ≠ b
  fld : ∃ o vs, s.heap.get? b = some o ∧ o.data = .fields vs
section
variable {X : Cx} {pins : List (Addr × Obj)} {σ : St} {H : Hp} {s : Shared} {e T b : Addr} {h' : Heap}
theorem Out.ne (o : Out X pins H s b) {c : Addr} {oc : Obj} (hc : s.heap.get? c = some oc) (nf : ∀ vs, oc.data ≠ .fields vs) : c ≠ b := fun z => by
  obtain ⟨ob, vs, h1, h2⟩ := o.fld
  rw [z, h1] at hc; cases hc
  exact nf vs h2
theorem Out.loc (o : Out X pins H s b) (I : Inv X pins σ H s) : X.env.locals ≠ b := by
  obtain ⟨m, ⟨oL, es, ep, h1, h2, _⟩, _⟩ := I.loc
  exact o.ne h1 fun vs z => by rw [h2] at z; cases z
theorem Out.cell (o : Out X pins H s b) (I : Inv X pins σ H s) {x : Str} {c : Addr} (hc : X.env.cells.lookup x = some c) : c ≠ b := by
  obtain ⟨v, oc, h1, h2⟩ := I.cell x c hc
  exact o.ne h1 fun vs z => by rw [h2] at z; cases z
theorem Inv.mvd (J : Inv X pins σ H s) (hex : X.ex = []) (m : Mvd (frs X.stack) e T s.heap h') (oe : Out X pins H s e) (oT : Out X pins H s T) : Inv X pins σ H { s with heap := h' } := by
  obtain ⟨u, hok⟩ := J.moved hex m oe.s0 oT.s0 oe.h oT.h
  have ns : ∀ mm, s.heap.Ns X.env.locals mm → h'.Ns X.env.locals mm := fun mm hn => by
    obtain ⟨o, es, ep, ho, r⟩ := hn
    obtain ⟨sl, e1⟩ := m.slot _ o (oe.loc J) (oT.loc J) ho
    exact ⟨_, es, ep, e1, r⟩
  have cell : ∀ x c, X.env.cells.lookup x = some c → ∀ v, s.heap.IsCell c v → h'.IsCell c v := fun x c hc v hv => by
    obtain ⟨o, ho, hd⟩ := hv
    obtain ⟨sl, e1⟩ := m.slot c o (oe.cell J hc) (oT.cell J hc) ho
    exact ⟨_, e1, hd⟩
  refine ⟨J.ok, J.os, J.bare, by rw [hex]; exact u, ?_, fun x c hc => ?_, J.free, J.freeC, fun p hp => ?_, hok, J.len⟩
  · obtain ⟨mm, hn, hl⟩ := J.loc
    refine ⟨mm, ns mm hn, fun i x v e1 e2 e3 => ?_⟩
    obtain ⟨u, r, l⟩ := hl i x v e1 e2 e3
    exact ⟨u, r, l.imp id fun ⟨k, c, hc, z⟩ => ⟨k, c, hc, cell x c hc _ z⟩⟩
  · obtain ⟨v, z⟩ := J.cell x c hc
    exact ⟨v, cell x c hc v z⟩
  · obtain ⟨e1, n, ne, nf, dd⟩ := J.pin p hp
    refine ⟨m.keep p.1 p.2 (oe.pin p hp) (oT.pin p hp) (fun z => ?_) e1, n, ne, nf, dd⟩
    rcases List.mem_cons.mp (J.stkSub _ z) with z | z
    · exact ne z
    · exact nf z
theorem Inv.track {ob : Obj} (J : Inv X pins σ H s) (o : Out X pins H s e) (he : s.heap.get? e = some ob) : Inv X pins σ (upd H e (.ext fun h => h.get? e = some ob)) s := by
  refine ⟨J.ok, J.os, J.bare, ⟨J.base.keep, J.base.slot, fun b ob' q n hx => ?_, J.base.there, fun b xs q => ?_, fun b o' u q => ?_, fun b ps q => ?_⟩, J.loc, J.cell, ?_, fun x c hc => ?_, fun p hp => ?_, fun b u q => ?_, J.len⟩
  · rw [zP fun z => by rw [z, o.s0] at q; cases q]
    exact J.base.free b ob' q n hx
  · rw [zP (zN (J.base.tups b xs q) o.h)]; exact J.base.tups b xs q
  · rw [zP (zN (J.base.frzs b o' u q) o.h)]; exact J.base.frzs b o' u q
  · obtain ⟨mo, z⟩ := J.base.tbls b ps q
    exact ⟨mo, by rw [zP (zN z o.h)]; exact z⟩
  · rw [zP (o.loc J)]; exact J.free
  · rw [zP (o.cell J hc)]; exact J.freeC x c hc
  · obtain ⟨e1, n, ne, nf, dd⟩ := J.pin p hp
    exact ⟨e1, by rw [zP (o.pin p hp)]; exact n, ne, nf, dd⟩
  · by_cases z : b = e
    · subst z
      rw [jD] at q
      cases q
      exact ⟨he, ⟨ob, he⟩, fun h1 h2 p k => k _ p⟩
    · rw [zP z] at q
      exact (J.hok b u q).stay (fun _ _ _ r => r) (fun c r => by rw [zP (zN r o.h)]; exact r) fun c xs r => by rw [zP (zN r o.h)]; exact r
abbrev Cx.inH (X : Cx) (v : Value) : Cx := { X with A := X.A.mark (some v), calm := false, xe := fun _ _ => False }
theorem Cx.Ok.inH (ok : X.Ok) (v : Value) : (X.inH v).Ok := ⟨ok.mod, ok.kind, ok.glob, ok.blt, ok.above, ok.inj, ok.has, ok.cab, fun z => (by cases z), ok.frames, ok.stk, ok.exf, ok.bs, ok.bsz, ok.noex, ok.exfs, ok.funs, ok.frf⟩
theorem Inv.inH (I : Inv X pins σ H s) (v : Value) : Inv (X.inH v) pins σ H s := ⟨I.ok.inH v, I.os, I.bare, I.base, I.loc, I.cell, I.free, I.freeC, I.pin, I.hok, I.len⟩
theorem Inv.outH {v : Value} (ok : X.Ok) (I : Inv (X.inH v) pins σ H s) : Inv X pins σ H s := ⟨ok, I.os, I.bare, I.base, I.loc, I.cell, I.free, I.freeC, I.pin, I.hok, I.len⟩
theorem name_goes {M : Model} {A : Around} {E : Value → Shared → Prop} {i : Nat} {x : Str} {pos : Pos} {Q : Unit → Shared → Prop} (I : Inv X pins σ H s) (hN : X.N.Nodup) (hi : X.N[i]? = some x) (hk : X.env.kindOf x = some .local)
    (h : ∀ s', Inv X pins (σ.set i none) H s' → Q () s') : wpAny M A (do bindName X.env x .none; unbindBehindTheSuite X.env x pos) Q E s := by
  obtain ⟨m, hn, hl⟩ := id I.loc
  have hcls : (X.env.scope.kind == .class || (X.env.scope.kind == .module && X.env.locals != X.env.globals)) = false := by rw [I.ok.kind]; rfl
  refine wpAny_nameGoes_keeps hk hn hcls fun h' v hn' hs => h _ ?_
  have keep : ∀ b o, b ≠ X.env.locals → s.heap.get? b = some o → h'.get? b = some o := fun b o z q => (hs.2 b z).trans q
  have neL : ∀ b o, X.s₀.heap.get? b = some o → b ≠ X.env.locals := fun b o e => Nat.ne_of_lt (Nat.lt_of_lt_of_le (Heap.lt_size e) I.ok.above)
  obtain ⟨oL', _, _, hL', _⟩ := id hn'
  have there : ∀ b o, s.heap.get? b = some o → ∃ o', h'.get? b = some o' := fun b o q => by
    by_cases z : b = X.env.locals
    · rw [z]; exact ⟨_, hL'⟩
    · exact ⟨o, keep b o z q⟩
  refine ⟨I.ok, I.os, I.bare, ⟨fun b o e n hb hx => keep b o (neL b o e) (I.base.keep b o e n hb hx), fun b o e n hb hx => ?_, I.base.free, fun b o e hx => ?_, I.base.tups, I.base.frzs, I.base.tbls⟩, ⟨_, hn', fun j y v' e1 e2 e3 => ?_⟩, fun y c e => ?_, I.free, I.freeC, fun p hp => ?_, fun b u q => ?_, by rw [List.length_set]; exact I.len⟩
  · obtain ⟨sl, e1⟩ := I.base.slot b o e n hb hx
    exact ⟨sl, keep b _ (neL b o e) e1⟩
  · obtain ⟨o', e1⟩ := I.base.there b o e hx
    exact there b o' e1
  · have hj : j ≠ i := fun z => by
      subst z
      by_cases hl : j < σ.length
      · rw [List.getElem?_set_self hl] at e2; cases e2
      · rw [List.getElem?_eq_none (by rw [List.length_set]; omega)] at e2; cases e2
    rw [List.getElem?_set_ne (Ne.symm hj)] at e2
    obtain ⟨u, r, q⟩ := hl j y v' e1 e2 e3
    refine ⟨u, r, ?_⟩
    have hy : y ≠ x := fun z => hj (zCQ hN e1 (z ▸ hi))
    rcases q with ⟨k, q⟩ | ⟨k, c, e, z⟩
    · exact .inl ⟨k, by simp [hy, q]⟩
    · exact .inr ⟨k, c, e, z.sameBut hs (I.cne y c e)⟩
  · obtain ⟨w', z⟩ := I.cell y c e
    exact ⟨w', z.sameBut hs (I.cne y c e)⟩
  · obtain ⟨e, n, ne, nf, dd⟩ := I.pin p hp
    exact ⟨keep p.1 p.2 ne e, n, ne, nf, dd⟩
  · refine (I.hok b u q).stay (fun c w' hc r => keep c w' (fun z => ?_) r) (fun _ q => q) fun _ _ q => q
    have : ∃ y, H c = some y := by
      rcases hc with rfl | hc
      · exact ⟨_, q⟩
      · exact ⟨_, hc⟩
    obtain ⟨y, hy⟩ := this
    rw [z, I.free] at hy; cases hy
end
theorem tc_nt : isSubtype (.type "type") (.type "tuple") = pure false := by rw [isSubtype_type]; kernel_rfl
theorem zKL {Mo : Model} {A : Around} {E : Value → Shared → Prop} {h : Heap} {g : Array GenState} {d : Drawn} {t : Nat} {os : OsState} {C M e : Addr} {oe : Obj} {Q : Bool → Shared → Prop} (O : zBD h C M) (he : h.get? e = some oe) (hc : oe.cls = .ref C)
    (hq : Q true ⟨h, g, d, t, os⟩) : wpAny Mo A (excMatches (.ref e) (.ref M)) Q E ⟨h, g, d, t, os⟩ := by
  have hb : (Value.ref C :: .ref M :: bmV).contains (.ref M) = true := by simp [List.contains_cons]
  have f := tc_nt
  have O' := O
  obtain ⟨_, _, _, _, _, _, _, _, _, _, _, _, _, _, _, _, _, _, _, _, _, _, _, _, _, _, _, _, _, _, _, _, _, _, _, _, _, hM, _⟩ := O
  have hm : (Value.ref M :: bmV).contains (.type "BaseException") = true := by simp [List.contains_cons]
  unfold excMatches
  repeat (first | (with_reducible refine wpAny_loadPart_at he ?_; rw [hc]) | with_reducible refine wpAny_loadPart_at hM ?_ | (with_reducible refine cY O' ?_; rw [hb]) | (with_reducible refine wpAny_isSubtype_exc hM ?_; rw [hm]) | wp_step)
  exact hq
end L2
namespace L2
namespace M
open PySem PySem.Spec PyProof.Rows
theorem Slots.unset {K : PySem.W.Frag} {α : List Addr} {H : Hp} {ρ : Rho} {σ : St} (q : Slots K α H ρ σ) (i : Nat) : Slots K α H (ρ.set i none) (σ.set i none) := by
  refine ⟨by rw [List.length_set, List.length_set]; exact q.len, fun j d e => ?_⟩
  rcases zLG e with ⟨_, z, _⟩ | ⟨hj, e'⟩
  · cases z
  · obtain ⟨v, h1, h2⟩ := q.slot j d e'
    exact ⟨v, by rw [List.getElem?_set_ne (Ne.symm hj)]; exact h1, h2⟩
noncomputable def endF (i : Nat) : Fl → Sto → R Fl
  | .next ρ, S => .ok (.next (ρ.set i none)) S
  | .ret r, S => .ok (.ret r) S
  | .brk ρ, S => .ok (.brk (ρ.set i none)) S
  | .cont ρ, S => .ok (.cont (ρ.set i none)) S
noncomputable def tryF (ns : List Str) (i : Nat) (kn : Er → Sto → R Fl) (Fh : Rho → Sto → R Fl) (ρ : Rho) : R Er → R Fl
  | .ok r S => kn r S
  | .exc c fs S => if c ∈ ns ∧ fs = [] then (noX (Fh (ρ.set i (some (.loc S.length))) (S ++ [.ins c fs]))).bind (endF i) else .no
  | .no => .no
theorem PostS.exprX {β τ : Type} [Dn β τ] {g : Gm} {W : XW} {α : List Addr} {H : Hp} {D : Ends} {m : R β} {k : β → Sto → R Fl} {Q' : τ → Hp → Prop} (q : PostS g W α H D ((noX m).bind k))
    (f : ∀ u b S1 α1 H1, m = .ok b S1 → Ext α H α1 H1 → Wd g α1 S1 H1 → Dn.d g H α1 S1 H1 b u → PostS g W α H D (k b S1) → Q' u H1) : Post g W0 α H m Q' := by
  cases m with
  | ok b S => exact fun u α1 H1 x w d => f u b S α1 H1 rfl x w d q
  | exc c fs S => exact q.elim
  | no => exact q
noncomputable def E2 (X : Cx) (W : XW) (ns : List Str) (i : Nat) (Fh : Rho → Sto → R Fl) (ρ : Rho) (α : List Addr) (H : Hp) (D : Ends) : XK := fun cls d H' => ∃ c fs S2 α' C, cls = .ref C ∧ X.mg c = some (.ref C) ∧ Ext α H α' H' ∧ Wd X.g α' S2 H' ∧ FsD X.g α' H' d fs ∧
  PostS X.g W α H D (if c ∈ ns ∧ fs = [] then (noX (Fh (ρ.set i (some (.loc S2.length))) (S2 ++ [.ins c fs]))).bind (endF i) else .no)
section
variable {X : Cx} {W : XW} {M : Addr} {cs : List (Str × Addr)} {pins : List (Addr × Obj)} {σ : St} {H H1 : Hp} {s s1 s' : Shared} {i : Nat} {nm : Str} {Fh : Rho → Sto → R Fl} {ρ : Rho} {α : List Addr} {D : Ends} {b0 : Stmt} {suite : List Stmt} {mp hpos : Pos}
theorem zVS (T : XTab X.K X.mg M cs) (hgm : Gl X "MendError") (hN : X.N.Nodup) (hi : X.N[i]? = some nm) (hk : X.env.kindOf nm = some .local) (hsuite : ∀ v, zDK (X.inH v) W0 (b0 :: suite) Fh) (hex : X.ex = []) (hstk : X.stack = X.env :: X.outer) (hfm : X.env.frame = some X.env.locals)
    (sl : Slots X.K α H ρ σ) (I1 : Inv X pins σ H1 s1) {x : Value} (hq : CXe X.prog X.w X.stack H1 s1 (E2 X W (cs.map (·.1)) i Fh ρ α H D) x s') :
    wpAny (model X.prog X.w) X.A (noteFrame x X.env) (fun _ s₂ => wpAny (model X.prog X.w) X.A (setFlight x none) (fun _ s₃ => wpAny (model X.prog X.w) X.A (handleBy x X.env [.ExceptHandler (some (.Name "MendError" mp)) (some nm) (b0 :: suite) hpos]) (SP X pins D) X.xe s₃) X.xe s₂) X.xe s' := by
  obtain ⟨e, Tb, C, d, H', rfl, os, bare, un, hok, fl, ne, nT, he, hT, c, fs, S2, α', C', eC, hmc, xx, w2, hf, q⟩ := hq
  cases eC
  split at q
  · rename_i hc
    obtain ⟨hcn, rfl⟩ := hc
    have J : Inv X pins σ H' s' := I1.call' (ch := []) os un hok bare (fun _ z => nomatch z)
    have hfr : X.A.frames = some (X.env :: X.outer) := by rw [← hstk]; exact J.ok.frames
    have hl : s'.heap.FunFrames X.base (X.env :: X.outer) := by rw [← hstk]; exact J.stack
    have oe : Out X pins H' s' e := by
      obtain ⟨ob, vs, _, _, h1, _, _, h2, _⟩ := id fl
      exact ⟨I1.older hex ne, he, fun p hp z => (by have := (I1.pin p hp).1; rw [z, ne] at this; cases this), ob, vs, h1, h2⟩
    have oT : Out X pins H' s' Tb := by
      obtain ⟨_, _, ob, ts, _, _, _, _, _, _, h1, h2, _⟩ := id fl
      exact ⟨I1.older hex nT, hT, fun p hp z => (by have := (I1.pin p hp).1; rw [z, nT] at this; cases this), ob, ts, h1, h2⟩
    refine zFK hfr hl hfm fl fun h3 T3 n3 m3 f3 => ?_
    rw [← hstk] at m3
    have J3 := J.mvd hex m3 oe oT
    have oe3 : Out X pins H' { s' with heap := h3 } e := by
      obtain ⟨ob, vs, _, _, h1, _, _, h2, _⟩ := id f3
      exact ⟨oe.s0, oe.h, oe.pin, ob, vs, h1, h2⟩
    have oT3 : Out X pins H' { s' with heap := h3 } T3 := by
      obtain ⟨_, _, ob, ts, _, _, _, _, _, _, h1, h2, _⟩ := id f3
      exact ⟨J.older hex n3, J.hok.none_of n3, fun p hp z => (by have := (J.pin p hp).1; rw [z, n3] at this; cases this), ob, ts, h1, h2⟩
    refine gE (env := X.env) (outer := X.outer) f3 fun h4 m4 f4 => ?_
    rw [← hstk] at m4
    have J4 := J3.mvd hex m4 oe3 oT3
    have oe4 : Out X pins H' { s' with heap := h4 } e := by
      obtain ⟨ob, vs, _, _, h1, _, _, h2, _⟩ := id f4
      exact ⟨oe.s0, oe.h, oe.pin, ob, vs, h1, h2⟩
    have oT4 : Out X pins H' { s' with heap := h4 } T3 := by
      obtain ⟨_, _, ob, ts, _, _, _, _, _, _, h1, h2, _⟩ := id f4
      exact ⟨oT3.s0, oT3.h, oT3.pin, ob, ts, h1, h2⟩
    have cls : ∃ i, XCl X.K C (.ref M :: bmV) i := by
      obtain ⟨⟨c', C'⟩, hm', rfl⟩ := List.mem_map.mp hcn
      obtain ⟨q1, q2⟩ := T.each.at hm'
      have : C = C' := by rw [hmc] at q1; cases q1; rfl
      rw [this]; exact q2
    obtain ⟨ini, cC⟩ := cls
    refine wpAny_handleBy_cons (codeAny_handlers_test (zAF (X := X.inH (.ref e)) (J4.inH (.ref e)) hgm T.m ?_)) (by intro z; cases z)
    obtain ⟨ob4, _, _, _, he4, hc4, _⟩ := id f4
    refine zKL (zGZ J4.kIn cC T.mc) he4 hc4 ?_
    refine codeAny_handlers_suite_as ?_
    refine gE (env := X.env) (outer := X.outer) (s := { s' with heap := h4 }) f4 fun h5 m5 f5 => ?_
    rw [← hstk] at m5
    have J5 := J4.mvd hex m5 oe4 oT4
    obtain ⟨ob, vs, _, _, h1, hcl, hdx, h2, _⟩ := id f5
    have oe5 : Out X pins H' { s' with heap := h5 } e := ⟨oe.s0, oe.h, oe.pin, ob, vs, h1, h2⟩
    have J6 := J5.track oe5 h1
    have xw := w2.put (ho := .ext fun h => h.get? e = some ob) (m := .ins c []) oe.h ⟨C, [], hmc, .nil, ob, jD, hcl, .inl rfl⟩
    refine zCR (X := X.inH (.ref e)) (J6.inH (.ref e)) hN hi (.inl hk) (v := .ref e) rfl (fun s7 J7 => ?_) (.inr hk)
    obtain ⟨th, hth, kh⟩ := hsuite (.ref e)
    let D' : Ends := { nx := fun σ H => D.nx (σ.set i none) H, rt := D.rt, bk := fun σ H => D.bk (σ.set i none) H, ct := fun σ H => D.ct (σ.set i none) H }
    have q' : PostS X.g W (α' ++ [e]) (upd H' e (.ext fun h => h.get? e = some ob)) D _ := PostS.shift (xx.trans xw.1) q
    have ht : th D' (σ.set i (some (.ref e))) (upd H' e (.ext fun h => h.get? e = some ob)) := by
      refine kh (α' ++ [e]) (ρ.set i (some (.loc S2.length))) (S2 ++ [.ins c []]) _ _ D' xw.2 (((sl.ext xx).ext xw.1).set (zCI (by rw [← w2.len, List.getElem?_append_right (Nat.le_refl _), Nat.sub_self]; rfl))) ?_
      cases z : Fh (ρ.set i (some (.loc S2.length))) (S2 ++ [.ins c []]) with
      | ok fl S8 =>
        rw [z] at q'
        cases fl with
        | next ρ8 => exact fun σ8 α8 H8 x8 w8 s8 => q' (σ8.set i none) α8 H8 x8 w8 (s8.unset i)
        | ret r8 => exact fun v8 α8 H8 x8 w8 d8 => q' v8 α8 H8 x8 w8 d8
        | brk ρ8 => exact fun σ8 α8 H8 x8 w8 s8 => q' (σ8.set i none) α8 H8 x8 w8 (s8.unset i)
        | cont ρ8 => exact fun σ8 α8 H8 x8 w8 s8 => q' (σ8.set i none) α8 H8 x8 w8 (s8.unset i)
      | exc c8 fs8 S8 => rw [z] at q'; exact q'.elim
      | no => rw [z] at q'; exact q'.elim
    refine wpAny_mono (hth pins s7 _ _ D' J7 ht) (fun f s8 hs => ?_) fun _ _ z => z.elim
    show wpAny _ _ _ _ _ _
    cases f with
    | next =>
      obtain ⟨σ8, H8, I8, q8⟩ := hs
      exact name_goes (I8.outH J.ok) hN hi hk fun s9 I9 => ⟨_, H8, I9, q8⟩
    | brk =>
      obtain ⟨σ8, H8, I8, q8⟩ := hs
      exact name_goes (I8.outH J.ok) hN hi hk fun s9 I9 => ⟨_, H8, I9, q8⟩
    | cont =>
      obtain ⟨σ8, H8, I8, q8⟩ := hs
      exact name_goes (I8.outH J.ok) hN hi hk fun s9 I9 => ⟨_, H8, I9, q8⟩
    | ret u =>
      obtain ⟨v8, σ8, H8, I8, r8, q8⟩ := hs
      exact name_goes (I8.outH J.ok) hN hi hk fun s9 I9 => ⟨v8, _, H8, I9, r8, q8⟩
  · exact q.elim
end
section
variable {X : Cx} {W : XW} {M : Addr} {cs : List (Str × Addr)} {i : Nat} {nm : Str} {Fh : Rho → Sto → R Fl} {b0 : Stmt} {suite : List Stmt} {mp hpos cpos epos pos p : Pos} {e : Expr} {es : List Expr} {af : Rho → Sto → R (List Er)} {k n : Nat} {fa : Addr} {fd : FuncData} {ps : List Str} {F : List MV → Sto → R Er} {x : Str}
theorem zQC {pins : List (Addr × Obj)} {σ : St} {H : Hp} {s : Shared} {Q : VK} {E : XK} {Ex : Value → Shared → Prop} {ta : TA} (G : FnOk X.prog X.w X.K X.mg X.base (CXe X.prog X.w) k fa fd ps (spX X.g n F)) (hr : Room k X.A) (hg : Gl X x) (hm : X.mg x = some (.ref fa)) (hk : PySem.W.keepIn X.K (.ref fa) = true) (hb : Binds X.K fd ps [])
    (ha : PA X.nox (e :: es) ta) (I : Inv X pins σ H s) (ht : ta σ H fun vs H1 => spX X.g n F vs H1 Q E) (hx : ∀ H1 s1 x s', Inv X pins σ H1 s1 → CXe X.prog X.w X.stack H1 s1 E x s' → Ex x s') (hdb : (x == ("__debug__" : Str)) = false)
    (he : starEach (e :: es) X.env = (false, eval e X.env) :: starEach es X.env) (hpl : (backTo cpos (starEach es X.env)).any (·.1) = false) :
    wpAny (model X.prog X.w) X.A (eval (.Call (.Name x p) (e :: es) [] cpos) X.env) (EP X pins σ Q) Ex s := by
  refine wpAny_Call_Name_kw (zAF I hg hm ?_ hdb)
  refine PySem.W.callWith_K (h₀ := X.base) I.ok.mod.kin hk (wpAny_mono (ha cpos pins s σ H _ (I.wish _) ht) (fun us s1 ⟨vs, H1, I1, r, q⟩ => ⟨I1.unwish.kIn, ?_⟩) fun _ _ z => z.elim) he hpl
  have I2 := I1.unwish
  have hl : us.length = ps.length := by rw [← r.length]; exact G.len _ _ _ _ q
  refine wpAny_call (codeAny_mono (G.run X.A X.stack s1 H1 ⟨us, []⟩ us vs Q E hr I2.env0 ?_ r q) fun r s' hq => ?_)
  · have := hb s1 us I2.kIn (by rw [List.append_nil]; exact hl)
    rw [List.append_nil] at this
    exact this
  · cases r with
    | error y => exact hx H1 s1 y s' I2 hq
    | ok fl =>
      cases fl with
      | ret u => exact I2.after hq
      | next => exact False.elim hq
      | brk => exact False.elim hq
      | cont => exact False.elim hq
theorem zQD {α : List Addr} {H : Hp} {ρ : Rho} {S : Sto} {σ : St} {D : Ends} {Q : VK} {ta : TA} {kn : Er → Sto → R Fl} {ns : List Str} (kk : ∀ α ρ S σ H Q, Wd X.g α S H → Slots X.K α H ρ σ → Post X.g W0 α H (af ρ S) Q → ta σ H Q) (wd : Wd X.g α S H) (sl : Slots X.K α H ρ σ)
    (q : PostS X.g W α H D ((noX (af ρ S)).bind fun rs S1 => tryF ns i kn Fh ρ (zAU n F rs S1))) (hkn : ∀ r S1 u α1 H1, PostS X.g W α H D (kn r S1) → Ext α H α1 H1 → Wd X.g α1 S1 H1 → DenE X.K H α1 H1 r u → Q u H1) :
    ta σ H fun vs H1 => spX X.g n F vs H1 Q (E2 X W ns i Fh ρ α H D) := by
  refine kk α ρ S σ H _ wd sl (q.exprX fun vs rs S1 α1 H1 e1 x1 w1 d1 q1 => zKK x1 w1 d1 ?_)
  cases z : zAU n F rs S1 with
  | ok r S2 => rw [z] at q1; exact fun u α2 H2 x2 w2 d2 => hkn r S2 u α2 H2 q1 x2 w2 d2
  | exc c fs S2 => rw [z] at q1; exact fun α2 H2 x2 w2 C d hC hf => ⟨c, fs, S2, α2, C, rfl, hC, x2, w2, hf, q1⟩
  | no => rw [z] at q1; exact q1.elim
theorem zSO {ns : List Str} (T : XTab X.K X.mg M cs) (hgm : Gl X "MendError") (hN : X.N.Nodup) (G : FnOk X.prog X.w X.K X.mg X.base (CXe X.prog X.w) k fa fd ps (spX X.g n F)) (hr : Room k X.A) (hg : Gl X x) (hm : X.mg x = some (.ref fa)) (hkp : PySem.W.keepIn X.K (.ref fa) = true) (hb : Binds X.K fd ps [])
    (ha : PAm X.nox W0 (e :: es) af) (hsuite : ∀ v, zDK (X.inH v) W0 (b0 :: suite) Fh) (hns : cs.map (·.1) = ns := by rfl) (hi : X.N[i]? = some nm := by rfl) (hk : X.env.kindOf nm = some .local := by rfl) (hex : X.ex = [] := by rfl) (hstk : X.stack = X.env :: X.outer := by rfl) (hfm : X.env.frame = some X.env.locals := by rfl)
    (hdb : (x == ("__debug__" : Str)) = false := by decide) (he : starEach (e :: es) X.env = (false, eval e X.env) :: starEach es X.env := by rfl) (hpl : (backTo cpos (starEach es X.env)).any (·.1) = false := by rfl) (hs : swapsWith (.Call (.Name x p) (e :: es) [] cpos) none epos.line X.env = pure false := by rfl) :
    PSm X W (.Try [.Expr (.Call (.Name x p) (e :: es) [] cpos) epos] [.ExceptHandler (some (.Name "MendError" mp)) (some nm) (b0 :: suite) hpos] [] [] pos)
      (fun ρ S => (noX (af ρ S)).bind fun rs S1 => tryF ns i (fun _ S2 => .ok (.next ρ) S2) Fh ρ (zAU n F rs S1)) := by
  subst hns
  obtain ⟨ta, ha, kk⟩ := ha
  refine ⟨fun D σ H => ∀ pins s, Inv X pins σ H s → wpAny (model X.prog X.w) X.A (exec (.Try [.Expr (.Call (.Name x p) (e :: es) [] cpos) epos] [.ExceptHandler (some (.Name "MendError" mp)) (some nm) (b0 :: suite) hpos] [] [] pos) X.env) (SP X pins D) X.xe s,
    fun pins s σ H D I h => h pins s I, fun α ρ S σ H D wd sl q pins s I => ?_⟩
  rw [arm_exec_Try]
  refine wpAny_bind (wpAny_standAt (wpAny_tryStmt_except (wpAny_execs_cons (wpAny_Expr_any ?_ I.quiet hs))))
  have ht := zQD (Q := fun _ H2 => D.nx σ H2) kk wd sl q fun r S1 u α1 H1 q1 x1 w1 _ => q1 σ α1 H1 x1 w1 (sl.ext x1)
  refine thn (zQC G hr hg hm hkp hb ha I ht (fun H1 s1 y s' I1 hq => zVS T hgm hN hi hk hsuite hex hstk hfm sl I1 hq) hdb he hpl) fun u s' ⟨v, H', I', _, q'⟩ => ?_
  exact wpAny_execs_nil (wpAny_execs_nil ⟨σ, H', I', q'⟩)
end
end M
end L2
namespace L2
namespace M
open PySem PySem.Spec PyProof.Rows
theorem xcl_mk {K : PySem.W.Frag} {C N : Addr} {bm bs sub : List Value} {init : Option Value} {nm q : Str} {hd ab : Bool} {sn : List Str} {col : Option Bool} {dd od : Option Addr} {k0 k1 k2 k3 k5 : Option Value} {oc : Value} {es : Array DictEntry} {ep : Nat} {sl : Array (Option Value)}
    (l : K.lookup C = some (excClassObj nm q C N bs bm hd sn sub ab col dd k0 k1 k2 k3 k5 "ValueError.__new__")) (n : K.lookup N = some ⟨oc, od, .dict es ep, sl⟩) (o : (es.toList.all fun e => match e.key with | .str _ _ => true | _ => false) = true)
    (i : PySem.W.nsIn K N "__init__" = some init) (q1 : PySem.W.nsIn K N "__class__" = some none) (q2 : PySem.W.nsIn K N "__getattribute__" = some none) (q3 : PySem.W.nsIn K N "__getattr__" = some none) : XCl K C bm init := by
  refine ⟨nm, q, N, bs, hd, sn, sub, ab, col, dd, k0, k1, k2, k3, k5, l, ?_, i, fun y hy => ?_⟩
  · unfold PySem.W.nsOkIn
    rw [n]
    rw [Array.all_toList] at o
    exact o
  · rcases hy with _ | ⟨_, hy⟩
    · exact q1
    · rcases hy with _ | ⟨_, hy⟩
      · exact q2
      · rcases hy with _ | ⟨_, hy⟩
        · exact q3
        · cases hy
end M
end L2
namespace L2
namespace M
namespace My
open PySem PySem.Spec PyProof.Rows
local macro_rules
  | `(tactic| simp? [$xs,*] $[$l:location]?) => `(tactic| simp only [List.getElem?_cons_zero, List.getElem?_cons_succ, zSB, bok, as_int, as_bl, zVI, add_int, sub_int, eq_int, zVJ, lst0, lst1, lst2, lst3, lst6, tup2, tup3, zVL, zVM, zVN, zVO, zVP, zVQ, zSI, zSJ, List.set_cons_zero, List.set_cons_succ, if_true, zSL, zSK, $xs,*] $[$l:location]?)
abbrev XNS : List Str := ["TooGreat", "NoText", "NoPlace", "NotPlain", "NoTable", "NoRule", "NoRow", "Twice", "NoQuestion", "Double", "TooWide", "Ring"]
noncomputable section
abbrev AF := Rho → Sto → R Fl
abbrev AE := Rho → Sto → R Er
noncomputable def nN : Rho → Sto → R Bool := fun ρ S => (R.ok true S)
noncomputable def gK : AE := fun ρ S => ((R.ok (.val (.str [97])) S).bind fun a b => (zH (ρ[0]?) b).bind fun c d => chF leF leF a c d fun e => (R.ok (.val (.str [122])) e))
noncomputable def dI : AF := (fun ρ S => ((((((zH (ρ[0]?) S).bind fun a b => ((R.ok (.val (.typ "str")) b).bind fun c d => (R.ok [] d).bind fun e g => .ok (c :: e) g).bind fun h i => .ok (a :: h) i).bind nI).bind zDI).bind fun j l => .ok (!j) l).bind fun m n => if m = true then .ok true n else ((((R.ok (.val (.int 1)) n).bind fun o p => (((zH (ρ[0]?) p).bind fun q s => (R.ok [] s).bind fun t u => .ok (q :: t) u).bind zGR).bind fun v w => chF leF leF o v w fun x => (R.ok (.val (.int 8)) x)).bind asB).bind fun y z => .ok (!y) z)).bind fun k A => if k = true then ((fun ρ S => (R.ok (.val (.bl false)) S).bind fun r A => .ok (.ret r) A)) ρ A else (fun ρ S => .ok (.next ρ) S) ρ A)
noncomputable def dJ : AF := (fun ρ S => (((((zH (ρ[0]?) S).bind itS).bind fun a b => if a.ds.length < 1000000 then (kR (gNm 0) (nN) (gK) (blk 1 [] ρ) a.gs a.ds b).bind fun c d => .ok (.new c) d else .no).bind fun e g => (R.ok [] g).bind fun h i => .ok (e :: h) i).bind zPJ).bind fun r j => .ok (.ret r) j)
noncomputable def nF : AF := zT (dI) ((dJ))
noncomputable def nG (ds : List MV) (S : Sto) : R Er := kU (nF (yC ["thing"] ds) S)
noncomputable def kS : Rho → Sto → R Bool := fun ρ S => (R.ok true S)
noncomputable def xT : AE := fun ρ S => ((zH (ρ[0]?) S).bind fun a b => (R.ok (.val (.str [48, 49, 50, 51, 52, 53, 54, 55, 56, 57])) b).bind fun c d => inF false a c d)
noncomputable def wL : AF := (fun ρ S => ((((zH (ρ[0]?) S).bind fun a b => if dF a b = true then ((R.ok (.val (.str [45])) b).bind fun c d => (R.ok [] d).bind fun e g => .ok (c :: e) g).bind fun h i => swF a h i else .no).bind zDI).bind fun j l => if j = true then ((zH (ρ[0]?) l).bind fun m n => ((R.ok (.val (.int 1)) n).bind asI).bind fun o p => (R.ok none p).bind fun q s => zCC m o q s) else (zH (ρ[0]?) l)).bind (xZ ρ 1))
noncomputable def wM : AF := (fun ρ S => ((((R.ok (.val (.int 1)) S).bind fun a b => (((zH (ρ[1]?) b).bind fun c d => (R.ok [] d).bind fun e g => .ok (c :: e) g).bind zGR).bind fun h i => chF leF leF a h i fun j => (R.ok (.val (.int 30)) j)).bind asB).bind fun l m => .ok (!l) m).bind fun k n => if k = true then ((fun ρ S => (R.ok (.val (.bl false)) S).bind fun r n => .ok (.ret r) n)) ρ n else (fun ρ S => .ok (.next ρ) S) ρ n)
noncomputable def wN : AF := (fun ρ S => (((((((zH (ρ[1]?) S).bind itS).bind fun a b => if a.ds.length < 1000000 then (kR (gNm 0) (kS) (xT) (blk 1 [] ρ) a.gs a.ds b).bind fun c d => .ok (.new c) d else .no).bind fun e g => (R.ok [] g).bind fun h i => .ok (e :: h) i).bind zPJ).bind zDI).bind fun j l => .ok (!j) l).bind fun k m => if k = true then ((fun ρ S => (R.ok (.val (.bl false)) S).bind fun r m => .ok (.ret r) m)) ρ m else (fun ρ S => .ok (.next ρ) S) ρ m)
noncomputable def wO : AF := (fun ρ S => (((zH (ρ[0]?) S).bind fun a b => (R.ok (.val (.str [48])) b).bind fun c d => eqF a c d).bind fun e g => orF e g fun h => (((zH (ρ[1]?) h).bind fun i j => (R.ok (.val (.int 0)) j).bind fun l m => ixF i l m).bind fun n o => (R.ok (.val (.str [48])) o).bind fun p q => neF n p q)).bind fun r s => .ok (.ret r) s)
noncomputable def xX : AF := zT (wL) (zT (wM) (zT (wN) ((wO))))
noncomputable def xY (ds : List MV) (S : Sto) : R Er := kU (xX (yC ["text", "figures"] ds) S)
noncomputable def wP : AF := (fun ρ S => (((((zH (ρ[0]?) S).bind fun a b => ((R.ok (.val (.typ "str")) b).bind fun c d => (R.ok [] d).bind fun e g => .ok (c :: e) g).bind fun h i => .ok (a :: h) i).bind nI).bind zDI).bind fun j l => .ok (!j) l).bind fun k m => if k = true then ((fun ρ S => (((R.ok (.val (.str [119, 104, 97, 116, 32, 105, 115, 32, 110, 111, 32, 116, 101, 120, 116, 32, 119, 114, 105, 116, 101, 115, 32, 110, 111, 32, 118, 97, 108, 117, 101])) S).bind fun n o => (R.ok [] o).bind fun p q => .ok (n :: p) q) : R (List Er)).bind fun rs m => if rs.length ≤ 10 then .exc "NoText" [] m else .no)) ρ m else (fun ρ S => .ok (.next ρ) S) ρ m)
noncomputable def jK : AF := (fun ρ S => ((((zH (ρ[0]?) S).bind fun a b => (R.ok [] b).bind fun c d => .ok (a :: c) d).bind fun e g => zU 1 nG e g).bind zDI).bind fun k h => if k = true then ((fun ρ S => (zH (ρ[0]?) S).bind fun r h => .ok (.ret r) h)) ρ h else (fun ρ S => .ok (.next ρ) S) ρ h)
noncomputable def jL : AF := (fun ρ S => ((((zH (ρ[0]?) S).bind fun a b => (R.ok [] b).bind fun c d => .ok (a :: c) d).bind fun e g => zU 1 xY e g).bind zDI).bind fun k h => if k = true then ((fun ρ S => (((zH (ρ[0]?) S).bind fun i j => (R.ok [] j).bind fun l m => .ok (i :: l) m).bind zES).bind fun r h => .ok (.ret r) h)) ρ h else (fun ρ S => .ok (.next ρ) S) ρ h)
noncomputable def dL : AF := (fun ρ S => (((R.ok (.val (.str [116, 104, 101, 32, 116, 101, 120, 116, 32, 119, 114, 105, 116, 101, 115, 32, 110, 111, 32, 118, 97, 108, 117, 101])) S).bind fun a b => (R.ok [] b).bind fun c d => .ok (a :: c) d) : R (List Er)).bind fun rs e => if rs.length ≤ 10 then .exc "NoText" [] e else .no)
noncomputable def xK : AF := zT (wP) (zT (jK) (zT (jL) ((dL))))
noncomputable def zL (ds : List MV) (S : Sto) : R Er := kU (xK (yC ["text"] ds) S)
noncomputable def bM : AF := (fun ρ S => ((((zH (ρ[0]?) S).bind fun a b => (R.ok (.val (.int 2)) b).bind fun c d => wW a c d).bind fun e g => (R.ok (.val (.int 0)) g).bind fun h i => eqF e h i).bind asB).bind fun k j => if k = true then ((fun ρ S => (((zH (ρ[0]?) S).bind fun l m => (R.ok (.val (.int 2)) m).bind fun n o => zAO l n o).bind fun p q => (((R.ok (.val (.int 10)) q).bind fun s t => (R.ok (.val (.int 60)) t).bind fun u v => cR s u v).bind fun w x => (R.ok (.val (.int 10)) x).bind fun y z => cR w y z).bind fun A B => wW p A B).bind fun r j => .ok (.ret r) j)) ρ j else (fun ρ S => .ok (.next ρ) S) ρ j)
noncomputable def bN : AF := (fun ρ S => (((((zH (ρ[0]?) S).bind fun a b => (R.ok (.val (.int 2147483629)) b).bind fun c d => wW a c d).bind fun e g => (R.ok (.val (.int 7)) g).bind fun h i => wA e h i).bind fun j l => (R.ok (.val (.int 48271)) l).bind fun m n => cS j m n).bind fun o p => (zH (ρ[1]?) p).bind fun q s => wW o q s).bind (xZ ρ 2))
noncomputable def bO : AF := (fun ρ S => (((((zH (ρ[2]?) S).bind fun a b => (zH (ρ[2]?) b).bind fun c d => cS a c d).bind fun e g => (R.ok (.val (.int 2147483579)) g).bind fun h i => wW e h i).bind fun j l => (R.ok (.val (.int 1000003)) l).bind fun m n => cS j m n).bind fun o p => (zH (ρ[2]?) p).bind fun q s => wA o q s).bind fun r t => .ok (.ret r) t)
noncomputable def bP : AF := zT (bM) (zT (bN) ((bO)))
noncomputable def xB (ds : List MV) (S : Sto) : R Er := kU (bP (yC ["_law_cell", "_law_prime", "_law_number"] ds) S)
noncomputable def kO : Rho → Sto → R Fl := (fun ρ S => ((zH (ρ[3]?) S).bind fun p199 S200 => ((zH (ρ[1]?) S200).bind fun p203 S204 => ((zH (ρ[2]?) S204).bind fun p207 S208 => (R.ok (.val (.int 26)) S208).bind fun q209 S210 => wW p207 q209 S210).bind fun q205 S206 => ixF p203 q205 S206).bind fun q201 S202 => wA p199 q201 S202).bind (xZ ρ 3))
noncomputable def kP : Rho → Sto → R Fl := (fun ρ S => ((zH (ρ[2]?) S).bind fun p211 S212 => (R.ok (.val (.int 26)) S212).bind fun q213 S214 => zAO p211 q213 S214).bind (xZ ρ 2))
noncomputable def kD : Rho → Sto → R Fl := zT (kO) ((kP))
noncomputable def nO : AF := (fun ρ S => (R.ok (.val (.str [97, 98, 99, 100, 101, 102, 103, 104, 105, 106, 107, 108, 109, 110, 111, 112, 113, 114, 115, 116, 117, 118, 119, 120, 121, 122])) S).bind (xZ ρ 1))
noncomputable def gL : AF := (fun ρ S => ((zH (ρ[0]?) S).bind fun a b => (R.ok (.val (.int 8)) b).bind fun c d => zAO a c d).bind (xZ ρ 2))
noncomputable def nP : AF := (fun ρ S => (R.ok (.val (.str [])) S).bind (xZ ρ 3))
noncomputable def gM : AF := (fun ρ S => ((((R.ok (.val (.int 1)) S).bind fun a b => ((zH (ρ[0]?) b).bind fun c d => (R.ok (.val (.int 8)) d).bind fun e g => wW c e g).bind fun h i => wA a h i).bind fun j l => (R.ok [] l).bind fun m n => .ok (j :: m) n).bind zIH).bind fun k o => jG (gNm 4) (kD) k.gs k.ds ρ o)
noncomputable def zET : AF := (fun ρ S => (zH (ρ[3]?) S).bind fun r a => .ok (.ret r) a)
noncomputable def dM : AF := zT (nO) (zT (gL) (zT (nP) (zT (gM) ((zET)))))
noncomputable def wE (ds : List MV) (S : Sto) : R Er := kU (dM (yC ["_law_cell", "_law_letters", "_law_number", "_law_name_here", "_law_k"] ds) S)
noncomputable def jM : AF := (fun ρ S => ((zH (ρ[0]?) S).bind fun a b => (R.ok (.val (.int 5)) b).bind fun c d => zAO a c d).bind (xZ ρ 1))
noncomputable def jN : AF := (fun ρ S => ((((zH (ρ[0]?) S).bind fun a b => (R.ok (.val (.int 5)) b).bind fun c d => wW a c d).bind fun e g => (R.ok (.val (.int 0)) g).bind fun h i => eqF e h i).bind asB).bind fun k j => if k = true then ((fun ρ S => ((((R.ok (.val (.int 0)) S).bind fun l m => ((R.ok (.val (.int 1)) m).bind fun n o => ((R.ok (.val (.int (-1))) o).bind fun p q => ((((R.ok (.val (.int 10)) q).bind fun s t => (R.ok (.val (.int 30)) t).bind fun u v => cR s u v).bind fun w x => (R.ok (.val (.int 1)) x).bind fun y z => zEQ w y z).bind fun A B => (((R.ok (.val (.int 1)) B).bind fun D G => ((R.ok (.val (.int 10)) G).bind fun I J => (R.ok (.val (.int 30)) J).bind fun L M => cR I L M).bind fun N O => zEQ D N O).bind fun P Q => (((R.ok (.val (.int 10)) Q).bind fun T U => (R.ok (.val (.int 29)) U).bind fun V X => cR T V X).bind fun Y Z => (R.ok [] Z).bind fun a0 a1 => .ok (Y :: a0) a1).bind fun a2 a3 => .ok (P :: a2) a3).bind fun a4 a5 => .ok (A :: a4) a5).bind fun a6 a7 => .ok (p :: a6) a7).bind fun a8 a9 => .ok (n :: a8) a9).bind fun b0 b1 => .ok (l :: b0) b1).bind xH).bind fun b2 b3 => ((zH (ρ[1]?) b3).bind fun b4 b5 => (R.ok (.val (.int 6)) b5).bind fun b6 b7 => wW b4 b6 b7).bind fun b8 b9 => ixF b2 b8 b9).bind fun r j => .ok (.ret r) j)) ρ j else (fun ρ S => .ok (.next ρ) S) ρ j)
noncomputable def jO : AF := (fun ρ S => ((((zH (ρ[0]?) S).bind fun a b => (R.ok (.val (.int 5)) b).bind fun c d => wW a c d).bind fun e g => (R.ok (.val (.int 1)) g).bind fun h i => eqF e h i).bind asB).bind fun k j => if k = true then ((fun ρ S => (((zH (ρ[1]?) S).bind fun l m => (R.ok (.val (.int 23)) m).bind fun n o => wW l n o).bind fun p q => (R.ok (.val (.int 11)) q).bind fun s t => zEQ p s t).bind fun r j => .ok (.ret r) j)) ρ j else (fun ρ S => .ok (.next ρ) S) ρ j)
noncomputable def jP : AF := (fun ρ S => ((((zH (ρ[0]?) S).bind fun a b => (R.ok (.val (.int 5)) b).bind fun c d => wW a c d).bind fun e g => (R.ok (.val (.int 2)) g).bind fun h i => eqF e h i).bind asB).bind fun k j => if k = true then ((fun ρ S => ((((((((zH (ρ[1]?) S).bind fun l m => ((R.ok (.val (.int 10)) m).bind fun n o => (R.ok (.val (.int 12)) o).bind fun p q => cR n p q).bind fun s t => wW l s t).bind fun u v => (R.ok (.val (.int 48271)) v).bind fun w x => cS u w x).bind fun y z => (R.ok (.val (.int 11)) z).bind fun A B => wA y A B).bind fun D G => (R.ok (.val (.int 5)) G).bind fun I J => cR D I J).bind fun L M => (((R.ok (.val (.int 2)) M).bind fun N O => ((R.ok (.val (.int 10)) O).bind fun P Q => (R.ok (.val (.int 30)) Q).bind fun T U => cR P T U).bind fun V X => cS N V X).bind fun Y Z => (R.ok (.val (.int 1)) Z).bind fun a0 a1 => zEQ Y a0 a1).bind fun a2 a3 => wW L a2 a3).bind fun a4 a5 => ((R.ok (.val (.int 10)) a5).bind fun a6 a7 => (R.ok (.val (.int 30)) a7).bind fun a8 a9 => cR a6 a8 a9).bind fun b0 b1 => zEQ a4 b0 b1).bind fun b2 b3 => (R.ok (.val (.int 1)) b3).bind fun b4 b5 => wA b2 b4 b5).bind fun r j => .ok (.ret r) j)) ρ j else (fun ρ S => .ok (.next ρ) S) ρ j)
noncomputable def jQ : AF := (fun ρ S => ((((zH (ρ[0]?) S).bind fun a b => (R.ok (.val (.int 5)) b).bind fun c d => wW a c d).bind fun e g => (R.ok (.val (.int 3)) g).bind fun h i => eqF e h i).bind asB).bind fun k j => if k = true then ((fun ρ S => ((((zH (ρ[1]?) S).bind fun l m => (((R.ok (.val (.int 2)) m).bind fun n o => ((R.ok (.val (.int 10)) o).bind fun p q => (R.ok (.val (.int 30)) q).bind fun s t => cR p s t).bind fun u v => cS n u v).bind fun w x => (R.ok (.val (.int 1)) x).bind fun y z => zEQ w y z).bind fun A B => wW l A B).bind fun D G => ((R.ok (.val (.int 10)) G).bind fun I J => (R.ok (.val (.int 30)) J).bind fun L M => cR I L M).bind fun N O => zEQ D N O).bind fun P Q => (R.ok (.val (.int 1)) Q).bind fun T U => wA P T U).bind fun r j => .ok (.ret r) j)) ρ j else (fun ρ S => .ok (.next ρ) S) ρ j)
noncomputable def jR : AF := (fun ρ S => (((zH (ρ[1]?) S).bind fun a b => (R.ok [] b).bind fun c d => .ok (a :: c) d).bind fun e g => zU 1 wE e g).bind fun r h => .ok (.ret r) h)
noncomputable def bQ : AF := zT (jM) (zT (jN) (zT (jO) (zT (jP) (zT (jQ) ((jR))))))
noncomputable def xL (ds : List MV) (S : Sto) : R Er := kU (bQ (yC ["_law_cell", "_law_rest"] ds) S)
noncomputable def wX : Rho → Sto → R Fl := (fun ρ S => (((((zH (ρ[3]?) S).bind fun p455 S456 => (zH (ρ[3]?) S456).bind fun q457 S458 => cS p455 q457 S458).bind fun p459 S460 => ((R.ok (.val (.int 48271)) S460).bind fun p463 S464 => (zH (ρ[3]?) S464).bind fun q465 S466 => cS p463 q465 S466).bind fun q461 S462 => wA p459 q461 S462).bind fun p467 S468 => (zH (ρ[5]?) S468).bind fun q469 S470 => wA p467 q469 S470).bind fun p471 S472 => (R.ok (.val (.int 2147483647)) S472).bind fun q473 S474 => wW p471 q473 S474).bind (xZ ρ 3))
noncomputable def bD : Rho → Sto → R Fl := (fun ρ S => ((zH (ρ[4]?) S).bind fun p475 S476 => ((zH (ρ[2]?) S476).bind fun p479 S480 => (((zH (ρ[3]?) S480).bind fun p483 S484 => (R.ok (.val (.int 64)) S484).bind fun q485 S486 => zAO p483 q485 S486).bind fun p487 S488 => (((zH (ρ[2]?) S488).bind fun p491 S492 => (R.ok [] S492).bind fun l493 S494 => .ok (p491 :: l493) S494).bind zGR).bind fun q489 S490 => wW p487 q489 S490).bind fun q481 S482 => ixF p479 q481 S482).bind fun q477 S478 => wA p475 q477 S478).bind (xZ ρ 4))
noncomputable def wQ : Rho → Sto → R Fl := zT (wX) ((bD))
noncomputable def jS : AF := (fun ρ S => ((((R.ok (.val (.str [48, 49, 50, 51, 52, 53, 54, 55, 56, 57])) S).bind fun a b => ((R.ok (.val (.str [48, 49, 50, 51, 52, 53, 54, 55, 56, 57, 97, 98, 99, 120, 121, 122])) b).bind fun c d => ((R.ok (.val (.str [48, 49, 50, 51, 52, 53, 54, 55, 56, 57, 97, 98, 99, 120, 121, 122, 65, 90, 45, 43, 32, 95, 46, 63, 58, 10])) d).bind fun e g => (R.ok [] g).bind fun h i => .ok (e :: h) i).bind fun j l => .ok (c :: j) l).bind fun m n => .ok (a :: m) n).bind xH).bind fun o p => ((zH (ρ[0]?) p).bind fun q s => (R.ok (.val (.int 3)) s).bind fun t u => wW q t u).bind fun v w => ixF o v w).bind (xZ ρ 2))
noncomputable def jT : AF := (fun ρ S => (((zH (ρ[1]?) S).bind fun a b => ((R.ok (.val (.int 2147483587)) b).bind fun c d => (R.ok [] d).bind fun e g => .ok (c :: e) g).bind fun h i => .ok (a :: h) i).bind fun j l => zU 2 xB j l).bind (xZ ρ 3))
noncomputable def jU : AF := (fun ρ S => ((R.ok (.val (.str [45])) S).bind fun a b => ((((((zH (ρ[0]?) b).bind fun c d => (R.ok (.val (.int 3)) d).bind fun e g => zAO c e g).bind fun h i => (R.ok (.val (.int 4)) i).bind fun j l => wW h j l).bind fun m n => (R.ok (.val (.int 0)) n).bind fun o p => eqF m o p).bind fun q s => (R.ok [] s).bind fun t u => .ok (q :: t) u).bind zES).bind fun v w => cS a v w).bind (xZ ρ 4))
noncomputable def jV : AF := (fun ρ S => (((((zH (ρ[0]?) S).bind fun a b => (R.ok (.val (.int 12)) b).bind fun c d => zAO a c d).bind fun e g => (R.ok (.val (.int 34)) g).bind fun h i => wW e h i).bind fun j l => (R.ok [] l).bind fun m n => .ok (j :: m) n).bind zIH).bind fun k o => jG (gNm 5) (wQ) k.gs k.ds ρ o)
noncomputable def zEC : AF := (fun ρ S => (zH (ρ[4]?) S).bind fun r a => .ok (.ret r) a)
noncomputable def kW : AF := zT (jS) (zT (jT) (zT (jU) (zT (jV) ((zEC)))))
noncomputable def kX (ds : List MV) (S : Sto) : R Er := kU (kW (yC ["_law_cell", "_law_other", "_law_signs_here", "_law_number", "_law_text", "_law_k"] ds) S)
noncomputable def gN : AF := (fun ρ S => (((((zH (ρ[1]?) S).bind fun a b => (R.ok [] b).bind fun c d => .ok (a :: c) d).bind fun e g => zU 1 xL e g).bind fun h i => (R.ok [] i).bind fun j l => .ok (h :: j) l).bind strF).bind (xZ ρ 2))
noncomputable def gO : AF := (fun ρ S => (((zH (ρ[0]?) S).bind fun a b => (R.ok (.val (.int 12)) b).bind fun c d => zAO a c d).bind fun e g => ((((zH (ρ[2]?) g).bind fun h i => (R.ok [] i).bind fun j l => .ok (h :: j) l).bind zGR).bind fun m n => (R.ok (.val (.int 1)) n).bind fun o p => wA m o p).bind fun q s => wW e q s).bind (xZ ρ 3))
noncomputable def gP : AF := (fun ρ S => ((((R.ok (.val (.str [48])) S).bind fun a b => ((R.ok (.val (.str [45])) b).bind fun c d => ((R.ok (.val (.str [43])) d).bind fun e g => ((R.ok (.val (.str [32])) g).bind fun h i => ((R.ok (.val (.str [49])) i).bind fun j l => ((R.ok (.val (.str [97])) l).bind fun m n => ((R.ok (.val (.str [10])) n).bind fun o p => ((R.ok (.val (.str [95])) p).bind fun q s => (R.ok [] s).bind fun t u => .ok (q :: t) u).bind fun v w => .ok (o :: v) w).bind fun x y => .ok (m :: x) y).bind fun z A => .ok (j :: z) A).bind fun B D => .ok (h :: B) D).bind fun G I => .ok (e :: G) I).bind fun J L => .ok (c :: J) L).bind fun M N => .ok (a :: M) N).bind xH).bind fun O P => (((zH (ρ[0]?) P).bind fun Q T => (R.ok (.val (.int 3)) T).bind fun U V => zAO Q U V).bind fun X Y => (R.ok (.val (.int 8)) Y).bind fun Z a0 => wW X Z a0).bind fun a1 a2 => ixF O a1 a2).bind (xZ ρ 4))
noncomputable def gQ : AF := (fun ρ S => ((((zH (ρ[0]?) S).bind fun a b => (R.ok (.val (.int 3)) b).bind fun c d => wW a c d).bind fun e g => (R.ok (.val (.int 0)) g).bind fun h i => eqF e h i).bind asB).bind fun k j => if k = true then ((fun ρ S => ((zH (ρ[4]?) S).bind fun l m => (zH (ρ[2]?) m).bind fun n o => wA l n o).bind fun r j => .ok (.ret r) j)) ρ j else (fun ρ S => .ok (.next ρ) S) ρ j)
noncomputable def gR : AF := (fun ρ S => ((((zH (ρ[0]?) S).bind fun a b => (R.ok (.val (.int 3)) b).bind fun c d => wW a c d).bind fun e g => (R.ok (.val (.int 1)) g).bind fun h i => eqF e h i).bind asB).bind fun k j => if k = true then ((fun ρ S => ((zH (ρ[2]?) S).bind fun l m => (zH (ρ[4]?) m).bind fun n o => wA l n o).bind fun r j => .ok (.ret r) j)) ρ j else (fun ρ S => .ok (.next ρ) S) ρ j)
noncomputable def gS : AF := (fun ρ S => ((((zH (ρ[2]?) S).bind fun a b => (R.ok none b).bind fun c d => ((zH (ρ[3]?) d).bind asI).bind fun e g => zCC a c e g).bind fun h i => (zH (ρ[4]?) i).bind fun j l => wA h j l).bind fun m n => ((zH (ρ[2]?) n).bind fun o p => ((zH (ρ[3]?) p).bind asI).bind fun q s => (R.ok none s).bind fun t u => zCC o q t u).bind fun v w => wA m v w).bind fun r x => .ok (.ret r) x)
noncomputable def wF : AF := zT (gN) (zT (gO) (zT (gP) (zT (gQ) (zT (gR) ((gS))))))
noncomputable def kG (ds : List MV) (S : Sto) : R Er := kU (wF (yC ["_law_cell", "_law_other", "_law_text", "_law_at", "_law_sign"] ds) S)
noncomputable def jW : Rho → Sto → R Bool := fun ρ S => (((zH (ρ[0]?) S).bind fun a b => (R.ok (.val (.str [97, 98, 99, 100, 101, 102, 103, 104, 105, 106, 107, 108, 109, 110, 111, 112, 113, 114, 115, 116, 117, 118, 119, 120, 121, 122])) b).bind fun c d => inF true a c d).bind asB)
noncomputable def dN : AE := fun ρ S => (zH (ρ[0]?) S)
noncomputable def jX : Rho → Sto → R Bool := fun ρ S => (((zH (ρ[0]?) S).bind fun a b => (R.ok (.val (.str [48, 49, 50, 51, 52, 53, 54, 55, 56, 57])) b).bind fun c d => inF true a c d).bind asB)
noncomputable def dO : AE := fun ρ S => (zH (ρ[0]?) S)
noncomputable def dP : Rho → Sto → R Fl := (fun ρ S => (((zH (ρ[2]?) S).bind fun p707 S708 => (R.ok (.val (.int 10)) S708).bind fun q709 S710 => cS p707 q709 S710).bind fun p711 S712 => ((R.ok (.val (.str [48, 49, 50, 51, 52, 53, 54, 55, 56, 57])) S712).bind fun p715 S716 => if dF p715 S716 = true then ((zH (ρ[3]?) S716).bind fun p719 S720 => (R.ok [] S720).bind fun l721 S722 => .ok (p719 :: l721) S722).bind fun r717 S718 => zIN p715 r717 S718 else .no).bind fun q713 S714 => wA p711 q713 S714).bind (xZ ρ 2))
noncomputable def kY : Rho → Sto → R Fl := (dP)
noncomputable def bR : AF := (fun ρ S => ((((zH (ρ[0]?) S).bind fun a b => (R.ok (.val (.str [])) b).bind fun c d => neF a c d).bind asB).bind fun e g => if e = true then (((((zH (ρ[0]?) g).bind itS).bind fun h i => if h.ds.length < 1000000 then (kR (gNm 0) (jW) (dN) (blk 1 [] ρ) h.gs h.ds i).bind fun j l => .ok (.new j) l else .no).bind fun m n => ((R.ok [] n).bind xH).bind fun o p => eqF m o p).bind asB) else .ok false g).bind fun k q => if k = true then ((fun ρ S => ((((zH (ρ[0]?) S).bind fun s t => (R.ok [] t).bind fun u v => .ok (s :: u) v).bind xH).bind fun w x => (((((zH (ρ[0]?) x).bind fun y z => (R.ok [] z).bind fun A B => .ok (y :: A) B).bind zGR).bind fun D G => (R.ok (.val (.int 9)) G).bind fun I J => zAO D I J).bind asI).bind fun L M => (R.ok none M).bind fun N O => zCC w L N O).bind fun r q => .ok (.ret r) q)) ρ q else (fun ρ S => .ok (.next ρ) S) ρ q)
noncomputable def bS : AF := (fun ρ S => ((zH (ρ[0]?) S).bind fun a b => ((((((zH (ρ[0]?) b).bind fun c d => (R.ok none d).bind fun e g => ((R.ok (.val (.int 1)) g).bind asI).bind fun h i => zCC c e h i).bind fun j l => (R.ok (.val (.str [45])) l).bind fun m n => eqF j m n).bind fun o p => (R.ok [] p).bind fun q s => .ok (o :: q) s).bind zES).bind asI).bind fun t u => (R.ok none u).bind fun v w => zCC a t v w).bind (xZ ρ 1))
noncomputable def bT : AF := (fun ρ S => ((((zH (ρ[1]?) S).bind fun a b => (R.ok (.val (.str [])) b).bind fun c d => eqF a c d).bind asB).bind fun e g => if e = true then .ok true g else ((((((zH (ρ[1]?) g).bind fun h i => (R.ok [] i).bind fun j l => .ok (h :: j) l).bind zGR).bind fun m n => (R.ok (.val (.int 30)) n).bind fun o p => gtF m o p).bind asB).bind fun q s => if q = true then .ok true s else (((((zH (ρ[1]?) s).bind itS).bind fun t u => if t.ds.length < 1000000 then (kR (gNm 0) (jX) (dO) (blk 1 [] ρ) t.gs t.ds u).bind fun v w => .ok (.new v) w else .no).bind fun x y => ((R.ok [] y).bind xH).bind fun z A => neF x z A).bind asB))).bind fun k B => if k = true then ((fun ρ S => ((R.ok [] S).bind xH).bind fun r B => .ok (.ret r) B)) ρ B else (fun ρ S => .ok (.next ρ) S) ρ B)
noncomputable def bU : AF := (fun ρ S => (((((zH (ρ[1]?) S).bind fun a b => (R.ok (.val (.int 0)) b).bind fun c d => ixF a c d).bind fun e g => (R.ok (.val (.str [48])) g).bind fun h i => eqF e h i).bind asB).bind fun j l => if j = true then (((zH (ρ[0]?) l).bind fun m n => (R.ok (.val (.str [48])) n).bind fun o p => neF m o p).bind asB) else .ok false l).bind fun k q => if k = true then ((fun ρ S => ((R.ok [] S).bind xH).bind fun r q => .ok (.ret r) q)) ρ q else (fun ρ S => .ok (.next ρ) S) ρ q)
noncomputable def zAV : AF := (fun ρ S => (R.ok (.val (.int 0)) S).bind (xZ ρ 2))
noncomputable def bV : AF := (fun ρ S => ((zH (ρ[1]?) S).bind itS).bind fun k a => jG (gNm 3) (kY) k.gs k.ds ρ a)
noncomputable def bW : AF := (fun ρ S => ((((((zH (ρ[2]?) S).bind fun a b => (((R.ok (.val (.int 0)) b).bind fun c d => (zH (ρ[2]?) d).bind fun e g => zEQ c e g).bind fun h i => (R.ok [] i).bind fun j l => .ok (h :: j) l).bind fun m n => .ok (a :: m) n).bind xH).bind fun o p => (((((zH (ρ[0]?) p).bind fun q s => (R.ok (.val (.int 0)) s).bind fun t u => ixF q t u).bind fun v w => (R.ok (.val (.str [45])) w).bind fun x y => eqF v x y).bind fun z A => (R.ok [] A).bind fun B D => .ok (z :: B) D).bind zES).bind fun G I => ixF o G I).bind fun J L => (R.ok [] L).bind fun M N => .ok (J :: M) N).bind xH).bind fun r O => .ok (.ret r) O)
noncomputable def bX : AF := zT (bR) (zT (bS) (zT (bT) (zT (bU) (zT (zAV) (zT (bV) ((bW)))))))
noncomputable def bY (ds : List MV) (S : Sto) : R Er := kU (bX (yC ["_law_text", "_law_figures", "_law_number", "_law_sign"] ds) S)
noncomputable def wB : Rho → Sto → R Fl := (fun ρ S => ((((zH (ρ[2]?) S).bind (dH XNS "NoText")).bind fun p755 S756 => (((zH (ρ[2]?) S756).bind (zNH XNS)).bind fun p759 S760 => (((zH (ρ[2]?) S760).bind (dH XNS "TooGreat")).bind fun p763 S764 => (((zH (ρ[2]?) S764).bind (dH XNS "NoPlace")).bind fun p767 S768 => (R.ok [] S768).bind fun l769 S770 => .ok (p767 :: l769) S770).bind fun l765 S766 => .ok (p763 :: l765) S766).bind fun l761 S762 => .ok (p759 :: l761) S762).bind fun l757 S758 => .ok (p755 :: l757) S758).bind xH).bind (xZ ρ 1))
noncomputable def wC : Rho → Sto → R Fl := (fun ρ S => ((zH (ρ[1]?) S).bind fun p771 S772 => ((((zH (ρ[2]?) S772).bind (dH XNS "NotPlain")).bind fun p775 S776 => (((zH (ρ[2]?) S776).bind (dH XNS "NoTable")).bind fun p779 S780 => (((zH (ρ[2]?) S780).bind (dH XNS "NoRule")).bind fun p783 S784 => (((zH (ρ[2]?) S784).bind (dH XNS "NoRow")).bind fun p787 S788 => (R.ok [] S788).bind fun l789 S790 => .ok (p787 :: l789) S790).bind fun l785 S786 => .ok (p783 :: l785) S786).bind fun l781 S782 => .ok (p779 :: l781) S782).bind fun l777 S778 => .ok (p775 :: l777) S778).bind xH).bind fun q773 S774 => wA p771 q773 S774).bind (xZ ρ 1))
noncomputable def wD : Rho → Sto → R Fl := (fun ρ S => ((zH (ρ[1]?) S).bind fun p791 S792 => ((((zH (ρ[2]?) S792).bind (dH XNS "Twice")).bind fun p795 S796 => (((zH (ρ[2]?) S796).bind (dH XNS "NoQuestion")).bind fun p799 S800 => (((zH (ρ[2]?) S800).bind (dH XNS "Double")).bind fun p803 S804 => (R.ok [] S804).bind fun l805 S806 => .ok (p803 :: l805) S806).bind fun l801 S802 => .ok (p799 :: l801) S802).bind fun l797 S798 => .ok (p795 :: l797) S798).bind xH).bind fun q793 S794 => wA p791 q793 S794).bind (xZ ρ 1))
noncomputable def jY : Rho → Sto → R Fl := (fun ρ S => ((zH (ρ[1]?) S).bind fun p807 S808 => ((((zH (ρ[2]?) S808).bind (dH XNS "TooWide")).bind fun p811 S812 => (((zH (ρ[2]?) S812).bind (dH XNS "Ring")).bind fun p815 S816 => (R.ok [] S816).bind fun l817 S818 => .ok (p815 :: l817) S818).bind fun l813 S814 => .ok (p811 :: l813) S814).bind xH).bind fun q809 S810 => wA p807 q809 S810).bind (xZ ρ 1))
noncomputable def yP : Rho → Sto → R Fl := zT (wB) (zT (wC) (zT (wD) ((jY))))
noncomputable def bE : AF := (fun ρ S => ((R.ok [] S).bind xH).bind (xZ ρ 1))
noncomputable def wY : AF := (fun ρ S => (noX (((zH (ρ[0]?) S).bind fun a b => (R.ok [] b).bind fun c d => .ok (a :: c) d) : R (List Er))).bind fun rs e => tryF XNS 2 (fun _ g => .ok (.next ρ) g) yP ρ (zAU 1 zL rs e))
noncomputable def bF : AF := (fun ρ S => ((zH (ρ[1]?) S).bind fun a b => ((((R.ok (.val (.bl true)) b).bind fun c d => ((R.ok (.val (.bl true)) d).bind fun e g => (R.ok [] g).bind fun h i => .ok (e :: h) i).bind fun j l => .ok (c :: j) l).bind xH).bind fun m n => ((((R.ok (.val (.bl false)) n).bind fun o p => (R.ok [] p).bind fun q s => .ok (o :: q) s).bind xH).bind fun t u => (R.ok (.val (.int 11)) u).bind fun v w => cS t v w).bind fun x y => wA m x y).bind fun z A => eqF a z A).bind fun r B => .ok (.ret r) B)
noncomputable def wR : AF := zT (bE) (zT (wY) ((bF)))
noncomputable def yQ (ds : List MV) (S : Sto) : R Er := kU (wR (yC ["_law_thing", "_law_kinds", "e"] ds) S)
noncomputable def jZ : AF := (fun ρ S => (((zH (ρ[0]?) S).bind fun a b => (R.ok [] b).bind fun c d => .ok (a :: c) d).bind fun e g => zU 1 bY e g).bind (xZ ρ 1))
noncomputable def xC : AF := (fun ρ S => (((zH (ρ[1]?) S).bind fun a b => ((R.ok [] b).bind xH).bind fun c d => eqF a c d).bind asB).bind fun k e => if k = true then ((fun ρ S => (((zH (ρ[0]?) S).bind fun g h => (R.ok [] h).bind fun i j => .ok (g :: i) j).bind fun l m => zU 1 yQ l m).bind fun r e => .ok (.ret r) e)) ρ e else (fun ρ S => .ok (.next ρ) S) ρ e)
noncomputable def hJ : AF := (fun ρ S => (((zH (ρ[0]?) S).bind fun a b => (R.ok [] b).bind fun c d => .ok (a :: c) d).bind fun e g => zU 1 zL e g).bind (xZ ρ 2))
noncomputable def dQ : AF := (fun ρ S => (((((zH (ρ[2]?) S).bind fun a b => ((R.ok (.val (.typ "bool")) b).bind fun c d => (R.ok [] d).bind fun e g => .ok (c :: e) g).bind fun h i => .ok (a :: h) i).bind nI).bind fun j l => (asB j l).bind fun m n => .ok (.val (.bl !m)) n).bind fun o p => zJY o p fun q => (((((zH (ρ[2]?) q).bind fun s t => ((R.ok (.val (.typ "str")) t).bind fun u v => (R.ok [] v).bind fun w x => .ok (u :: w) x).bind fun y z => .ok (s :: y) z).bind nI).bind fun A B => ((((zH (ρ[1]?) B).bind fun D G => (R.ok (.val (.int 0)) G).bind fun I J => ixF D I J).bind fun L M => ((R.ok (.val (.typ "str")) M).bind fun N O => (R.ok [] O).bind fun P Q => .ok (N :: P) Q).bind fun T U => .ok (L :: T) U).bind nI).bind fun V X => eqF A V X).bind fun Y Z => zJY Y Z fun a0 => ((zH (ρ[2]?) a0).bind fun a1 a2 => ((zH (ρ[1]?) a2).bind fun a3 a4 => (R.ok (.val (.int 0)) a4).bind fun a5 a6 => ixF a3 a5 a6).bind fun a7 a8 => eqF a1 a7 a8))).bind fun r a9 => .ok (.ret r) a9)
noncomputable def kZ : AF := zT (jZ) (zT (xC) (zT (hJ) ((dQ))))
noncomputable def xN (ds : List MV) (S : Sto) : R Er := kU (kZ (yC ["_law_text", "_law_due_here", "_law_told"] ds) S)
noncomputable def zFS : Rho → Sto → R Fl := (fun ρ S => (((((zH (ρ[4]?) S).bind fun p999 S1000 => (R.ok [] S1000).bind fun l1001 S1002 => .ok (p999 :: l1001) S1002).bind fun r997 S998 => zU 1 xN r997 S998).bind zDI).bind fun k1003 S1004 => .ok (!k1003) S1004).bind fun k S1 => if k = true then ((fun ρ S => (R.ok (.val (.bl false)) S).bind fun r S1 => .ok (.ret r) S1)) ρ S1 else (fun ρ S => .ok (.next ρ) S) ρ S1)
noncomputable def zHA : Rho → Sto → R Fl := (zFS)
noncomputable def zFT : Rho → Sto → R Fl := (fun ρ S => (((((((zH (ρ[2]?) S).bind fun p963 S964 => (R.ok (.val (.int 2)) S964).bind fun q965 S966 => zAO p963 q965 S966).bind fun p967 S968 => ((zH (ρ[3]?) S968).bind fun p971 S972 => (R.ok [] S972).bind fun l973 S974 => .ok (p971 :: l973) S974).bind fun l969 S970 => .ok (p967 :: l969) S970).bind fun r961 S962 => zU 2 kX r961 S962).bind fun p975 S976 => (((((zH (ρ[2]?) S976).bind fun p981 S982 => (R.ok (.val (.int 2)) S982).bind fun q983 S984 => zAO p981 q983 S984).bind fun p985 S986 => ((zH (ρ[3]?) S986).bind fun p989 S990 => (R.ok [] S990).bind fun l991 S992 => .ok (p989 :: l991) S992).bind fun l987 S988 => .ok (p985 :: l987) S988).bind fun r979 S980 => zU 2 kG r979 S980).bind fun p993 S994 => (R.ok [] S994).bind fun l995 S996 => .ok (p993 :: l995) S996).bind fun l977 S978 => .ok (p975 :: l977) S978).bind xH).bind itL).bind fun k S1 => jG (gNm 4) (zHA) k.gs k.ds ρ S1)
noncomputable def zCN : Rho → Sto → R Fl := (zFT)
noncomputable def zFU : Rho → Sto → R Fl := (fun ρ S => (((((zH (ρ[5]?) S).bind fun p1039 S1040 => (R.ok [] S1040).bind fun l1041 S1042 => .ok (p1039 :: l1041) S1042).bind fun r1037 S1038 => zU 1 yQ r1037 S1038).bind zDI).bind fun k1043 S1044 => .ok (!k1043) S1044).bind fun k S1 => if k = true then ((fun ρ S => (R.ok (.val (.bl false)) S).bind fun r S1 => .ok (.ret r) S1)) ρ S1 else (fun ρ S => .ok (.next ρ) S) ρ S1)
noncomputable def zAW : Rho → Sto → R Fl := (zFU)
noncomputable def zHB : AF := (fun ρ S => (((zH (ρ[0]?) S).bind fun a b => (R.ok none b).bind fun c d => ((R.ok (.val (.int 40)) d).bind asI).bind fun e g => zCC a c e g).bind fun h i => (((R.ok (.val (.int 0)) i).bind fun j l => ((R.ok (.val (.int 7)) l).bind fun m n => ((R.ok (.val (.int 9)) n).bind fun o p => (R.ok [] p).bind fun q s => .ok (o :: q) s).bind fun t u => .ok (m :: t) u).bind fun v w => .ok (j :: v) w).bind xH).bind fun x y => wA h x y).bind (xZ ρ 1))
noncomputable def zHC : AF := (fun ρ S => ((((zH (ρ[1]?) S).bind fun a b => (R.ok none b).bind fun c d => (R.ok none d).bind fun e g => zFP 2 a c e g).bind fun h i => (((zH (ρ[1]?) i).bind fun j l => ((R.ok (.val (.int 1)) l).bind asI).bind fun m n => (R.ok none n).bind fun o p => zFP 2 j m o p).bind fun q s => (R.ok [] s).bind fun t u => .ok (q :: t) u).bind fun v w => .ok (h :: v) w).bind itZ).bind fun k x => jG (gTp 2 (zDL (gNm 2) (zDL (gNm 3) zOZ))) (zCN) k.gs k.ds ρ x)
noncomputable def zHD : AF := (fun ρ S => ((((R.ok (.val .non) S).bind fun a b => ((R.ok (.val (.int 7)) b).bind fun c d => ((R.ok (.val (.bl true)) d).bind fun e g => ((((R.ok (.val (.str [97])) g).bind fun h i => (R.ok [] i).bind fun j l => .ok (h :: j) l).bind zIG).bind fun m n => ((((R.ok (.val (.str [97])) n).bind fun o p => (R.ok [] p).bind fun q s => .ok (o :: q) s).bind xH).bind fun t u => (((R.ok [] u).bind zIG).bind fun v w => (R.ok [] w).bind fun x y => .ok (v :: x) y).bind fun z A => .ok (t :: z) A).bind fun B D => .ok (m :: B) D).bind fun G I => .ok (e :: G) I).bind fun J L => .ok (c :: J) L).bind fun M N => .ok (a :: M) N).bind xH).bind itL).bind fun k O => jG (gNm 5) (zAW) k.gs k.ds ρ O)
noncomputable def zMA : AF := (fun ρ S => ((((R.ok (.val (.str [48])) S).bind fun a b => (R.ok [] b).bind fun c d => .ok (a :: c) d).bind fun e g => zU 1 xN e g).bind fun h i => zJY h i fun j => (((R.ok (.val (.str [97, 110, 110])) j).bind fun l m => (R.ok [] m).bind fun n o => .ok (l :: n) o).bind fun p q => zU 1 xN p q)).bind fun r s => .ok (.ret r) s)
noncomputable def zMB : AF := zT (zHB) (zT (zHC) (zT (zHD) ((zMA))))
noncomputable def zIU (ds : List MV) (S : Sto) : R Er := kU (zMB (yC ["_law_script", "_law_cells", "_law_one", "_law_other", "_law_text", "_law_thing"] ds) S)
end
noncomputable def abc : List Nat := [97, 98, 99, 100, 101, 102, 103, 104, 105, 106, 107, 108, 109, 110, 111, 112, 113, 114, 115, 116, 117, 118, 119, 120, 121, 122]
theorem zNI (c n : Int) (x : List Nat) (s : Option MV) (S : Sto) (h : x.length ≤ 1000) : ∃ k, (97 ≤ k ∧ k ≤ 122) ∧ kD [some (.int c), some (.str abc), some (.int n), some (.str x), s] S =
    .ok (.next [some (.int c), some (.str abc), some (.int (n / 26)), some (.str (x ++ [k])), s]) S := by
  obtain ⟨k, hk⟩ := zAT (xs := abc) (i := n % 26) (Int.emod_nonneg _ (by decide)) (by have := Int.emod_lt_of_pos n (show (0 : Int) < 26 by decide); show n % 26 < 26; exact this)
  refine ⟨k, zCM (P := fun k => 97 ≤ k ∧ k ≤ 122) (by decide) hk, ?_⟩
  have h1 : kO [some (.int c), some (.str abc), some (.int n), some (.str x), s] S = .ok (.next [some (.int c), some (.str abc), some (.int n), some (.str (x ++ [k])), s]) S := by
    unfold kO
    simp? [mod_lit (show (0 : Int) < 26 by decide), ix_str (show abc.length ≤ sizeLine by rw [sizeLine_eq]; decide) hk]
    rw [add_str (fits (by rw [List.length_singleton]; omega))]
    rfl
  have h2 : kP [some (.int c), some (.str abc), some (.int n), some (.str (x ++ [k])), s] S = .ok (.next [some (.int c), some (.str abc), some (.int (n / 26)), some (.str (x ++ [k])), s]) S := by
    unfold kP
    simp? [wK (show (0 : Int) < 26 by decide) (show (26 : Int) < 1073741824 by decide)]
  unfold kD
  rw [zD h1, h2]
theorem zFV (c : Int) (S : Sto) : ∀ (ds : List MV) (n : Int) (x : List Nat) (s : Option MV), x.length + ds.length ≤ 1000 → (∀ c ∈ x, 97 ≤ c ∧ c ≤ 122) → ∃ n' x' s', jG (gNm 4) kD [] ds [some (.int c), some (.str abc), some (.int n), some (.str x), s] S =
    .ok (.next [some (.int c), some (.str abc), some (.int n'), some (.str x'), s']) S ∧ x'.length = x.length + ds.length ∧ ∀ c ∈ x', 97 ≤ c ∧ c ≤ 122
  | [], n, x, s, _, hx => ⟨n, x, s, rfl, rfl, hx⟩
  | d :: ds, n, x, s, h, hx => by
    rw [List.length_cons] at h
    obtain ⟨k, hl, hk⟩ := zNI c n x (some d) S (by omega)
    obtain ⟨n', x', s', h1, h2, h3⟩ := zFV c S ds (n / 26) (x ++ [k]) (some d) (by rw [List.length_append, List.length_singleton]; omega) (by
      intro c hc
      rw [List.mem_append, List.mem_singleton] at hc
      rcases hc with hc | rfl
      · exact hx c hc
      · exact hl)
    refine ⟨n', x', s', ?_, by rw [h2, List.length_append, List.length_singleton, List.length_cons]; omega, h3⟩
    rw [jJ rfl hk (nM S)]
    exact h1
theorem zSP (c : Int) (S : Sto) : ∃ x, wE [.int c] S = .ok (.val (.str x)) S ∧ Nm x := by
  have hm0 : 0 ≤ c % 8 := Int.emod_nonneg _ (by decide)
  have hm1 : c % 8 < 8 := Int.emod_lt_of_pos _ (by decide)
  have hn : ((List.range (1 + c % 8).toNat).map fun k => MV.int (k : Nat)).length = (1 + c % 8).toNat := by rw [List.length_map, List.length_range]
  obtain ⟨n', x', s', h1, h2, h3⟩ := zFV c S ((List.range (1 + c % 8).toNat).map fun k => MV.int (k : Nat)) (c / 8) [] none (by rw [hn]; simp only [List.length_nil]; omega) (by simp)
  rw [hn, List.length_nil] at h2
  refine ⟨x', ?_, by omega, by omega, h3⟩
  have e1 : nO [some (.int c), none, none, none, none] S = .ok (.next [some (.int c), some (.str abc), none, none, none]) S := rfl
  have e2 : gL [some (.int c), some (.str abc), none, none, none] S = .ok (.next [some (.int c), some (.str abc), some (.int (c / 8)), none, none]) S := by
    unfold gL
    simp? [wK (show (0 : Int) < 8 by decide) (show (8 : Int) < 1073741824 by decide)]
  have e3 : nP [some (.int c), some (.str abc), some (.int (c / 8)), none, none] S = .ok (.next [some (.int c), some (.str abc), some (.int (c / 8)), some (.str []), none]) S := rfl
  have e4 : gM [some (.int c), some (.str abc), some (.int (c / 8)), some (.str []), none] S = .ok (.next [some (.int c), some (.str abc), some (.int n'), some (.str x'), s']) S := by
    unfold gM
    simp? [mod_lit (show (0 : Int) < 8 by decide)]
    rw [zPY (by omega), bok]
    exact h1
  have hs : yC ["_law_cell", "_law_letters", "_law_number", "_law_name_here", "_law_k"] [.int c] = [some (.int c), none, none, none, none] := rfl
  unfold wE dM
  rw [hs, zD e1, zD e2, zD e3, zD e4]
  rfl
theorem zQE (S : Sto) : cR (.val (.int 10)) (.val (.int 30)) S = .ok (.val (.int (10 ^ 30))) S := rfl
theorem p1012 (S : Sto) : cR (.val (.int 10)) (.val (.int 12)) S = .ok (.val (.int 1000000000000)) S := rfl
theorem p1029 (S : Sto) : cR (.val (.int 10)) (.val (.int 29)) S = .ok (.val (.int (10 ^ 29))) S := rfl
abbrev V2 (c r : Int) : Rho := [some (.int c), some (.int r)]
theorem val2 (c r : Int) (S : Sto) : ∃ d, Vl d ∧ jN (V2 c r) S = if decide (c % 5 = 0) = true then .ok (.ret (.val d)) S else .ok (.next (V2 c r)) S := by
  have h0 : 0 ≤ r % 6 := Int.emod_nonneg _ (by decide)
  have h1 : r % 6 < 6 := Int.emod_lt_of_pos _ (by decide)
  obtain ⟨e, he⟩ := zAT (xs := [MV.int 0, MV.int 1, MV.int (-1), MV.int (10 ^ 30 - 1), MV.int (1 - 10 ^ 30), MV.int (10 ^ 29)]) (i := r % 6) h0 (by show r % 6 < 6; exact h1)
  obtain ⟨v, rfl, hv⟩ : ∃ v, e = .int v ∧ Vl (.int v) := zCM (P := fun e => ∃ v, e = .int v ∧ Vl (.int v)) (by
    intro e he; simp only [List.mem_cons, List.not_mem_nil, or_false] at he
    rcases he with rfl | rfl | rfl | rfl | rfl | rfl <;> exact ⟨_, rfl, by decide, by decide⟩) he
  refine ⟨.int v, hv, ?_⟩
  unfold jN
  simp? [mod_lit (show (0 : Int) < 5 by decide), zQE, p1029, mod_lit (show (0 : Int) < 6 by decide), zKJ he]
theorem val3 (c r : Int) (S : Sto) : ∃ d, Vl d ∧ jO (V2 c r) S = if decide (c % 5 = 1) = true then .ok (.ret (.val d)) S else .ok (.next (V2 c r)) S := by
  have h0 : 0 ≤ r % 23 := Int.emod_nonneg _ (by decide)
  have h1 : r % 23 < 23 := Int.emod_lt_of_pos _ (by decide)
  refine ⟨.int (r % 23 - 11), ⟨by omega, by omega⟩, ?_⟩
  unfold jO
  simp? [mod_lit (show (0 : Int) < 5 by decide), mod_lit (show (0 : Int) < 23 by decide)]
theorem val4 (c r : Int) (S : Sto) : ∃ d, Vl d ∧ jP (V2 c r) S = if decide (c % 5 = 2) = true then .ok (.ret (.val d)) S else .ok (.next (V2 c r)) S := by
  have h0 : 0 ≤ r % 1000000000000 := Int.emod_nonneg _ (by decide)
  have h1 : r % 1000000000000 < 1000000000000 := Int.emod_lt_of_pos _ (by decide)
  have h2 : 0 ≤ (r % 1000000000000 * 48271 + 11) ^ (5 : Int).toNat % (2 * 10 ^ 30 - 1) := Int.emod_nonneg _ (by decide)
  have h3 : (r % 1000000000000 * 48271 + 11) ^ (5 : Int).toNat % (2 * 10 ^ 30 - 1) < 2 * 10 ^ 30 - 1 := Int.emod_lt_of_pos _ (by decide)
  have h4 : zMY (r % 1000000000000 * 48271 + 11) 5 := by
    refine ⟨by decide, ?_⟩
    have hb : Builtin.Int.intBits (r % 1000000000000 * 48271 + 11) ≤ 64 := by
      unfold Builtin.Int.intBits
      split
      · omega
      · rename_i hn
        have hn' : (r % 1000000000000 * 48271 + 11).natAbs ≠ 0 := by omega
        have := (Nat.log2_lt hn').mpr (show (r % 1000000000000 * 48271 + 11).natAbs < 2 ^ 63 by omega)
        omega
    omega
  refine ⟨.int ((r % 1000000000000 * 48271 + 11) ^ (5 : Int).toNat % (2 * 10 ^ 30 - 1) - 10 ^ 30 + 1), ⟨by omega, by omega⟩, ?_⟩
  unfold jP
  simp? [mod_lit (show (0 : Int) < 5 by decide), p1012, mod_lit (show (0 : Int) < 1000000000000 by decide), zAS (show -(2 ^ 64) < (48271 : Int) ∧ (48271 : Int) < 2 ^ 64 by decide), zSH h4, zQE, zDY (show -(2 ^ 64) < (2 : Int) ∧ (2 : Int) < 2 ^ 64 by decide), mod_lit (show (0 : Int) < 2 * 10 ^ 30 - 1 by decide)]
theorem val5 (c r : Int) (S : Sto) : ∃ d, Vl d ∧ jQ (V2 c r) S = if decide (c % 5 = 3) = true then .ok (.ret (.val d)) S else .ok (.next (V2 c r)) S := by
  have h2 : 0 ≤ r % (2 * 10 ^ 30 - 1) := Int.emod_nonneg _ (by decide)
  have h3 : r % (2 * 10 ^ 30 - 1) < 2 * 10 ^ 30 - 1 := Int.emod_lt_of_pos _ (by decide)
  refine ⟨.int (r % (2 * 10 ^ 30 - 1) - 10 ^ 30 + 1), ⟨by omega, by omega⟩, ?_⟩
  unfold jQ
  simp? [mod_lit (show (0 : Int) < 5 by decide), zQE, zDY (show -(2 ^ 64) < (2 : Int) ∧ (2 : Int) < 2 ^ 64 by decide), mod_lit (show (0 : Int) < 2 * 10 ^ 30 - 1 by decide)]
theorem val6 (c r : Int) (S : Sto) : ∃ d, Vl d ∧ jR (V2 c r) S = .ok (.ret (.val d)) S := by
  obtain ⟨x, hx, hn⟩ := zSP r S
  refine ⟨.str x, hn, ?_⟩
  unfold jR
  have hc : zU 1 wE [.val (.int r)] S = .ok (.val (.str x)) S := xI rfl hx (zBJ _ x) (fun l => by simp)
  simp? [hc]
theorem zCO {F G : Rho → Sto → R Fl} {ρ : Rho} {S : Sto} {d : MV} {b : Bool} (h : F ρ S = if b = true then .ok (.ret (.val d)) S else .ok (.next ρ) S) (hd : Vl d) (k : ∃ d, Vl d ∧ G ρ S = .ok (.ret (.val d)) S) : ∃ d, Vl d ∧ zT F G ρ S = .ok (.ret (.val d)) S := by
  cases b with
  | true => exact ⟨d, hd, xJ (by rw [h, if_pos rfl])⟩
  | false =>
    obtain ⟨d', hd', e⟩ := k
    exact ⟨d', hd', by rw [zD (by rw [h, if_neg Bool.false_ne_true]), e]⟩
theorem zQF (c : Int) (S : Sto) : ∃ d, xL [.int c] S = .ok (.val d) S ∧ Vl d := by
  have hs : yC ["_law_cell", "_law_rest"] [.int c] = [some (.int c), none] := rfl
  have e1 : jM [some (.int c), none] S = .ok (.next (V2 c (c / 5))) S := by
    unfold jM
    simp? [wK (show (0 : Int) < 5 by decide) (show (5 : Int) < 1073741824 by decide)]
  obtain ⟨d2, v2, e2⟩ := val2 c (c / 5) S
  obtain ⟨d3, v3, e3⟩ := val3 c (c / 5) S
  obtain ⟨d4, v4, e4⟩ := val4 c (c / 5) S
  obtain ⟨d5, v5, e5⟩ := val5 c (c / 5) S
  obtain ⟨d, hd, e⟩ := zCO e2 v2 (zCO e3 v3 (zCO e4 v4 (zCO e5 v5 (val6 c (c / 5) S))))
  refine ⟨d, ?_, hd⟩
  unfold xL bQ
  rw [hs, zD e1, e]
  rfl
noncomputable def zQG (x : List Nat) : Bool := x.all fun c => decide (97 ≤ c ∧ c ≤ 122)
noncomputable def zED (x : List Nat) : Bool := x.all fun c => decide (48 ≤ c ∧ c ≤ 57)
theorem le_int (i j : Int) (S : Sto) : leF (.val (.int i)) (.val (.int j)) S = .ok (.val (.bl (decide (i ≤ j)))) S := rfl
theorem le_str (i j : List Nat) (S : Sto) : leF (.val (.str i)) (.val (.str j)) S = .ok (.val (.bl (!decide (j < i)))) S := rfl
theorem at0 {α : Type} (c : α) (t : List α) : atI (c :: t) 0 = some c := by
  unfold atI ixN
  simp
theorem zVT (a b : Nat) : ([a] < [b]) ↔ a < b := by
  rw [List.cons_lt_cons_iff]
  simp
theorem zVU (a b : Nat) : (!decide ([b] < [a])) = decide (a ≤ b) := by
  rw [decide_eq_decide.mpr (zVT b a)]
  by_cases h : a ≤ b
  · rw [decide_eq_true h, decide_eq_false (by omega)]; rfl
  · rw [decide_eq_false h, decide_eq_true (by omega)]; rfl
theorem zMC {α : Type} (f : α → Bool) : ∀ l : List α, zAR (l.map fun c => .bl (f c)) = some (l.map f)
  | [] => rfl
  | c :: l => by rw [List.map_cons, List.map_cons]; unfold zAR; rw [zMC f l]; rfl
theorem all_map {α : Type} (f : α → Bool) (l : List α) (S : Sto) : zPJ [.new (l.map fun c => .bl (f c))] S = .ok (.val (.bl (l.all f))) S := by
  show (match (some (l.map fun c => MV.bl (f c))).bind zAR with | some bs => R.ok (Er.val (.bl (bs.all id))) S | none => .no) = _
  rw [show (some (l.map fun c => MV.bl (f c))).bind zAR = some (l.map f) from zMC f l]
  show R.ok (Er.val (.bl ((l.map f).all id))) S = _
  rw [List.all_map]; rfl
theorem len_str {x : List Nat} (h : x.length ≤ 1000) (S : Sto) : zGR [.val (.str x)] S = .ok (.val (.int x.length)) S := if_pos (fits (by omega))
theorem zEE (x : List Nat) (S : Sto) : itS (.val (.str x)) S = .ok ⟨x.map fun c => .str [c], []⟩ S := rfl
noncomputable def sOne (f : Nat → Bool) : MV → MV
  | .str [c] => .bl (f c)
  | _ => .non
theorem zEF {gf : MV → Rho → Sto → R Rho} {cf : Rho → Sto → R Bool} {ef : Rho → Sto → R Er} {ρb : Rho} {S : Sto} (f : Nat → Bool) (x : List Nat) (h : ∀ c, ∃ ρ1, gf (.str [c]) ρb S = .ok ρ1 S ∧ cf ρ1 S = .ok true S ∧ ef ρ1 S = .ok (.val (.bl (f c))) S) :
    kR gf cf ef ρb [] (x.map fun c => .str [c]) S = .ok (x.map fun c => .bl (f c)) S := by
  rw [zIT (F := sOne f) (nM S) fun d hd => by
    obtain ⟨c, _, rfl⟩ := List.mem_map.mp hd
    exact h c]
  rw [List.map_map]
  rfl
noncomputable def dR (x : List Nat) : Bool := (decide (1 ≤ (x.length : Int)) && decide ((x.length : Int) ≤ 8)) && zQG x
theorem name5 (x : List Nat) (h : x.length ≤ 1000) (S : Sto) : zU 1 nG [.val (.str x)] S = .ok (.val (.bl (dR x))) S := xI rfl (by
  show kU (nF [some (.str x)] S) = _
  have e1 : dI [some (.str x)] S = if (decide (1 ≤ (x.length : Int)) && decide ((x.length : Int) ≤ 8)) = true then .ok (.next [some (.str x)]) S else .ok (.ret (.val (.bl false))) S := by
    unfold dI
    simp? [len_str h, chF, le_int]
    cases decide (1 ≤ (x.length : Int)) <;> cases decide ((x.length : Int) ≤ 8) <;> rfl
  have hc := zEF (gf := gNm 0) (cf := nN) (ef := gK) (ρb := blk 1 [] [some (.str x)]) (S := S) (fun c => decide (97 ≤ c ∧ c ≤ 122)) x fun c => ⟨[some (.str [c])], rfl, rfl, by
    unfold gK
    simp? [chF, le_str, zVU]
    rw [Bool.decide_and]
    cases decide (97 ≤ c) <;> cases decide (c ≤ 122) <;> rfl⟩
  have e2 : dJ [some (.str x)] S = .ok (.ret (.val (.bl (zQG x)))) S := by
    unfold dJ
    simp? [zEE]
    rw [if_pos (by rw [List.length_map]; omega), hc]
    simp? [all_map]
    rfl
  unfold nF dR
  cases z : (decide (1 ≤ (x.length : Int)) && decide ((x.length : Int) ≤ 8)) with
  | true => rw [z, if_pos rfl] at e1; rw [zD e1, e2]; rfl
  | false => rw [z, if_neg Bool.false_ne_true] at e1; rw [xJ e1]; rfl) (zLY _ _) (by intro l z; cases z)
noncomputable def bare (x : List Nat) : List Nat := match x with
  | 45 :: r => r
  | _ => x
theorem zAX (x : List Nat) : (bare x).length ≤ x.length := by
  unfold bare
  split
  · simp
  · exact Nat.le_refl _
theorem cut1 (c : Nat) (r : List Nat) : xG (c :: r) (some 1) none = r := by
  unfold xG
  simp [HT.sIx]
noncomputable def zAB (x : List Nat) : Bool := (decide (1 ≤ ((bare x).length : Int)) && decide (((bare x).length : Int) ≤ 30)) && (zED (bare x) && (decide (x = [48]) || !decide ((bare x).take 1 = [48])))
theorem zVV (c : Nat) (S : Sto) : inF false (.val (.str [c])) (.val (.str [48, 49, 50, 51, 52, 53, 54, 55, 56, 57])) S = .ok (.val (.bl (decide (48 ≤ c ∧ c ≤ 57)))) S := by
  show R.ok (Er.val (.bl (decide (c ∈ [48, 49, 50, 51, 52, 53, 54, 55, 56, 57])))) S = _
  rw [show decide (c ∈ [48, 49, 50, 51, 52, 53, 54, 55, 56, 57]) = decide (48 ≤ c ∧ c ≤ 57) from decide_eq_decide.mpr (by simp only [List.mem_cons, List.not_mem_nil, or_false]; omega)]
theorem zSQ (c : Nat) (S : Sto) : inF true (.val (.str [c])) (.val (.str [48, 49, 50, 51, 52, 53, 54, 55, 56, 57])) S = .ok (.val (.bl (!decide (48 ≤ c ∧ c ≤ 57)))) S := by
  show R.ok (Er.val (.bl (!decide (c ∈ [48, 49, 50, 51, 52, 53, 54, 55, 56, 57])))) S = _
  rw [show decide (c ∈ [48, 49, 50, 51, 52, 53, 54, 55, 56, 57]) = decide (48 ≤ c ∧ c ≤ 57) from decide_eq_decide.mpr (by simp only [List.mem_cons, List.not_mem_nil, or_false]; omega)]
theorem zSR (c : Nat) (S : Sto) : inF true (.val (.str [c])) (.val (.str abc)) S = .ok (.val (.bl (!decide (97 ≤ c ∧ c ≤ 122)))) S := by
  show R.ok (Er.val (.bl (!decide (c ∈ abc)))) S = _
  rw [show decide (c ∈ abc) = decide (97 ≤ c ∧ c ≤ 122) from decide_eq_decide.mpr (by unfold abc; simp only [List.mem_cons, List.not_mem_nil, or_false]; omega)]
theorem wnum5 (x : List Nat) (h : x.length ≤ 1000) (S : Sto) : zU 1 xY [.val (.str x)] S = .ok (.val (.bl (zAB x))) S := xI rfl (by
  show kU (xX [some (.str x), none] S) = _
  have hb := zAX x
  have h1 : wL [some (.str x), none] S = .ok (.next [some (.str x), some (.str (bare x))]) S := by
    unfold wL
    simp? [show ∀ S, dF (.val (.str x)) S = true from fun _ => rfl, show ∀ S, swF (.val (.str x)) [.val (.str [45])] S = .ok (.val (.bl (decide (1 ≤ x.length) && decide (x.take 1 = [45])))) S from fun _ => rfl, cut_str (fits (show x.length ≤ 1000000 by omega))]
    match x with
    | [] => rfl
    | c :: r =>
      by_cases hc : c = 45
      · subst hc
        rw [if_pos (by simp), cut1]
        rfl
      · rw [if_neg (by simp [hc])]
        unfold bare
        split
        · rename_i z; cases z; exact absurd rfl hc
        · rfl
  have h2 : wM [some (.str x), some (.str (bare x))] S = if (decide (1 ≤ ((bare x).length : Int)) && decide (((bare x).length : Int) ≤ 30)) = true then .ok (.next [some (.str x), some (.str (bare x))]) S else .ok (.ret (.val (.bl false))) S := by
    unfold wM
    simp? [len_str (show (bare x).length ≤ 1000 by omega), chF, le_int]
    cases decide (1 ≤ ((bare x).length : Int)) <;> cases decide (((bare x).length : Int) ≤ 30) <;> rfl
  have hc := zEF (gf := gNm 0) (cf := kS) (ef := xT) (ρb := blk 1 [] [some (.str x), some (.str (bare x))]) (S := S) (fun c => decide (48 ≤ c ∧ c ≤ 57)) (bare x) fun c => ⟨[some (.str [c])], rfl, rfl, by
    unfold xT
    simp? [zVV]⟩
  have h3 : wN [some (.str x), some (.str (bare x))] S = if zED (bare x) = true then .ok (.next [some (.str x), some (.str (bare x))]) S else .ok (.ret (.val (.bl false))) S := by
    unfold wN
    simp? [zEE]
    rw [if_pos (by rw [List.length_map]; omega), hc]
    simp? [all_map]
    show (if (!zED (bare x)) = true then _ else _) = _
    cases zED (bare x) <;> rfl
  have h4 : 1 ≤ (bare x).length → wO [some (.str x), some (.str (bare x))] S = .ok (.ret (.val (.bl (decide (x = [48]) || !decide ((bare x).take 1 = [48]))))) S := by
    intro hl
    unfold wO
    simp? [eq_str]
    match hz : bare x, hl with
    | c :: t, _ =>
      rw [hz] at hb
      have hi : ∀ S, ixF (.val (.str (c :: t))) (.val (.int 0)) S = .ok (.val (.str [c])) S := fun S => ix_str (fits (by omega)) (at0 c t)
      simp? [orF, hi, zKI (zCL _ [c] [48])]
      cases decide (x = [48]) <;> rfl
  unfold xX zAB
  rw [zD h1]
  cases c1 : (decide (1 ≤ ((bare x).length : Int)) && decide (((bare x).length : Int) ≤ 30)) with
  | false => rw [c1, if_neg Bool.false_ne_true] at h2; rw [xJ h2]; rfl
  | true =>
    rw [c1, if_pos rfl] at h2; rw [zD h2]
    cases c2 : zED (bare x) with
    | false => rw [c2, if_neg Bool.false_ne_true] at h3; rw [xJ h3]; rfl
    | true =>
      rw [c2, if_pos rfl] at h3; rw [zD h3, h4 (by rw [Bool.and_eq_true, decide_eq_true_eq] at c1; omega)]; rfl) (zLY _ _) (by intro l z; cases z)
noncomputable def valOf (x : List Nat) : Int := match x with
  | 45 :: r => -((PySem.NumText.digitsVal r : Nat) : Int)
  | _ => ((PySem.NumText.digitsVal x : Nat) : Int)
theorem zQH (x : List Nat) : (∃ r, x = 45 :: r) ∨ ∀ r, x ≠ 45 :: r := by
  by_cases h : ∃ r, x = 45 :: r
  · exact .inl h
  · exact .inr fun r e => h ⟨r, e⟩
theorem zCP {x : List Nat} (h : ∀ r, x ≠ 45 :: r) : bare x = x := by
  unfold bare
  split
  · exact absurd rfl (h _)
  · rfl
theorem zQI {x : List Nat} (h : ∀ r, x ≠ 45 :: r) : valOf x = ((PySem.NumText.digitsVal x : Nat) : Int) := by
  unfold valOf
  split
  · exact absurd rfl (h _)
  · rfl
theorem zHE {x : List Nat} (h : zED x = true) : PySem.NumText.AllDigits x := fun c hc => of_decide_eq_true (List.all_eq_true.mp h c hc)
theorem int5 {x : List Nat} (h : zAB x = true) (hl : x.length ≤ 100) (S : Sto) : zES [.val (.str x)] S = .ok (.val (.int (valOf x))) S := by
  unfold zAB at h
  rw [Bool.and_eq_true, Bool.and_eq_true, Bool.and_eq_true, decide_eq_true_eq] at h
  obtain ⟨⟨h1, _⟩, h2, _⟩ := h
  have hs : (mkS x).length ≤ 4300 := by rw [yH]; omega
  have hv : PySem.intText? (mkS x) = some (valOf x) := by
    rcases zQH x with ⟨r, rfl⟩ | hx
    · exact PySem.intText_neg (x := mkS (45 :: r)) (cs := r) (kT _) (zHE h2) (by rintro rfl; simp [bare] at h1) hs
    · rw [zCP hx] at h1 h2
      have := PySem.intText_digits (x := mkS x) (by rw [kT]; exact zHE h2) (by rw [kT]; rintro rfl; simp at h1) hs
      rw [kT] at this
      rw [zQI hx]
      exact this
  show (match PySem.intText? (mkS x) with | some n => if x.length ≤ 640 then R.ok (Er.val (.int n)) S else .no | none => .no) = _
  rw [hv]
  exact if_pos (by omega)
theorem rv5 (x : List Nat) (hl : x.length ≤ 100) (S : Sto) : zL [.str x] S = if dR x = true then .ok (.val (.str x)) S else if zAB x = true then .ok (.val (.int (valOf x))) S else .exc "NoText" [] S := by
  show kU (xK [some (.str x)] S) = _
  have e1 : wP [some (.str x)] S = .ok (.next [some (.str x)]) S := rfl
  have e2 : jK [some (.str x)] S = if dR x = true then .ok (.ret (.val (.str x))) S else .ok (.next [some (.str x)]) S := by
    unfold jK
    simp? [name5 x (by omega)]
  have e3 : jL [some (.str x)] S = if zAB x = true then .ok (.ret (.val (.int (valOf x)))) S else .ok (.next [some (.str x)]) S := by
    unfold jL
    simp? [wnum5 x (by omega)]
    cases z : zAB x with
    | true => rw [if_pos rfl, if_pos rfl, int5 z hl]; rfl
    | false => rfl
  have e4 : dL [some (.str x)] S = .exc "NoText" [] S := rfl
  unfold xK
  rw [zD e1]
  cases z1 : dR x with
  | true => rw [z1, if_pos rfl] at e2; rw [xJ e2]; rfl
  | false =>
    rw [z1, if_neg Bool.false_ne_true] at e2
    rw [zD e2, if_neg Bool.false_ne_true]
    cases z2 : zAB x with
    | true => rw [z2, if_pos rfl] at e3; rw [xJ e3]; rfl
    | false =>
      rw [z2, if_neg Bool.false_ne_true] at e3
      rw [zD e3, e4]; rfl
theorem zNJ {n : Nat} {F : List MV → Sto → R Er} {rs : List Er} {S : Sto} {c : Str} (hn : rs.length = n) (hF : F (zK rs S).1 (zK rs S).2 = .exc c [] S) : zAU n F rs S = .exc c [] S := by
  unfold zAU
  rw [if_pos hn, hF]
  show (if ([] : List (Str × MV)).all (fun p => zEA p.2) = true then (cL S (.val .non) S).bind fun _ S3 => R.exc c [] S3 else .no) = _
  rw [if_pos (show ([] : List (Str × MV)).all (fun p => zEA p.2) = true from rfl)]
  have := zIR (S := S) (T := []) (d := .non) (zVH _) (by intro l z; cases z)
  rw [List.append_nil] at this
  rw [this]; rfl
theorem zVW {S : Sto} {l : Nat} {c : Str} (h : S[l]? = some (.ins c [])) (hc : c ∈ XNS) (c2 : Str) : dH XNS c2 (.val (.loc l)) S = .ok (.val (.bl (decide (c = c2)))) S := by
  unfold dH
  dsimp only
  rw [h]
  exact if_pos hc
theorem zVX {S : Sto} {l : Nat} {c : Str} (h : S[l]? = some (.ins c [])) (hc : c ∈ XNS) : zNH XNS (.val (.loc l)) S = .ok (.val (.bl true)) S := by
  unfold zNH
  dsimp only
  rw [h]
  exact if_pos hc
theorem zQJ : ("NoText" : Str) ∈ XNS := by decide
abbrev ff : MV := .bl false
theorem zVY (d : MV) (S : Sto) : ∃ T, yP [some d, some (.loc S.length), some (.loc (S.length + 1))] (S ++ [.lst [], .ins "NoText" []]) = .ok (.next [some d, some (.loc (S.length + 5)), some (.loc (S.length + 1))]) (S ++ T) ∧
    (S ++ T)[S.length + 5]? = some (.lst [.bl true, .bl true, ff, ff, ff, ff, ff, ff, ff, ff, ff, ff, ff]) := by
  have at_ : ∀ (U : Sto) (k : Nat), (S ++ U)[S.length + k]? = U[k]? := fun U k => by rw [List.getElem?_append_right (by omega)]; congr 1; omega
  have n1 : decide (("NoText" : Str) = "TooGreat") = false := by decide
  have n2 : decide (("NoText" : Str) = "NoPlace") = false := by decide
  have n3 : decide (("NoText" : Str) = "NotPlain") = false := by decide
  have n4 : decide (("NoText" : Str) = "NoTable") = false := by decide
  have n5 : decide (("NoText" : Str) = "NoRule") = false := by decide
  have n6 : decide (("NoText" : Str) = "NoRow") = false := by decide
  have n7 : decide (("NoText" : Str) = "Twice") = false := by decide
  have n8 : decide (("NoText" : Str) = "NoQuestion") = false := by decide
  have n9 : decide (("NoText" : Str) = "Double") = false := by decide
  have n10 : decide (("NoText" : Str) = "TooWide") = false := by decide
  have n11 : decide (("NoText" : Str) = "Ring") = false := by decide
  have n0 : decide (("NoText" : Str) = "NoText") = true := by decide
  refine ⟨[.lst [], .ins "NoText" [], .lst [.bl true, .bl true, ff, ff], .lst [.bl true, .bl true, ff, ff, ff, ff, ff, ff], .lst [.bl true, .bl true, ff, ff, ff, ff, ff, ff, ff, ff, ff], .lst [.bl true, .bl true, ff, ff, ff, ff, ff, ff, ff, ff, ff, ff, ff]], ?_, by rw [at_]; rfl⟩
  have x1 : ∀ U c2, dH XNS c2 (.val (.loc (S.length + 1))) (S ++ .lst [] :: .ins "NoText" [] :: U) = .ok (.val (.bl (decide ("NoText" = c2)))) (S ++ .lst [] :: .ins "NoText" [] :: U) := fun U c2 => zVW (by rw [at_]; rfl) zQJ c2
  have x2 : ∀ U, zNH XNS (.val (.loc (S.length + 1))) (S ++ .lst [] :: .ins "NoText" [] :: U) = .ok (.val (.bl true)) (S ++ .lst [] :: .ins "NoText" [] :: U) := fun U => zVX (by rw [at_]; rfl) zQJ
  have ad : ∀ (U : Sto) (k : Nat) (x y : List MV), U[k]? = some (.lst x) → x.length + y.length ≤ 1000 → wA (.val (.loc (S.length + k))) (.new y) (S ++ U) = .ok (.new (x ++ y)) (S ++ U) := fun U k x y h1 h2 => zKH (zSM (by rw [at_]; exact h1)) rfl (fits (by omega))
  have l4 : ∀ (a b c d : MV) (S : Sto), xH [.val a, .val b, .val c, .val d] S = .ok (.new [a, b, c, d]) S := fun _ _ _ _ _ => dG (by simp)
  have ap : ∀ (U : Sto) (o : MO), S ++ U ++ [o] = S ++ (U ++ [o]) := fun U o => List.append_assoc ..
  have ln : ∀ U : Sto, (S ++ U).length = S.length + U.length := fun U => List.length_append
  have a2 := ad [.lst [], .ins "NoText" [], .lst [.bl true, .bl true, ff, ff]] 2 [.bl true, .bl true, ff, ff] [ff, ff, ff, ff] rfl (by decide)
  have a3 := ad [.lst [], .ins "NoText" [], .lst [.bl true, .bl true, ff, ff], .lst [.bl true, .bl true, ff, ff, ff, ff, ff, ff]] 3 [.bl true, .bl true, ff, ff, ff, ff, ff, ff] [ff, ff, ff] rfl (by decide)
  have a4 := ad [.lst [], .ins "NoText" [], .lst [.bl true, .bl true, ff, ff], .lst [.bl true, .bl true, ff, ff, ff, ff, ff, ff], .lst [.bl true, .bl true, ff, ff, ff, ff, ff, ff, ff, ff, ff]] 4 [.bl true, .bl true, ff, ff, ff, ff, ff, ff, ff, ff, ff] [ff, ff] rfl (by decide)
  have s1 : wB [some d, some (.loc S.length), some (.loc (S.length + 1))] (S ++ [.lst [], .ins "NoText" []]) = .ok (.next [some d, some (.loc (S.length + 2)), some (.loc (S.length + 1))]) (S ++ [.lst [], .ins "NoText" [], .lst [.bl true, .bl true, ff, ff]]) := by
    unfold wB
    simp? [x1, x2, n0, n1, n2, l4, ap, ln, List.length_cons, List.length_nil, List.cons_append, List.nil_append]
    rfl
  have s2 : wC [some d, some (.loc (S.length + 2)), some (.loc (S.length + 1))] (S ++ [.lst [], .ins "NoText" [], .lst [.bl true, .bl true, ff, ff]]) = .ok (.next [some d, some (.loc (S.length + 3)), some (.loc (S.length + 1))]) (S ++ [.lst [], .ins "NoText" [], .lst [.bl true, .bl true, ff, ff], .lst [.bl true, .bl true, ff, ff, ff, ff, ff, ff]]) := by
    unfold wC
    simp? [x1, n3, n4, n5, n6, l4, ap, ln, List.length_cons, List.length_nil, List.cons_append, List.nil_append, a2]
  have s3 : wD [some d, some (.loc (S.length + 3)), some (.loc (S.length + 1))] (S ++ [.lst [], .ins "NoText" [], .lst [.bl true, .bl true, ff, ff], .lst [.bl true, .bl true, ff, ff, ff, ff, ff, ff]]) = .ok (.next [some d, some (.loc (S.length + 4)), some (.loc (S.length + 1))]) (S ++ [.lst [], .ins "NoText" [], .lst [.bl true, .bl true, ff, ff], .lst [.bl true, .bl true, ff, ff, ff, ff, ff, ff], .lst [.bl true, .bl true, ff, ff, ff, ff, ff, ff, ff, ff, ff]]) := by
    unfold wD
    simp? [x1, n7, n8, n9, ap, ln, List.length_cons, List.length_nil, List.cons_append, List.nil_append, a3]
  unfold yP
  rw [zD s1, zD s2, zD s3]
  unfold jY
  simp? [x1, n10, n11, ap, ln, List.length_cons, List.length_nil, List.cons_append, List.nil_append, a4]
theorem zIV (d : MV) (S : Sto) (h : zL [d] (S ++ [.lst []]) = .exc "NoText" [] (S ++ [.lst []])) : zU 1 yQ [.val d] S = .ok (.val (.bl true)) S := by
  obtain ⟨T, hT, hk⟩ := zVY d S
  refine zDX (T := T) rfl ?_ (zLY _ _) (by intro l z; cases z)
  show kU (wR [some d, none, none] S) = _
  have e1 : bE [some d, none, none] S = .ok (.next [some d, some (.loc S.length), none]) (S ++ [.lst []]) := rfl
  have e2 : wY [some d, some (.loc S.length), none] (S ++ [.lst []]) = .ok (.next [some d, some (.loc (S.length + 5)), none]) (S ++ T) := by
    have hx : zAU 1 zL [.val d] (S ++ [MO.lst []]) = .exc "NoText" [] (S ++ [MO.lst []]) := zNJ rfl h
    unfold wY
    simp? [nZ, hx]
    show (if ("NoText" : Str) ∈ XNS ∧ ([] : List (Str × MV)) = [] then (noX (yP [some d, some (.loc S.length), some (.loc (S ++ [MO.lst []]).length)] (S ++ [MO.lst []] ++ [.ins "NoText" []]))).bind (endF 2) else .no) = _
    rw [if_pos ⟨zQJ, rfl⟩, List.length_append, List.length_singleton, List.append_assoc]
    show (noX (yP [some d, some (.loc S.length), some (.loc (S.length + 1))] (S ++ [.lst [], .ins "NoText" []]))).bind (endF 2) = _
    rw [hT]
    rfl
  unfold wR
  rw [zD e1, zD e2]
  have hq : eqF (.val (.loc (S.length + 5))) (.new [.bl true, .bl true, ff, ff, ff, ff, ff, ff, ff, ff, ff, ff, ff]) (S ++ T) = .ok (.val (.bl true)) (S ++ T) := by
    have hv : zBG (S ++ T) zR (.val (.loc (S.length + 5))) (.new [.bl true, .bl true, ff, ff, ff, ff, ff, ff, ff, ff, ff, ff, ff]) = some true := by
      unfold zBG
      rw [show vwE (S ++ T) (.val (.loc (S.length + 5))) = some (.ls [.bl true, .bl true, ff, ff, ff, ff, ff, ff, ff, ff, ff, ff, ff]) by show (gA (S ++ T) (.val (.loc (S.length + 5)))).map Vw.ls = _; rw [zIS hk]; rfl]
      rfl
    unfold eqF
    rw [hv]
  unfold bF
  have ha : wA (.new [.bl true, .bl true]) (.new [ff, ff, ff, ff, ff, ff, ff, ff, ff, ff, ff]) (S ++ T) = .ok (.new [.bl true, .bl true, ff, ff, ff, ff, ff, ff, ff, ff, ff, ff, ff]) (S ++ T) := zKH (x := [.bl true, .bl true]) (y := [ff, ff, ff, ff, ff, ff, ff, ff, ff, ff, ff]) rfl rfl (fits (by decide))
  simp? [show ∀ S, cS (.new [ff]) (.val (.int 11)) S = .ok (.new [ff, ff, ff, ff, ff, ff, ff, ff, ff, ff, ff]) S from fun S => rfl]
  rw [ha, bok, hq]
  rfl
theorem zBK {gf : MV → Rho → Sto → R Rho} {cf : Rho → Sto → R Bool} {ef : Rho → Sto → R Er} {ρb : Rho} {S : Sto} (p : Nat → Bool) (h : ∀ c, ∃ ρ1, gf (.str [c]) ρb S = .ok ρ1 S ∧ cf ρ1 S = .ok (p c) S ∧ ef ρ1 S = .ok (.val (.str [c])) S) :
    ∀ x : List Nat, kR gf cf ef ρb [] (x.map fun c => .str [c]) S = .ok ((x.filter p).map fun c => .str [c]) S
  | [] => rfl
  | c :: x => by
    obtain ⟨ρ1, h1, h2, h3⟩ := h c
    have e := zBK p h x
    rw [List.map_cons]
    unfold kR
    rw [h1, nZ, bok, h2, nZ, bok]
    cases z : p c with
    | true =>
      rw [if_pos rfl, h3, nZ, bok, List.filter_cons_of_pos z]
      unfold zDM
      rw [bok, if_pos (nM S), e]
      rfl
    | false => rw [if_neg Bool.false_ne_true, if_pos (nM S), e, List.filter_cons_of_neg (by rw [z]; exact Bool.false_ne_true)]
theorem zVZ (ds : List MV) (S : Sto) : eqF (.new ds) (.new []) S = .ok (.val (.bl ds.isEmpty)) S := by
  cases ds with
  | nil => rfl
  | cons d ds => rfl
theorem zWA (ds : List MV) (S : Sto) : neF (.new ds) (.new []) S = .ok (.val (.bl !ds.isEmpty)) S := by
  cases ds with
  | nil => rfl
  | cons d ds => rfl
theorem zEG (p : Nat → Bool) (x : List Nat) : ((x.filter fun c => !p c).map fun c => MV.str [c]).isEmpty = x.all p := by
  induction x with
  | nil => rfl
  | cons c x ih =>
    rw [List.all_cons]
    cases z : p c with
    | true => rw [List.filter_cons_of_neg (by rw [z]; decide), ih]; rfl
    | false => rw [List.filter_cons_of_pos (by rw [z]; rfl)]; rfl
noncomputable def upB (x : List Nat) : Bool := !decide (x = []) && zQG x
theorem due1 (x : List Nat) (h : x.length ≤ 100) (S : Sto) : bR [some (.str x), none, none, none] S = if upB x = true then .ok (.ret (.new ([MV.str x].drop (x.length / 9)))) S else .ok (.next [some (.str x), none, none, none]) S := by
  have hc := zBK (gf := gNm 0) (cf := jW) (ef := dN) (ρb := blk 1 [] [some (.str x), none, none, none]) (S := S) (fun c => !decide (97 ≤ c ∧ c ≤ 122)) (fun c => ⟨[some (.str [c])], rfl, by
    unfold jW
    show (((R.ok (Er.val (.str [c])) S).bind fun p S1 => (R.ok (Er.val (.str abc)) S1).bind fun q S2 => inF true p q S2).bind asB) = _
    simp? [zSR], rfl⟩) x
  unfold bR upB
  simp? [zKI (zCL _ x []), zEE]
  cases z : decide (x = []) with
  | true => rfl
  | false =>
    rw [show (!false) = true from rfl, if_pos rfl, if_pos (by rw [List.length_map]; omega), hc]
    simp? [zVZ, zEG, len_str (show x.length ≤ 1000 by omega), wK (show (0 : Int) < 9 by decide) (show (9 : Int) < 1073741824 by decide)]
    rw [show (x.all fun c => decide (97 ≤ c ∧ c ≤ 122)) = zQG x from rfl, Bool.true_and]
    cases zQG x with
    | false => rfl
    | true =>
      rw [if_pos rfl, if_pos rfl]
      show ((zCC (.new [.str x]) (some ((x.length : Int) / 9)) none S).bind fun r S1 => R.ok (Fl.ret r) S1) = _
      have : xG [MV.str x] (some ((x.length : Int) / 9)) none = [MV.str x].drop (x.length / 9) := by
        have e : ((x.length : Int) / 9) = ((x.length / 9 : Nat) : Int) := by omega
        rw [e]
        unfold xG HT.sIx
        generalize x.length / 9 = k
        match k with
        | 0 => rfl
        | 1 => rfl
        | k + 2 =>
          simp
          refine .inr ?_
          rw [if_neg (by omega)]
          omega
      show ((R.ok (Er.new (xG [MV.str x] (some ((x.length : Int) / 9)) none)) S).bind fun r S1 => R.ok (Fl.ret r) S1) = _
      rw [this]
      rfl
theorem cut0 (x : List Nat) : xG x (some 0) none = x := by
  unfold xG
  simp [HT.sIx]
theorem due2 (x : List Nat) (h : x.length ≤ 100) (S : Sto) : bS [some (.str x), none, none, none] S = .ok (.next [some (.str x), some (.str (bare x)), none, none]) S := by
  unfold bS
  simp? [cut_str (fits (show x.length ≤ 1000000 by omega)), zSN x 1 (by decide), eq_str, show ∀ b S, zES [.val (.bl b)] S = .ok (.val (.int (if b then 1 else 0))) S from fun _ _ => rfl]
  rcases zQH x with ⟨r, rfl⟩ | hx
  · rw [show decide ((45 :: r).take (1 : Int).toNat = [45]) = true from decide_eq_true (by simp)]
    simp? [cut1, cut_str (fits (show (45 :: r).length ≤ 1000000 by omega))]
    rfl
  · rw [show decide (x.take (1 : Int).toNat = [45]) = false from decide_eq_false (by
      match x with
      | [] => simp
      | c :: r => intro z; exact hx r (by simp at z; rw [z]))]
    simp? [cut0, zCP hx, cut_str (fits (show x.length ≤ 1000000 by omega))]
    rw [show (if false = true then (1 : Int) else 0) = 0 from rfl, cut0]
noncomputable def okB (x : List Nat) : Bool := (decide (1 ≤ (x.length : Int)) && decide ((x.length : Int) ≤ 30)) && zED x
theorem due3 (x : List Nat) (h : x.length ≤ 100) (S : Sto) : bT [some (.str x), some (.str (bare x)), none, none] S = if okB (bare x) = true then .ok (.next [some (.str x), some (.str (bare x)), none, none]) S else .ok (.ret (.new [])) S := by
  have hb := zAX x
  have hc := zBK (gf := gNm 0) (cf := jX) (ef := dO) (ρb := blk 1 [] [some (.str x), some (.str (bare x)), none, none]) (S := S) (fun c => !decide (48 ≤ c ∧ c ≤ 57)) (fun c => ⟨[some (.str [c])], rfl, by
    unfold jX
    simp? [zSQ], rfl⟩) (bare x)
  unfold bT okB
  simp? [eq_str, len_str (show (bare x).length ≤ 1000 by omega), zEE, show ∀ (i j : Int) S, gtF (.val (.int i)) (.val (.int j)) S = .ok (.val (.bl (decide (i > j)))) S from fun _ _ _ => rfl]
  cases z : bare x with
  | nil => rfl
  | cons c r =>
    rw [← z]
    rw [show decide (bare x = []) = false from decide_eq_false (by rw [z]; simp), if_neg Bool.false_ne_true]
    rw [show decide (1 ≤ ((bare x).length : Int)) = true from decide_eq_true (by rw [z, List.length_cons]; omega), Bool.true_and]
    by_cases hl : ((bare x).length : Int) ≤ 30
    · rw [decide_eq_true hl, show decide (((bare x).length : Int) > 30) = false from decide_eq_false (by omega), if_neg Bool.false_ne_true, Bool.true_and, if_pos (by rw [List.length_map]; omega), hc]
      simp? [zWA, zEG]
      show (if (!zED (bare x)) = true then _ else _) = _
      cases zED (bare x) <;> rfl
    · rw [decide_eq_false hl, show decide (((bare x).length : Int) > 30) = true from decide_eq_true (by omega)]
      rfl
theorem due4 (x : List Nat) (h : x.length ≤ 100) (hb : 1 ≤ (bare x).length) (S : Sto) : bU [some (.str x), some (.str (bare x)), none, none] S = if (decide (x = [48]) || !decide ((bare x).take 1 = [48])) = true then .ok (.next [some (.str x), some (.str (bare x)), none, none]) S else .ok (.ret (.new [])) S := by
  have hl := zAX x
  unfold bU
  match hz : bare x, hb with
  | c :: t, _ =>
    rw [hz] at hl
    have hi : ∀ S, ixF (.val (.str (c :: t))) (.val (.int 0)) S = .ok (.val (.str [c])) S := fun S => ix_str (fits (by omega)) (at0 c t)
    simp? [hi, eq_str, zKI (zCL _ x [48])]
    show (((if decide ([c] = [48]) = true then R.ok (!decide (x = [48])) S else R.ok false S).bind _) : R Fl) = if (decide (x = [48]) || !decide ([c] = [48])) = true then _ else _
    cases decide ([c] = [48]) <;> cases decide (x = [48]) <;> rfl
theorem idx5 {c : Nat} (h : 48 ≤ c ∧ c ≤ 57) (S : Sto) : zIN (.val (.str [48, 49, 50, 51, 52, 53, 54, 55, 56, 57])) [.val (.str [c])] S = .ok (.val (.int ((c - 48 : Nat) : Int))) S := by
  have : strIdx [48, 49, 50, 51, 52, 53, 54, 55, 56, 57] [c] = some (c - 48) := by
    obtain ⟨h1, h2⟩ := h
    have : c = 48 ∨ c = 49 ∨ c = 50 ∨ c = 51 ∨ c = 52 ∨ c = 53 ∨ c = 54 ∨ c = 55 ∨ c = 56 ∨ c = 57 := by omega
    rcases this with rfl | rfl | rfl | rfl | rfl | rfl | rfl | rfl | rfl | rfl <;> decide +kernel
  show (match strIdx [48, 49, 50, 51, 52, 53, 54, 55, 56, 57] [c] with | some i => R.ok (Er.val (.int (i : Nat))) S | none => .no) = _
  rw [this]
theorem zIW (a b : Option MV) (S : Sto) : ∀ (r : List Nat) (n : Nat) (s : Option MV), PySem.NumText.AllDigits r → ∃ s', jG (gNm 3) kY [] (r.map fun c => .str [c]) [a, b, some (.int (n : Nat)), s] S = .ok (.next [a, b, some (.int ((r.foldl (fun acc c => acc * 10 + (c - 48)) n : Nat) : Int)), s']) S
  | [], n, s, _ => ⟨s, rfl⟩
  | c :: r, n, s, h => by
    obtain ⟨s', e⟩ := zIW a b S r (n * 10 + (c - 48)) (some (.str [c])) h.tail
    refine ⟨s', ?_⟩
    have hb : kY [a, b, some (.int (n : Nat)), some (.str [c])] S = .ok (.next [a, b, some (.int ((n * 10 + (c - 48) : Nat) : Int)), some (.str [c])]) S := by
      unfold kY dP
      simp? [zAS (show -(2 ^ 64) < (10 : Int) ∧ (10 : Int) < 2 ^ 64 by decide), show ∀ S, dF (.val (.str [48, 49, 50, 51, 52, 53, 54, 55, 56, 57])) S = true from fun _ => rfl, idx5 h.head]
      rw [show ((n : Int) * 10 + ((c - 48 : Nat) : Int)) = ((n * 10 + (c - 48) : Nat) : Int) by omega]
    rw [List.map_cons, jJ rfl hb (nM S)]
    exact e
theorem due7 (x : List Nat) (h : x.length ≤ 100) (hb : 1 ≤ (bare x).length) (s' : Option MV) (S : Sto) : bW [some (.str x), some (.str (bare x)), some (.int ((PySem.NumText.digitsVal (bare x) : Nat) : Int)), s'] S = .ok (.ret (.new [.int (valOf x)])) S := by
  have hl := zAX x
  unfold bW
  match x, hl, h with
  | [], hl, _ => rw [List.length_nil] at hl; omega
  | c :: t, _, h =>
    have hi : ∀ S, ixF (.val (.str (c :: t))) (.val (.int 0)) S = .ok (.val (.str [c])) S := fun S => ix_str (fits (by omega)) (at0 c t)
    simp? [hi, eq_str, show ∀ b S, zES [.val (.bl b)] S = .ok (.val (.int (if b then 1 else 0))) S from fun _ _ => rfl]
    by_cases hc : c = 45
    · subst hc
      rw [show decide (([45] : List Nat) = [45]) = true from rfl]
      show (((R.ok (Er.val (.int (0 - ((PySem.NumText.digitsVal t : Nat) : Int)))) S).bind fun p S1 => R.ok [p] S1).bind xH).bind (fun r S1 => R.ok (Fl.ret r) S1) = _
      simp? [bok]
      rw [show (0 : Int) - ((PySem.NumText.digitsVal t : Nat) : Int) = valOf (45 :: t) by show (0 : Int) - _ = -((PySem.NumText.digitsVal t : Nat) : Int); omega]
    · rw [show decide ([c] = [45]) = false from decide_eq_false (by simpa using hc)]
      have hx : ∀ r, c :: t ≠ 45 :: r := fun r z => hc (by cases z; rfl)
      show (((R.ok (Er.val (.int ((PySem.NumText.digitsVal (bare (c :: t)) : Nat) : Int))) S).bind fun p S1 => R.ok [p] S1).bind xH).bind (fun r S1 => R.ok (Fl.ret r) S1) = _
      simp? [bok]
      rw [zCP hx, zQI hx]
noncomputable def gB (x : List Nat) : List MV := if upB x = true then [MV.str x].drop (x.length / 9) else if zAB x = true then [.int (valOf x)] else []
theorem zWB (x : List Nat) (h : x.length ≤ 100) (S : Sto) : zU 1 bY [.val (.str x)] S = .ok (.new (gB x)) S := by
  have hlo : loL S.length (gB x) := zPU fun d hd => by
    unfold gB at hd
    split at hd
    · have := List.mem_of_mem_drop hd
      rw [List.mem_singleton] at this
      subst this; exact zBJ _ _
    · split at hd
      · rw [List.mem_singleton] at hd
        subst hd; exact zGW _ _
      · simp at hd
  refine zPW (T := []) rfl ?_ hlo
  rw [List.append_nil]
  show kU (bX [some (.str x), none, none, none] S) = _
  have e1 := due1 x h S
  have e3 := due3 x h S
  unfold bX gB
  cases z : upB x with
  | true => rw [z, if_pos rfl] at e1; rw [xJ e1]; rfl
  | false =>
    rw [z, if_neg Bool.false_ne_true] at e1
    rw [zD e1, zD (due2 x h S), if_neg Bool.false_ne_true]
    have hn : zAB x = (okB (bare x) && (decide (x = [48]) || !decide ((bare x).take 1 = [48]))) := by
      unfold zAB okB
      simp only [Bool.and_assoc]
    rw [hn]
    cases z3 : okB (bare x) with
    | false => rw [z3, if_neg Bool.false_ne_true] at e3; rw [xJ e3]; rfl
    | true =>
      rw [z3, if_pos rfl] at e3
      unfold okB at z3
      rw [Bool.and_eq_true, Bool.and_eq_true, decide_eq_true_eq] at z3
      have hb : 1 ≤ (bare x).length := by omega
      have e4 := due4 x h hb S
      rw [zD e3, Bool.true_and]
      cases z4 : (decide (x = [48]) || !decide ((bare x).take 1 = [48])) with
      | false => rw [z4, if_neg Bool.false_ne_true] at e4; rw [xJ e4]; rfl
      | true =>
        rw [z4, if_pos rfl] at e4
        obtain ⟨s', el⟩ := zIW (some (.str x)) (some (.str (bare x))) S (bare x) 0 none (zHE z3.2)
        have e5 : zAV [some (.str x), some (.str (bare x)), none, none] S = .ok (.next [some (.str x), some (.str (bare x)), some (.int ((0 : Nat) : Int)), none]) S := rfl
        have e6 : bV [some (.str x), some (.str (bare x)), some (.int ((0 : Nat) : Int)), none] S = .ok (.next [some (.str x), some (.str (bare x)), some (.int ((PySem.NumText.digitsVal (bare x) : Nat) : Int)), s']) S := by
          unfold bV
          simp? [zEE]
          exact el
        rw [zD e4, zD e5, zD e6, due7 x h hb s' S]
        rfl
theorem zEH {S : Sto} {l : Nat} {ds : List MV} (h : S[l]? = some (.lst ds)) : eqF (.val (.loc l)) (.new []) S = .ok (.val (.bl ds.isEmpty)) S := by
  have hv : vwE S (.val (.loc l)) = some (.ls ds) := by
    show (gA S (.val (.loc l))).map Vw.ls = _
    rw [zIS h]; rfl
  unfold eqF zBG
  rw [hv]
  cases ds <;> rfl
theorem zSS {x : List Nat} (h : dR x = true) : upB x = true ∧ x.length / 9 = 0 := by
  unfold dR at h
  rw [Bool.and_eq_true, Bool.and_eq_true, decide_eq_true_eq, decide_eq_true_eq] at h
  unfold upB
  refine ⟨?_, by omega⟩
  rw [h.2, show decide (x = []) = false from decide_eq_false (by rintro rfl; simp at h)]
  rfl
theorem zWC {x : List Nat} (h : upB x = true) : zAB x = false := by
  unfold upB at h
  rw [Bool.and_eq_true] at h
  cases x with
  | nil => exact absurd h.1 (by decide)
  | cons c t =>
    have hc : 97 ≤ c ∧ c ≤ 122 := of_decide_eq_true (List.all_eq_true.mp h.2 c List.mem_cons_self)
    have hb : bare (c :: t) = c :: t := zCP fun r z => by cases z; omega
    unfold zAB
    rw [hb]
    have : zED (c :: t) = false := by
      unfold zED
      rw [List.all_cons, show decide (48 ≤ c ∧ c ≤ 57) = false from decide_eq_false (by omega)]; rfl
    rw [this, Bool.false_and, Bool.and_false]
theorem zIX {x : List Nat} (h : upB x = true) (hn : dR x = false) : x.length / 9 ≠ 0 := by
  intro z
  unfold dR at hn
  unfold upB at h
  rw [Bool.and_eq_true] at h
  rw [h.2, Bool.and_true, Bool.and_eq_false_iff, decide_eq_false_iff_not, decide_eq_false_iff_not] at hn
  have : x ≠ [] := by rintro rfl; exact absurd h.1 (by decide)
  have : 0 < x.length := List.length_pos_iff.mpr this
  omega
theorem zKM (x : List Nat) (h : x.length ≤ 100) (S : Sto) : zU 1 xN [.val (.str x)] S = .ok (.val (.bl true)) S := by
  refine zDX (T := [.lst (gB x)]) rfl ?_ (zLY _ _) (by intro l z; cases z)
  show kU (kZ [some (.str x), none, none] S) = _
  have e1 : jZ [some (.str x), none, none] S = .ok (.next [some (.str x), some (.loc S.length), none]) (S ++ [.lst (gB x)]) := by
    unfold jZ
    simp? [zWB x h]
  have hS : (S ++ [MO.lst (gB x)])[S.length]? = some (.lst (gB x)) := by rw [List.getElem?_append_right (Nat.le_refl _), Nat.sub_self]; rfl
  unfold kZ
  rw [zD e1]
  by_cases hr : dR x = false ∧ zAB x = false
  · have hd : gB x = [] := by
      unfold gB
      cases z : upB x with
      | true =>
        rw [if_pos rfl]
        have := zIX z hr.1
        exact List.drop_eq_nil_of_le (by rw [List.length_singleton]; omega)
      | false => rw [if_neg Bool.false_ne_true, hr.2]; rfl
    have e2 : xC [some (.str x), some (.loc S.length), none] (S ++ [.lst (gB x)]) = .ok (.ret (.val (.bl true))) (S ++ [.lst (gB x)]) := by
      unfold xC
      simp? [zEH hS, zIV (.str x) (S ++ [.lst (gB x)]) (by rw [rv5 x h, hr.1, hr.2]; rfl)]
      rw [hd]
      rfl
    rw [xJ e2]
    rfl
  · obtain ⟨d, hd, hv, hk⟩ : ∃ d, gB x = [d] ∧ (∀ S, zU 1 zL [.val (.str x)] S = .ok (.val d) S) ∧ ((d = .str x) ∨ ∃ i, d = .int i) := by
      cases z1 : dR x with
      | true =>
        obtain ⟨h1, h2⟩ := zSS z1
        refine ⟨.str x, ?_, fun S => xI rfl ?_ (zBJ _ _) (by intro l z; cases z), .inl rfl⟩
        · unfold gB; rw [h1, if_pos rfl, h2]; rfl
        · show zL [.str x] S = _
          rw [rv5 x h S, z1]; rfl
      | false =>
        cases z2 : zAB x with
        | false => exact absurd ⟨z1, z2⟩ hr
        | true =>
          refine ⟨.int (valOf x), ?_, fun S => xI rfl ?_ (zGW _ _) (by intro l z; cases z), .inr ⟨_, rfl⟩⟩
          · unfold gB
            cases z3 : upB x with
            | true => rw [zWC z3] at z2; cases z2
            | false => rw [if_neg Bool.false_ne_true, z2]; rfl
          · show zL [.str x] S = _
            rw [rv5 x h S, z1, z2]; rfl
    have e2 : xC [some (.str x), some (.loc S.length), none] (S ++ [.lst (gB x)]) = .ok (.next [some (.str x), some (.loc S.length), none]) (S ++ [.lst (gB x)]) := by
      unfold xC
      simp? [zEH hS]
      rw [hd]
      rfl
    have e3 : hJ [some (.str x), some (.loc S.length), none] (S ++ [.lst (gB x)]) = .ok (.next [some (.str x), some (.loc S.length), some d]) (S ++ [.lst (gB x)]) := by
      unfold hJ
      simp? [hv]
    have hi : ixF (.val (.loc S.length)) (.val (.int 0)) (S ++ [.lst (gB x)]) = .ok (.val d) (S ++ [.lst (gB x)]) := zVK hS (by rw [hd]; exact at0 d [])
    rw [zD e2, zD e3]
    unfold dQ
    rcases hk with rfl | ⟨i, rfl⟩
    · simp? [hi, zJY, show ∀ S, nI [.val (.str x), .val (.typ "bool")] S = .ok (.val (.bl false)) S from fun _ => rfl, zGX (zPX _ true true), eq_str, decide_true]
      rfl
    · simp? [hi, zJY, show ∀ S, nI [.val (.int i), .val (.typ "bool")] S = .ok (.val (.bl false)) S from fun _ => rfl, zGX (zPX _ false false), eq_int, decide_true]
      rfl
theorem zWD {n : Nat} (h : n < 2 ^ 4000) : n.log2 < 4000 := by
  by_cases z : n = 0
  · subst z; decide
  · exact (Nat.log2_lt z).mpr h
theorem zWE : ((10 : Int) ^ 60) ^ 10 < ((2 ^ 4000 : Nat) : Int) := by decide +kernel
theorem zHF {n m : Int} (h0 : 0 ≤ n) (h1 : n < m) (h2 : m ≤ ((2 ^ 4000 : Nat) : Int)) : n.natAbs.log2 < 4000 := zWD (by
  have : n < ((2 ^ 4000 : Nat) : Int) := Int.lt_of_lt_of_le h1 h2
  generalize (2 ^ 4000 : Nat) = k at this ⊢
  omega)
theorem p1060 (S : Sto) : cR (.val (.int 10)) (.val (.int 60)) S = .ok (.val (.int (10 ^ 60))) S := rfl
theorem p600 (S : Sto) : cR (.val (.int (10 ^ 60))) (.val (.int 10)) S = .ok (.val (.int ((10 ^ 60) ^ 10))) S := by
  show (if zMY (10 ^ 60) 10 then R.ok (Er.val (.int ((10 ^ 60) ^ (10 : Int).toNat))) S else .no) = _
  rw [if_pos (by decide +kernel)]
  rfl
theorem zWF {a : Int} (h : 0 ≤ a ∧ a < 4294967296) (S : Sto) : cS (.val (.int a)) (.val (.int a)) S = .ok (.val (.int (a * a))) S :=
  zAS ⟨Int.lt_of_lt_of_le (by decide) h.1, Int.lt_trans h.2 (by decide)⟩ a S
theorem zST {a : Int} (h : a.natAbs.log2 < 4000) (S : Sto) : cS (.val (.int a)) (.val (.int a)) S = .ok (.val (.int (a * a))) S := if_pos (Or.inr (Or.inr ⟨h, h⟩))
theorem zWG : (4294967296000000 : Int) ≤ ((2 ^ 4000 : Nat) : Int) := by decide +kernel
theorem mix5 (c p : Int) (hp : 0 < p ∧ p < 4294967296) (S : Sto) : ∃ n, zU 2 xB [.val (.int c), .val (.int p)] S = .ok (.val (.int n)) S ∧ n.natAbs.log2 < 4000 := by
  have hs : yC ["_law_cell", "_law_prime", "_law_number"] [.int c, .int p] = [some (.int c), some (.int p), none] := rfl
  have h600 : (0 : Int) < (10 ^ 60) ^ 10 := Int.pow_pos (Int.pow_pos (by decide))
  have e1 : bM [some (.int c), some (.int p), none] S = if decide (c % 2 = 0) = true then .ok (.ret (.val (.int (c / 2 % (10 ^ 60) ^ 10)))) S else .ok (.next [some (.int c), some (.int p), none]) S := by
    unfold bM
    simp? [mod_lit (show (0 : Int) < 2 by decide), wK (show (0 : Int) < 2 by decide) (show (2 : Int) < 1073741824 by decide), p1060, p600, mod_lit h600]
  have fin : ∀ n, xB [.int c, .int p] S = .ok (.val (.int n)) S → n.natAbs.log2 < 4000 → ∃ n, zU 2 xB [.val (.int c), .val (.int p)] S = .ok (.val (.int n)) S ∧ n.natAbs.log2 < 4000 := fun n h hn => ⟨n, xI rfl h (zGW _ _) (fun l => by simp), hn⟩
  cases hb : decide (c % 2 = 0) with
  | true =>
    refine fin (c / 2 % (10 ^ 60) ^ 10) ?_ (zHF (Int.emod_nonneg _ (Int.ne_of_gt h600)) (Int.emod_lt_of_pos _ h600) (Int.le_of_lt zWE))
    rw [hb, if_pos rfl] at e1
    unfold xB bP
    rw [hs, xJ e1]
    rfl
  | false =>
    rw [hb, if_neg Bool.false_ne_true] at e1
    have hn0 : 0 ≤ (c % 2147483629 + 7) * 48271 % p := Int.emod_nonneg _ (by omega)
    have hn1 : (c % 2147483629 + 7) * 48271 % p < p := Int.emod_lt_of_pos _ hp.1
    have e2 : bN [some (.int c), some (.int p), none] S = .ok (.next [some (.int c), some (.int p), some (.int ((c % 2147483629 + 7) * 48271 % p))]) S := by
      unfold bN
      simp? [mod_lit (show (0 : Int) < 2147483629 by decide), zAS (show -(2 ^ 64) < (48271 : Int) ∧ (48271 : Int) < 2 ^ 64 by decide), mod_lit hp.1]
    generalize (c % 2147483629 + 7) * 48271 % p = m at hn0 hn1 e2
    have e3 : bO [some (.int c), some (.int p), some (.int m)] S = .ok (.ret (.val (.int (m * m % 2147483579 * 1000003 + m)))) S := by
      unfold bO
      simp? [zWF (a := m) ⟨hn0, by omega⟩, mod_lit (show (0 : Int) < 2147483579 by decide), zAS (show -(2 ^ 64) < (1000003 : Int) ∧ (1000003 : Int) < 2 ^ 64 by decide)]
    have h3 : 0 ≤ m * m % 2147483579 := Int.emod_nonneg _ (by decide)
    have h4 : m * m % 2147483579 < 2147483579 := Int.emod_lt_of_pos _ (by decide)
    refine fin (m * m % 2147483579 * 1000003 + m) ?_ (zHF (m := 4294967296000000) (by omega) (by omega) zWG)
    unfold xB bP
    rw [hs, zD e1, zD e2, e3]
    rfl
abbrev G6 (c o : Int) (t : List Nat) (n : Int) (x : List Nat) (k : Option MV) : Rho := [some (.int c), some (.int o), some (.str t), some (.int n), some (.str x), k]
theorem zSU (c o : Int) (t : List Nat) (n : Int) (x : List Nat) (j : Int) (S : Sto) (ht : 1 ≤ t.length ∧ t.length ≤ 100) (hn : n.natAbs.log2 < 4000) (hx : x.length ≤ 100) : ∃ n' a, n'.natAbs.log2 < 4000 ∧ wQ (G6 c o t n x (some (.int j))) S = .ok (.next (G6 c o t n' (x ++ [a]) (some (.int j)))) S := by
  have h1 : wX (G6 c o t n x (some (.int j))) S = .ok (.next (G6 c o t ((n * n + 48271 * n + j) % 2147483647) x (some (.int j)))) S := by
    unfold wX
    simp? [zST hn, zDY (show -(2 ^ 64) < (48271 : Int) ∧ (48271 : Int) < 2 ^ 64 by decide), mod_lit (show (0 : Int) < 2147483647 by decide)]
  have hm0 : 0 ≤ (n * n + 48271 * n + j) % 2147483647 := Int.emod_nonneg _ (by decide)
  have hm1 : (n * n + 48271 * n + j) % 2147483647 < 2147483647 := Int.emod_lt_of_pos _ (by decide)
  generalize (n * n + 48271 * n + j) % 2147483647 = m at h1 hm0 hm1
  have hl : (0 : Int) < t.length := by omega
  obtain ⟨a, ha⟩ := zAT (xs := t) (i := m / 64 % t.length) (Int.emod_nonneg _ (by omega)) (Int.emod_lt_of_pos _ hl)
  refine ⟨m, a, zHF hm0 hm1 (by decide +kernel), ?_⟩
  unfold wQ
  rw [zD h1]
  unfold bD
  simp? [wK (show (0 : Int) < 64 by decide) (show (64 : Int) < 1073741824 by decide), len_str (show t.length ≤ 1000 by omega), mod_lit hl, ix_str (fits (show t.length ≤ 1000000 by omega)) ha]
  rw [add_str (fits (by rw [List.length_singleton]; omega))]
  rfl
theorem zMD (c o : Int) (t : List Nat) (S : Sto) (ht : 1 ≤ t.length ∧ t.length ≤ 100) : ∀ (js : List Int) (n : Int) (x : List Nat) (k : Option MV), n.natAbs.log2 < 4000 → x.length + js.length ≤ 100 → ∃ n' x' k', jG (gNm 5) wQ [] (js.map MV.int) (G6 c o t n x k) S = .ok (.next (G6 c o t n' x' k')) S ∧ x'.length ≤ x.length + js.length
  | [], n, x, k, _, _ => ⟨n, x, k, rfl, Nat.le_refl _⟩
  | j :: js, n, x, k, hn, hx => by
    rw [List.length_cons] at hx
    obtain ⟨n1, a, h1, h2⟩ := zSU c o t n x j S ht hn (by omega)
    obtain ⟨n', x', k', h3, h4⟩ := zMD c o t S ht js n1 (x ++ [a]) (some (.int j)) h1 (by rw [List.length_append, List.length_singleton]; omega)
    refine ⟨n', x', k', ?_, by rw [List.length_append, List.length_singleton] at h4; rw [List.length_cons]; omega⟩
    rw [List.map_cons, jJ rfl h2 (nM S)]
    exact h3
theorem zWH (c o : Int) (S : Sto) : ∃ x, zU 2 kX [.val (.int c), .val (.int o)] S = .ok (.val (.str x)) S ∧ x.length ≤ 60 := by
  let tx : List MV := [.str [48, 49, 50, 51, 52, 53, 54, 55, 56, 57], .str [48, 49, 50, 51, 52, 53, 54, 55, 56, 57, 97, 98, 99, 120, 121, 122], .str [48, 49, 50, 51, 52, 53, 54, 55, 56, 57, 97, 98, 99, 120, 121, 122, 65, 90, 45, 43, 32, 95, 46, 63, 58, 10]]
  have m0 : 0 ≤ c % 3 := Int.emod_nonneg _ (by decide)
  have m1 : c % 3 < 3 := Int.emod_lt_of_pos _ (by decide)
  obtain ⟨d, hd⟩ := zAT (xs := tx) (i := c % 3) m0 m1
  obtain ⟨t, rfl, ht⟩ : ∃ t, d = .str t ∧ 1 ≤ t.length ∧ t.length ≤ 100 := zCM (P := fun d => ∃ t, d = MV.str t ∧ 1 ≤ t.length ∧ t.length ≤ 100) (xs := tx) (by
    intro e he
    simp only [tx, List.mem_cons, List.not_mem_nil, or_false] at he
    rcases he with rfl | rfl | rfl <;> exact ⟨_, rfl, by decide, by decide⟩) hd
  obtain ⟨n, hn, hl⟩ := mix5 o 2147483587 (by decide) S
  have e1 : jS [some (.int c), some (.int o), none, none, none, none] S = .ok (.next [some (.int c), some (.int o), some (.str t), none, none, none]) S := by
    unfold jS
    simp? [mod_lit (show (0 : Int) < 3 by decide), zKJ (show atI [MV.str [48, 49, 50, 51, 52, 53, 54, 55, 56, 57], .str [48, 49, 50, 51, 52, 53, 54, 55, 56, 57, 97, 98, 99, 120, 121, 122], .str [48, 49, 50, 51, 52, 53, 54, 55, 56, 57, 97, 98, 99, 120, 121, 122, 65, 90, 45, 43, 32, 95, 46, 63, 58, 10]] (c % 3) = some (.str t) from hd)]
  have e2 : jT [some (.int c), some (.int o), some (.str t), none, none, none] S = .ok (.next [some (.int c), some (.int o), some (.str t), some (.int n), none, none]) S := by
    unfold jT
    simp? [hn]
  obtain ⟨x0, hx0, e3⟩ : ∃ x0 : List Nat, x0.length ≤ 1 ∧ jU [some (.int c), some (.int o), some (.str t), some (.int n), none, none] S = .ok (.next (G6 c o t n x0 none)) S := by
    unfold jU
    simp? [wK (show (0 : Int) < 3 by decide) (show (3 : Int) < 1073741824 by decide), mod_lit (show (0 : Int) < 4 by decide), show ∀ b S, zES [.val (.bl b)] S = .ok (.val (.int (if b then 1 else 0))) S from fun _ _ => rfl]
    cases decide (c / 3 % 4 = 0) with
    | true => exact ⟨[45], Nat.le_refl _, rfl⟩
    | false => exact ⟨[], Nat.zero_le _, rfl⟩
  have k0 : 0 ≤ c / 12 % 34 := Int.emod_nonneg _ (by decide)
  have k1 : c / 12 % 34 < 34 := Int.emod_lt_of_pos _ (by decide)
  obtain ⟨n', x', k', h4, h5⟩ := zMD c o t S ht ((List.range (c / 12 % 34).toNat).map fun k => ((k : Nat) : Int)) n x0 none hl (by rw [List.length_map, List.length_range]; omega)
  rw [List.length_map, List.length_range] at h5
  refine ⟨x', xI rfl ?_ (zBJ _ _) (by intro l z; cases z), by omega⟩
  have e4 : jV (G6 c o t n x0 none) S = .ok (.next (G6 c o t n' x' k')) S := by
    unfold jV
    simp? [wK (show (0 : Int) < 12 by decide) (show (12 : Int) < 1073741824 by decide), mod_lit (show (0 : Int) < 34 by decide)]
    rw [zPY (by omega), bok]
    rw [List.map_map] at h4
    exact h4
  show kU (kW [some (.int c), some (.int o), none, none, none, none] S) = _
  unfold kW
  rw [zD e1, zD e2, zD e3, zD e4]
  rfl
theorem zEU : ∀ d : Nat, d < 10 → (Nat.digitChar d).toNat = 48 + d := by decide
theorem zHG {m : Nat} (h : m < 10) : zGU m = [48 + m] := by
  unfold zGU
  rw [Nat.toDigits_of_lt_base h]
  show [(Nat.digitChar m).toNat] = _
  rw [zEU m h]
theorem zNK {m : Nat} (h : ¬ m < 10) : zGU m = zGU (m / 10) ++ [48 + m % 10] := by
  have hm : m % 10 < 10 := Nat.mod_lt m (by decide)
  have t : Nat.toDigits 10 (m / 10) ++ Nat.toDigits 10 (m % 10) = Nat.toDigits 10 (10 * (m / 10) + m % 10) := Nat.toDigits_append_toDigits (by decide) (by omega) hm
  rw [Nat.div_add_mod] at t
  have e := zHG hm
  unfold zGU at e ⊢
  rw [← t, List.map_append, e]
theorem zIY : ∀ (k m : Nat), m < 10 ^ k → (zGU m).length ≤ k + 1
  | 0, m, h => by rw [zHG (by omega)]; exact Nat.le_refl _
  | k + 1, m, h => by
    by_cases hm : m < 10
    · rw [zHG hm]; simp
    · rw [zNK hm, List.length_append, List.length_singleton]
      have := zIY k (m / 10) (by rw [Nat.pow_succ] at h; omega)
      omega
theorem str5 {d : MV} (h : Vl d) (S : Sto) : ∃ x, strF [.val d] S = .ok (.val (.str x)) S ∧ x.length ≤ 40 := by
  rcases h.cases with ⟨i, rfl, h1, h2⟩ | ⟨x, rfl, h1⟩
  · have hb : i.natAbs < 10 ^ 30 := by
      have e : ((10 ^ 30 : Nat) : Int) = (10 : Int) ^ 30 := by decide +kernel
      generalize (10 ^ 30 : Nat) = k at e ⊢
      omega
    refine ⟨zIL i, if_pos ?_, ?_⟩
    · by_cases z : i.natAbs = 0
      · rw [z]; decide
      · exact (Nat.log2_lt z).mpr (Nat.lt_trans hb (by decide +kernel))
    · have := zIY 30 i.natAbs hb
      unfold zIL
      split
      · rw [List.length_cons]; omega
      · omega
  · exact ⟨x, rfl, by have := h1.2.1; omega⟩
theorem bent5 (c o : Int) (S : Sto) : ∃ x, zU 2 kG [.val (.int c), .val (.int o)] S = .ok (.val (.str x)) S ∧ x.length ≤ 90 := by
  obtain ⟨d, hd, hv⟩ := zQF o S
  have hd' : zU 1 xL [.val (.int o)] S = .ok (.val d) S := xI rfl hd (hv.lo _) hv.noloc
  obtain ⟨x, hx, hl⟩ := str5 hv S
  have e1 : gN [some (.int c), some (.int o), none, none, none] S = .ok (.next [some (.int c), some (.int o), some (.str x), none, none]) S := by
    unfold gN
    simp? [hd', hx]
  have hp : (0 : Int) < (x.length : Int) + 1 := by omega
  have e2 : gO [some (.int c), some (.int o), some (.str x), none, none] S = .ok (.next [some (.int c), some (.int o), some (.str x), some (.int (c / 12 % ((x.length : Int) + 1))), none]) S := by
    unfold gO
    simp? [wK (show (0 : Int) < 12 by decide) (show (12 : Int) < 1073741824 by decide), len_str (show x.length ≤ 1000 by omega), mod_lit hp]
  generalize c / 12 % ((x.length : Int) + 1) = a at e2
  let tx : List MV := [.str [48], .str [45], .str [43], .str [32], .str [49], .str [97], .str [10], .str [95]]
  obtain ⟨g, hg⟩ := zAT (xs := tx) (i := c / 3 % 8) (Int.emod_nonneg _ (by decide)) (Int.emod_lt_of_pos _ (by decide))
  obtain ⟨k, rfl⟩ : ∃ k, g = .str [k] := zCM (P := fun d => ∃ k, d = MV.str [k]) (xs := tx) (by
    intro e he
    simp only [tx, List.mem_cons, List.not_mem_nil, or_false] at he
    rcases he with rfl | rfl | rfl | rfl | rfl | rfl | rfl | rfl <;> exact ⟨_, rfl⟩) hg
  have l8 : ∀ (a b c d e f g h : MV) (S : Sto), xH [.val a, .val b, .val c, .val d, .val e, .val f, .val g, .val h] S = .ok (.new [a, b, c, d, e, f, g, h]) S := fun _ _ _ _ _ _ _ _ _ => dG (by simp)
  have e3 : gP [some (.int c), some (.int o), some (.str x), some (.int a), none] S = .ok (.next [some (.int c), some (.int o), some (.str x), some (.int a), some (.str [k])]) S := by
    unfold gP
    simp? [wK (show (0 : Int) < 3 by decide) (show (3 : Int) < 1073741824 by decide), mod_lit (show (0 : Int) < 8 by decide), l8, zKJ (show atI [MV.str [48], .str [45], .str [43], .str [32], .str [49], .str [97], .str [10], .str [95]] (c / 3 % 8) = some (.str [k]) from hg)]
  have a1 : wA (.val (.str [k])) (.val (.str x)) S = .ok (.val (.str ([k] ++ x))) S := add_str (fits (by rw [List.length_singleton]; omega))
  have a2 : wA (.val (.str x)) (.val (.str [k])) S = .ok (.val (.str (x ++ [k]))) S := add_str (fits (by rw [List.length_singleton]; omega))
  have e4 : gQ [some (.int c), some (.int o), some (.str x), some (.int a), some (.str [k])] S = if decide (c % 3 = 0) = true then .ok (.ret (.val (.str ([k] ++ x)))) S else .ok (.next [some (.int c), some (.int o), some (.str x), some (.int a), some (.str [k])]) S := by
    unfold gQ
    simp? [mod_lit (show (0 : Int) < 3 by decide), a1]
  have e5 : gR [some (.int c), some (.int o), some (.str x), some (.int a), some (.str [k])] S = if decide (c % 3 = 1) = true then .ok (.ret (.val (.str (x ++ [k])))) S else .ok (.next [some (.int c), some (.int o), some (.str x), some (.int a), some (.str [k])]) S := by
    unfold gR
    simp? [mod_lit (show (0 : Int) < 3 by decide), a2]
  have c1 := zDZ x none (some a)
  have c2 := zDZ x (some a) none
  have e6 : gS [some (.int c), some (.int o), some (.str x), some (.int a), some (.str [k])] S = .ok (.ret (.val (.str (xG x none (some a) ++ [k] ++ xG x (some a) none)))) S := by
    unfold gS
    simp? [cut_str (fits (show x.length ≤ 1000000 by omega))]
    rw [add_str (fits (by rw [List.length_singleton]; omega)), bok, add_str (fits (by rw [List.length_append, List.length_singleton]; omega))]
    rfl
  have fin : ∀ y : List Nat, y.length ≤ 90 → wF [some (.int c), some (.int o), none, none, none] S = .ok (.ret (.val (.str y))) S → ∃ x, zU 2 kG [.val (.int c), .val (.int o)] S = .ok (.val (.str x)) S ∧ x.length ≤ 90 := fun y hy h => ⟨y, xI rfl (by show kU (wF [some (.int c), some (.int o), none, none, none] S) = _; rw [h]; rfl) (zBJ _ _) (by intro l z; cases z), hy⟩
  have go : ∃ y : List Nat, y.length ≤ 90 ∧ wF [some (.int c), some (.int o), none, none, none] S = .ok (.ret (.val (.str y))) S := by
    unfold wF
    rw [zD e1, zD e2, zD e3]
    cases z : decide (c % 3 = 0) with
    | true =>
      rw [z, if_pos rfl] at e4
      exact ⟨_, by rw [List.length_append, List.length_singleton]; omega, xJ e4⟩
    | false =>
      rw [z, if_neg Bool.false_ne_true] at e4
      rw [zD e4]
      cases z : decide (c % 3 = 1) with
      | true =>
        rw [z, if_pos rfl] at e5
        exact ⟨_, by rw [List.length_append, List.length_singleton]; omega, xJ e5⟩
      | false =>
        rw [z, if_neg Bool.false_ne_true] at e5
        rw [zD e5]
        exact ⟨_, by rw [List.length_append, List.length_append, List.length_singleton]; omega, e6⟩
  obtain ⟨y, h1, h2⟩ := go
  exact fin y h1 h2
theorem zQK (cs : List Int) (lo hi st : Option Int) : xS (cs.map MV.int) lo hi st = (xS cs lo hi st).map MV.int := by
  have : ∀ idx : List Nat, idx.filterMap ((cs.map MV.int)[·]?) = (idx.filterMap (cs[·]?)).map MV.int := by
    intro idx
    induction idx with
    | nil => rfl
    | cons i r ih =>
      cases z : cs[i]? with
      | none => rw [List.filterMap_cons_none (by rw [List.getElem?_map, z]; rfl), List.filterMap_cons_none z, ih]
      | some v => rw [List.filterMap_cons_some (b := MV.int v) (by rw [List.getElem?_map, z]; rfl), List.filterMap_cons_some z, List.map_cons, ih]
  unfold xS
  rw [List.length_map]
  exact this _
theorem zFW : ∀ a b : List Int, pairs (a.map MV.int) (b.map MV.int) = (a.zip b).map fun p => .tup [.int p.1, .int p.2]
  | [], _ => rfl
  | _ :: _, [] => rfl
  | x :: a, y :: b => by
    rw [List.map_cons, List.map_cons, List.zip_cons_cons, List.map_cons]
    rw [← zFW a b]
    rfl
theorem pz0 (n : Nat) (h : n ≤ 100) : (sliceRange (sliceBounds none none (some 2) n).1 (sliceBounds none none (some 2) n).2.1 (sliceBounds none none (some 2) n).2.2).length ≤ 1000 := by
  unfold sliceRange
  dsimp only
  rw [List.length_map, List.length_range]
  simp [sliceBounds]
  repeat' split
  all_goals omega
theorem pz1 (n : Nat) (h : n ≤ 100) : (sliceRange (sliceBounds (some 1) none (some 2) n).1 (sliceBounds (some 1) none (some 2) n).2.1 (sliceBounds (some 1) none (some 2) n).2.2).length ≤ 1000 := by
  unfold sliceRange
  dsimp only
  rw [List.length_map, List.length_range]
  simp [sliceBounds]
  repeat' split
  all_goals omega
theorem zTC (a b x2 x3 x5 : Option MV) (x : List Nat) (h : x.length ≤ 100) (S : Sto) : zHA [a, b, x2, x3, some (.str x), x5] S = .ok (.next [a, b, x2, x3, some (.str x), x5]) S := by
  unfold zHA zFS
  simp? [zKM x h]
  rfl
theorem turn1 (a b x4 x5 : Option MV) (i j : Int) (S : Sto) : ∃ x4', zCN [a, b, some (.int i), some (.int j), x4, x5] S = .ok (.next [a, b, some (.int i), some (.int j), x4', x5]) S := by
  obtain ⟨x, h1, h2⟩ := zWH (i / 2) j S
  obtain ⟨y, h3, h4⟩ := bent5 (i / 2) j S
  refine ⟨some (.str y), ?_⟩
  unfold zCN zFT
  simp? [wK (show (0 : Int) < 2 by decide) (show (2 : Int) < 1073741824 by decide), h1, h3, show ∀ ds S, itL (.new ds) S = .ok ⟨ds, []⟩ S from fun _ _ => rfl]
  rw [jJ (ρ0 := [a, b, some (.int i), some (.int j), some (.str x), x5]) rfl (zTC a b _ _ x5 x (by omega) S) (nM S), jJ (ρ0 := [a, b, some (.int i), some (.int j), some (.str y), x5]) rfl (zTC a b _ _ x5 y (by omega) S) (nM S)]
  rfl
theorem zTD (a b x5 : Option MV) (S : Sto) : ∀ (ps : List (Int × Int)) (x2 x3 x4 : Option MV), ∃ y2 y3 y4, jG (gTp 2 (zDL (gNm 2) (zDL (gNm 3) zOZ))) zCN [] (ps.map fun p => .tup [.int p.1, .int p.2]) [a, b, x2, x3, x4, x5] S = .ok (.next [a, b, y2, y3, y4, x5]) S
  | [], x2, x3, x4 => ⟨x2, x3, x4, rfl⟩
  | p :: ps, x2, x3, x4 => by
    obtain ⟨x4', h1⟩ := turn1 a b x4 x5 p.1 p.2 S
    obtain ⟨y2, y3, y4, h2⟩ := zTD a b x5 S ps (some (.int p.1)) (some (.int p.2)) x4'
    refine ⟨y2, y3, y4, ?_⟩
    rw [List.map_cons, jJ (ρ0 := [a, b, some (.int p.1), some (.int p.2), x4, x5]) rfl h1 (nM S)]
    exact h2
theorem turn3 (a b x2 x3 x4 : Option MV) (d : MV) (S : Sto) (h : zL [d] (S ++ [.lst []]) = .exc "NoText" [] (S ++ [.lst []])) : zAW [a, b, x2, x3, x4, some d] S = .ok (.next [a, b, x2, x3, x4, some d]) S := by
  unfold zAW zFU
  simp? [zIV d S h]
  rfl
theorem zQL (ns : List Int) (h : ns.length ≤ 63) : ∃ S, zIU [.scr (ns.map MV.int)] [] = .ok (.val (.bl true)) S := by
  have hcut : xG (ns.map MV.int) none (some 40) = (xG ns none (some 40)).map MV.int := zPZ ..
  have hlen := zDZ ns none (some 40)
  generalize hcs : xG ns none (some 40) ++ [0, 7, 9] = cs
  have hcl : cs.length ≤ 66 := by rw [← hcs, List.length_append]; simp only [List.length_cons, List.length_nil]; omega
  generalize hd : MV.scr (ns.map MV.int) = d0
  have e1 : zHB [some d0, none, none, none, none, none] [] = .ok (.next [some d0, some (.loc 0), none, none, none, none]) [.lst (cs.map MV.int)] := by
    unfold zHB
    simp? [bok]
    rw [← hd, show zCC (.val (.scr (ns.map MV.int))) none (some 40) [] = .ok (.new (xG (ns.map MV.int) none (some 40))) [] from rfl, hcut]
    simp? [bok]
    rw [zKH (x := (xG ns none (some 40)).map MV.int) (y := [.int 0, .int 7, .int 9]) rfl rfl (fits (by rw [List.length_map]; simp only [List.length_cons, List.length_nil]; omega))]
    rw [← hcs, List.map_append]
    rfl
  generalize hS : [MO.lst (cs.map MV.int)] = S at e1
  have hl : gA S (.val (.loc 0)) = some (cs.map MV.int) := by rw [← hS]; rfl
  have pl : ∀ (lo : Option Int), (xS (cs.map MV.int) lo none (some 2)).length ≤ sizeLine → zFP 2 (.val (.loc 0)) lo none S = .ok (.new ((xS cs lo none (some 2)).map MV.int)) S := fun lo hz => by
    unfold zFP
    rw [hl]
    dsimp only
    rw [if_pos hz, zQK]
  have q0 : (xS (cs.map MV.int) none none (some 2)).length ≤ sizeLine := by
    unfold xS
    rw [List.length_map]
    exact fits (Nat.le_trans (List.length_filterMap_le _ _) (Nat.le_trans (pz0 cs.length (by omega)) (by decide)))
  have q1 : (xS (cs.map MV.int) (some 1) none (some 2)).length ≤ sizeLine := by
    unfold xS
    rw [List.length_map]
    exact fits (Nat.le_trans (List.length_filterMap_le _ _) (Nat.le_trans (pz1 cs.length (by omega)) (by decide)))
  have e2 : ∃ y2 y3 y4, zHC [some d0, some (.loc 0), none, none, none, none] S = .ok (.next [some d0, some (.loc 0), y2, y3, y4, none]) S := by
    obtain ⟨y2, y3, y4, hy⟩ := zTD (some d0) (some (.loc 0)) none S ((xS cs none none (some 2)).zip (xS cs (some 1) none (some 2))) none none none
    refine ⟨y2, y3, y4, ?_⟩
    unfold zHC
    simp? [pl none q0, pl (some 1) q1, show ∀ a b S, itZ [.new a, .new b] S = .ok ⟨pairs a b, []⟩ S from fun _ _ _ => rfl, zFW]
    exact hy
  obtain ⟨y2, y3, y4, e2⟩ := e2
  have hS1 : ∃ U, U = S ++ [MO.lst [.str [97]]] := ⟨_, rfl⟩
  obtain ⟨U, hU⟩ := hS1
  have rd : ∀ d, (∀ S', nI [.val d, .val (.typ "str")] S' = .ok (.val (.bl false)) S') → ∀ S', zL [d] S' = .exc "NoText" [] S' := fun d hd S' => by
    show kU (xK [some d] S') = _
    have : wP [some d] S' = .exc "NoText" [] S' := by
      unfold wP
      simp? [hd]
      rfl
    unfold xK zT
    rw [this]
    rfl
  have e3 : ∃ z5, zHD [some d0, some (.loc 0), y2, y3, y4, none] S = .ok (.next [some d0, some (.loc 0), y2, y3, y4, z5]) U := by
    refine ⟨some (.tup []), ?_⟩
    have hlst : xH [.val .non, .val (.int 7), .val (.bl true), .val (.tup [.str [97]]), .new [.str [97]], .val (.tup [])] S = .ok (.new [.non, .int 7, .bl true, .tup [.str [97]], .loc 1, .tup []]) U := by
      rw [hU, ← hS]
      exact dG (by simp)
    have htl : zL [.loc 1] (U ++ [.lst []]) = .exc "NoText" [] (U ++ [.lst []]) := by
      rw [hU, ← hS]
      rfl
    unfold zHD
    simp? [show ∀ S, zIG [.val (.str [97])] S = .ok (.val (.tup [.str [97]])) S from fun S => zGY (by simp), show ∀ S, zIG [] S = .ok (.val (.tup [])) S from fun S => zGY (by simp), hlst, show ∀ ds S, itL (.new ds) S = .ok ⟨ds, []⟩ S from fun _ _ => rfl]
    have go : ∀ (d : MV) (ds : List MV) (x5 : Option MV), zL [d] (U ++ [.lst []]) = .exc "NoText" [] (U ++ [.lst []]) → jG (gNm 5) zAW [] (d :: ds) [some d0, some (.loc 0), y2, y3, y4, x5] U = jG (gNm 5) zAW [] ds [some d0, some (.loc 0), y2, y3, y4, some d] U := fun d ds x5 hd => jJ rfl (turn3 _ _ _ _ _ d U hd) (nM U)
    rw [go .non _ _ (rd _ (fun _ => rfl) _), go (.int 7) _ _ (rd _ (fun _ => rfl) _), go (.bl true) _ _ (rd _ (fun _ => rfl) _), go (.tup [.str [97]]) _ _ (rd _ (fun _ => rfl) _), go (.loc 1) _ _ htl, go (.tup []) _ _ (rd _ (fun _ => rfl) _)]
    rfl
  obtain ⟨z5, e3⟩ := e3
  refine ⟨U, ?_⟩
  show kU (zMB [some d0, none, none, none, none, none] []) = _
  unfold zMB
  rw [zD e1, zD e2, zD e3]
  unfold zMA
  simp? [zKM [48] (by decide), zKM [97, 110, 110] (by decide), zJY]
  rfl
section
variable {P : Program} {w : World} {K : PySem.W.Frag} {mg : Str → Option Value} {base : Heap}
abbrev XCS (xl : Nat → Addr) : List (Str × Addr) := [("TooGreat", xl 0), ("NoText", xl 1), ("NoPlace", xl 2), ("NotPlain", xl 3), ("NoTable", xl 4), ("NoRule", xl 5), ("NoRow", xl 6), ("Twice", xl 7), ("NoQuestion", xl 8), ("Double", xl 9), ("TooWide", xl 10), ("Ring", xl 11)]
theorem xnd {xl : Nat → Addr} : ((XCS xl).map (·.1)).Nodup := show XNS.Nodup from by decide
noncomputable def top (i : Nat) : Stmt := PySem.Challenge.pw_mendsure_k05_texts_of_no_value.main.body.getD i (.Pass ⟨0, 0, 0, 0⟩)
abbrev wZ : Stmt := top 16
theorem zKN : FnScope ["thing"] ["thing"] (zG wZ) := ⟨rfl, rfl, rfl, by decide +kernel, rfl, by decide +kernel, by decide +kernel⟩
theorem zKO {f : Addr} {fd : FuncData} (F : Fun K "is_name" "is_name" wZ f fd) (cQ : mg "str" = none) (zF : mg "isinstance" = none) (gI : mg "len" = none) {hV : Tok} (xE : mg "MOST_LETTERS" = some (.int 8 hV)) (zEI : mg "all" = none) : FnOk P w K mg base CX0 1 f fd ["thing"] (spM ⟨K, mg, P, w⟩ 1 nG) :=
  okM (k := 0) nF F zKN fun cdv A outer s H E hr => (zI (wJ (zLJ (zOW (nY (kE (yO dE zDT rfl zF xU (zB (zA 0) (zB (zIE rfl cQ zDU) zE))))) (zOU (nY (zLU zC (yO jB zBH rfl gI zBI (zB (zA 0) zE)) (zLH rfl xE)))))) (zM (zQ zAK)) yU) (zM (zQ (yO zAI (zPK rfl) rfl zEI zPM (zB (zCK (zG wZ) ["thing"] ["sign"] [] (zDO (zA 0)) rfl (fun _ _ _ _ hN => (zCJ 0 hN)) (fun _ _ _ _ => zLO) (fun _ _ _ _ => (zRR (zO [97]) (zA 0) (zO [122])))) zE)))))
abbrev zY : Stmt := top 20
theorem bG : FnScope ["text", "figures"] ["text"] (zG zY) := ⟨rfl, rfl, rfl, by decide +kernel, rfl, by decide +kernel, by decide +kernel⟩
theorem zBL {f : Addr} {fd : FuncData} (F : Fun K "writes_number" "writes_number" zY f fd) (gI : mg "len" = none) {hX : Tok} (xF : mg "MOST_FIGURES" = some (.int 30 hX)) {zBO : Tok} (bH : mg "FIGURES" = some (.str (mkS [48, 49, 50, 51, 52, 53, 54, 55, 56, 57]) zBO)) (zEI : mg "all" = none) : FnOk P w K mg base CX0 1 f fd ["text"] (spM ⟨K, mg, P, w⟩ 1 xY) :=
  okM (k := 0) xX F bG fun cdv A outer s H E hr => (zI (zS 1 bG.nd (pm_if (kE (zNF (zA 0) (zB (zO [45]) zE))) (zAA (zA 0) (gF zC) kC) (zA 0))) (zI (wJ (nY (zLU zC (yO jB zBH rfl gI zBI (zB (zA 1) zE)) (zLH rfl xF))) (zM (zQ zAK)) yU) (zI (wJ (nY (kE (yO zAI (zPK rfl) rfl zEI zPM (zB (zCK (zG zY) ["text", "figures"] ["figure"] [] (zDO (zA 1)) rfl (fun _ _ _ _ hN => (zCJ 0 hN)) (fun _ _ _ _ => zLO) (fun _ _ _ _ => (pm_in hr.units (zA 0) (zRL (y := [48, 49, 50, 51, 52, 53, 54, 55, 56, 57]) rfl bH)))) zE)))) (zM (zQ zAK)) yU) (zM (zQ (pm_or (zDR hr.units (zA 0) (zO [48])) (zJZ (pm_ne hr.units (dC (zA 1) zC) (zO [48])))))))))
abbrev xO : Stmt := top 21
theorem zEV : FnScope ["text"] ["text"] (zG xO) := ⟨rfl, rfl, rfl, by decide +kernel, rfl, by decide +kernel, by decide +kernel⟩
theorem zEW {f : Addr} {fd : FuncData} (F : Fun K "read_value" "read_value" xO f fd) {xM : Addr} {xl : Nat → Addr} (XT : XTab K mg xM (XCS xl)) (cQ : mg "str" = none) (zF : mg "isinstance" = none) (x_NoText : XCl K (xl 1) (.ref xM :: bmV) none) {zAE : Addr} {zEM : FuncData} (zNN : FnOk P w K mg base CX0 1 zAE zEM ["thing"] (spM ⟨K, mg, P, w⟩ 1 nG)) (zNM : mg "is_name" = some (.ref zAE)) (zKP : PySem.W.keepIn K (.ref zAE) = true) (zNL : Binds K zEM ["thing"] []) {kB : Addr} {bI : FuncData} (zCF : FnOk P w K mg base CX0 1 kB bI ["text"] (spM ⟨K, mg, P, w⟩ 1 xY)) (zCE : mg "writes_number" = some (.ref kB)) (zBS : PySem.W.keepIn K (.ref kB) = true) (zCG : Binds K bI ["text"] []) (nR : mg "int" = none) : FnOk P w K mg base (CXe P w) 2 f fd ["text"] (spX ⟨K, mg, P, w⟩ 1 zL) :=
  okX (k := 1) xK F zEV fun cdv A outer s H E hr => (zI (wJ (nY (kE (yO dE zDT rfl zF xU (zB (zA 0) (zB (zIE rfl cQ zDU) zE))))) (zM (zFR zON rfl (XT.each.at (.tail _ (.head _))).1 x_NoText XT.mc (zB (zO [119, 104, 97, 116, 32, 105, 115, 32, 110, 111, 32, 116, 101, 120, 116, 32, 119, 114, 105, 116, 101, 115, 32, 110, 111, 32, 118, 97, 108, 117, 101]) zE))) yU) (zI (wJ (kE (yZ zNN (hr.mono (by decide)) rfl zNM zKP zNL (zB (zA 0) zE))) (zM (zQ (zA 0))) yU) (zI (wJ (kE (yZ zCF (hr.mono (by decide)) rfl zCE zBS zCG (zB (zA 0) zE))) (zM (zQ (bC gG zGV rfl nR zGT (zB (zA 0) zE)))) yU) (zM (zFR zON rfl (XT.each.at (.tail _ (.head _))).1 x_NoText XT.mc (zB (zO [116, 104, 101, 32, 116, 101, 120, 116, 32, 119, 114, 105, 116, 101, 115, 32, 110, 111, 32, 118, 97, 108, 117, 101]) zE))))))
abbrev kA : Stmt := top 23
theorem zBX : FnScope ["_law_cell", "_law_prime", "_law_number"] ["_law_cell", "_law_prime"] (zG kA) := ⟨rfl, rfl, rfl, by decide +kernel, rfl, by decide +kernel, by decide +kernel⟩
theorem zIZ {f : Addr} {fd : FuncData} (F : Fun K "_law_mix" "_law_mix" kA f fd)  : FnOk P w K mg base CX0 1 f fd ["_law_cell", "_law_prime"] (spM ⟨K, mg, P, w⟩ 2 xB) :=
  okM (k := 0) bP F zBX fun cdv A outer s H E hr => (zI (wJ (dB hr.units (zX (zA 0) zC) zC) (zM (zQ (zX (kM (zA 0) zC) (jH (jH zC zC) zC)))) yU) (zI (zS 2 zBX.nd (zX (jI (yK (zX (zA 0) zC) zC) zC) (zA 1))) (zM (zQ (yK (jI (zX (jI (zA 2) (zA 2)) zC) zC) (zA 2))))))
abbrev wG : Stmt := top 24
theorem yV : FnScope ["_law_cell", "_law_letters", "_law_number", "_law_name_here", "_law_k"] ["_law_cell"] (zG wG) := ⟨rfl, rfl, rfl, by decide +kernel, rfl, by decide +kernel, by decide +kernel⟩
theorem zHH {f : Addr} {fd : FuncData} (F : Fun K "_law_name" "_law_name" wG f fd) (cJ : mg "range" = none) : FnOk P w K mg base CX0 1 f fd ["_law_cell"] (spM ⟨K, mg, P, w⟩ 1 wE) :=
  okM (k := 0) dM F yV fun cdv A outer s H E hr => (zI (zS 1 yV.nd (zO [97, 98, 99, 100, 101, 102, 103, 104, 105, 106, 107, 108, 109, 110, 111, 112, 113, 114, 115, 116, 117, 118, 119, 120, 121, 122])) (zI (zS 2 yV.nd (kM (zA 0) zC)) (zI (zS 3 yV.nd (zO [])) (zI (zBF PassesOwn.never rfl (zFO rfl cJ (zB (yK zC (zX (zA 0) zC)) zE)) (bL 4 yV.nd) (zI (zS 3 yV.nd (yK (zA 3) (dC (zA 1) (zX (zA 2) zC)))) (zM (zS 2 yV.nd (kM (zA 2) zC))))) (zM (zQ (zA 3)))))))
abbrev xP : Stmt := top 25
theorem nQ : FnScope ["_law_cell", "_law_rest"] ["_law_cell"] (zG xP) := ⟨rfl, rfl, rfl, by decide +kernel, rfl, by decide +kernel, by decide +kernel⟩
theorem zEX {f : Addr} {fd : FuncData} (F : Fun K "_law_value" "_law_value" xP f fd) {cF : Addr} {zAZ : FuncData} (zJF : FnOk P w K mg base CX0 1 cF zAZ ["_law_cell"] (spM ⟨K, mg, P, w⟩ 1 wE)) (zJI : mg "_law_name" = some (.ref cF)) (zHJ : PySem.W.keepIn K (.ref cF) = true) (zJJ : Binds K zAZ ["_law_cell"] []) : FnOk P w K mg base CX0 2 f fd ["_law_cell"] (spM ⟨K, mg, P, w⟩ 1 xL) :=
  okM (k := 1) bQ F nQ fun cdv A outer s H E hr => (zI (zS 1 nQ.nd (kM (zA 0) zC)) (zI (wJ (dB hr.units (zX (zA 0) zC) zC) (zM (zQ (dC (yF (zB zC (zB zC (zB zUT (zB (dA (jH zC zC) zC) (zB (dA zC (jH zC zC)) (zB (jH zC zC) zE))))))) (zX (zA 1) zC)))) yU) (zI (wJ (dB hr.units (zX (zA 0) zC) zC) (zM (zQ (dA (zX (zA 1) zC) zC))) yU) (zI (wJ (dB hr.units (zX (zA 0) zC) zC) (zM (zQ (yK (dA (zX (jH (yK (jI (zX (zA 1) (jH zC zC)) zC) zC) zC) (dA (jI zC (jH zC zC)) zC)) (jH zC zC)) zC))) yU) (zI (wJ (dB hr.units (zX (zA 0) zC) zC) (zM (zQ (yK (dA (zX (zA 1) (dA (jI zC (jH zC zC)) zC)) (jH zC zC)) zC))) yU) (zM (zQ (yZ zJF (hr.mono (by decide)) rfl zJI zHJ zJJ (zB (zA 1) zE)))))))))
abbrev xQ : Stmt := top 26
theorem yL : FnScope ["_law_cell", "_law_other", "_law_signs_here", "_law_number", "_law_text", "_law_k"] ["_law_cell", "_law_other"] (zG xQ) := ⟨rfl, rfl, rfl, by decide +kernel, rfl, by decide +kernel, by decide +kernel⟩
theorem zEY {f : Addr} {fd : FuncData} (F : Fun K "_law_signs" "_law_signs" xQ f fd) {dW : Addr} {zBZ : FuncData} (zKR : FnOk P w K mg base CX0 1 dW zBZ ["_law_cell", "_law_prime"] (spM ⟨K, mg, P, w⟩ 2 xB)) (zKQ : mg "_law_mix" = some (.ref dW)) (zJB : PySem.W.keepIn K (.ref dW) = true) (zKU : Binds K zBZ ["_law_cell", "_law_prime"] []) (nR : mg "int" = none) (cJ : mg "range" = none) (gI : mg "len" = none) : FnOk P w K mg base CX0 2 f fd ["_law_cell", "_law_other"] (spM ⟨K, mg, P, w⟩ 2 kX) :=
  okM (k := 1) kW F yL fun cdv A outer s H E hr => (zI (zS 2 yL.nd (dC (yF (zB (zO [48, 49, 50, 51, 52, 53, 54, 55, 56, 57]) (zB (zO [48, 49, 50, 51, 52, 53, 54, 55, 56, 57, 97, 98, 99, 120, 121, 122]) (zB (zO [48, 49, 50, 51, 52, 53, 54, 55, 56, 57, 97, 98, 99, 120, 121, 122, 65, 90, 45, 43, 32, 95, 46, 63, 58, 10]) zE)))) (zX (zA 0) zC))) (zI (zS 3 yL.nd (yZ zKR (hr.mono (by decide)) rfl zKQ zJB zKU (zB (zA 1) (zB zC zE)))) (zI (zS 4 yL.nd (jI (zO [45]) (bC gG zGV rfl nR zGT (zB (zDR hr.units (zX (kM (zA 0) zC) zC) zC) zE)))) (zI (zBF PassesOwn.never rfl (zFO rfl cJ (zB (zX (kM (zA 0) zC) zC) zE)) (bL 5 yL.nd) (zI (zS 3 yL.nd (zX (yK (yK (jI (zA 3) (zA 3)) (jI zC (zA 3))) (zA 5)) zC)) (zM (zS 4 yL.nd (yK (zA 4) (dC (zA 2) (zX (kM (zA 3) zC) (yO jB zBH rfl gI zBI (zB (zA 2) zE))))))))) (zM (zQ (zA 4)))))))
abbrev wH : Stmt := top 27
theorem jA : FnScope ["_law_cell", "_law_other", "_law_text", "_law_at", "_law_sign"] ["_law_cell", "_law_other"] (zG wH) := ⟨rfl, rfl, rfl, by decide +kernel, rfl, by decide +kernel, by decide +kernel⟩
theorem zHI {f : Addr} {fd : FuncData} (F : Fun K "_law_bent" "_law_bent" wH f fd) {gY : Addr} {nV : FuncData} (zHL : FnOk P w K mg base CX0 2 gY nV ["_law_cell"] (spM ⟨K, mg, P, w⟩ 1 xL)) (zHK : mg "_law_value" = some (.ref gY)) (zFB : PySem.W.keepIn K (.ref gY) = true) (zHM : Binds K nV ["_law_cell"] []) (cQ : mg "str" = none) (gI : mg "len" = none) : FnOk P w K mg base CX0 3 f fd ["_law_cell", "_law_other"] (spM ⟨K, mg, P, w⟩ 2 kG) :=
  okM (k := 2) wF F jA fun cdv A outer s H E hr => (zI (zS 2 jA.nd (bC zIM zVC rfl cQ zDU (zB (yZ zHL (hr.mono (by decide)) rfl zHK zFB zHM (zB (zA 1) zE)) zE))) (zI (zS 3 jA.nd (zX (kM (zA 0) zC) (yK (yO jB zBH rfl gI zBI (zB (zA 2) zE)) zC))) (zI (zS 4 jA.nd (dC (yF (zB (zO [48]) (zB (zO [45]) (zB (zO [43]) (zB (zO [32]) (zB (zO [49]) (zB (zO [97]) (zB (zO [10]) (zB (zO [95]) zE))))))))) (zX (kM (zA 0) zC) zC))) (zI (wJ (dB hr.units (zX (zA 0) zC) zC) (zM (zQ (yK (zA 4) (zA 2)))) yU) (zI (wJ (dB hr.units (zX (zA 0) zC) zC) (zM (zQ (yK (zA 2) (zA 4)))) yU) (zM (zQ (yK (yK (zAA (zA 2) kC (gF (zA 3))) (zA 4)) (zAA (zA 2) (gF (zA 3)) kC)))))))))
abbrev xD : Stmt := top 28
theorem kH : FnScope ["_law_text", "_law_figures", "_law_number", "_law_sign"] ["_law_text"] (zG xD) := ⟨rfl, rfl, rfl, by decide +kernel, rfl, by decide +kernel, by decide +kernel⟩
theorem zJA {f : Addr} {fd : FuncData} (F : Fun K "_law_due" "_law_due" xD f fd) (gI : mg "len" = none) (nR : mg "int" = none) : FnOk P w K mg base CX0 1 f fd ["_law_text"] (spM ⟨K, mg, P, w⟩ 1 bY) :=
  okM (k := 0) bX F kH fun cdv A outer s H E hr => (zI (wJ (zLJ (zOV (zPG hr.units (zA 0) (zO [])) (zLI (dB hr.units (zCK (zG xD) ["_law_text", "_law_figures", "_law_number", "_law_sign"] ["_law_sign"] [] (zDO (zA 0)) rfl (fun _ _ _ _ hN => (zCJ 0 hN)) (fun _ _ _ _ => (zLP (zIK hr.units (zA 0) (zO [97, 98, 99, 100, 101, 102, 103, 104, 105, 106, 107, 108, 109, 110, 111, 112, 113, 114, 115, 116, 117, 118, 119, 120, 121, 122])))) (fun _ _ _ _ => (zA 0))) (yF zE))))) (zM (zQ (zAA (yF (zB (zA 0) zE)) (gF (kM (yO jB zBH rfl gI zBI (zB (zA 0) zE)) zC)) kC))) yU) (zI (zS 1 kH.nd (zAA (zA 0) (gF (bC gG zGV rfl nR zGT (zB (zDR hr.units (zAA (zA 0) kC (gF zC)) (zO [45])) zE))) kC)) (zI (wJ (zLJ (zOW (dB hr.units (zA 1) (zO [])) (zOW (tm_gt (yO jB zBH rfl gI zBI (zB (zA 1) zE)) zC) (zOU (zPG hr.units (zCK (zG xD) ["_law_text", "_law_figures", "_law_number", "_law_sign"] ["_law_sign"] [] (zDO (zA 1)) rfl (fun _ _ _ _ hN => (zCJ 0 hN)) (fun _ _ _ _ => (zLP (zIK hr.units (zA 0) (zO [48, 49, 50, 51, 52, 53, 54, 55, 56, 57])))) (fun _ _ _ _ => (zA 0))) (yF zE)))))) (zM (zQ (yF zE))) yU) (zI (wJ (zLJ (zOV (dB hr.units (dC (zA 1) zC) (zO [48])) (zLI (zPG hr.units (zA 0) (zO [48]))))) (zM (zQ (yF zE))) yU) (zI (zS 2 kH.nd zC) (zI (zBF PassesOwn.never rfl (zDO (zA 1)) (bL 3 kH.nd) (zM (zS 2 kH.nd (yK (jI (zA 2) zC) (zRZ (zO [48, 49, 50, 51, 52, 53, 54, 55, 56, 57]) (zB (zA 3) zE)))))) (zM (zQ (yF (zB (dC (yF (zB (zA 2) (zB (dA zC (zA 2)) zE))) (bC gG zGV rfl nR zGT (zB (zDR hr.units (dC (zA 0) zC) (zO [45])) zE))) zE))))))))))
abbrev yR : Stmt := top 29
theorem zZ : FnScope ["_law_thing", "_law_kinds", "e"] ["_law_thing"] (zG yR) := ⟨rfl, rfl, rfl, by decide +kernel, rfl, by decide +kernel, by decide +kernel⟩
theorem zCD {f : Addr} {fd : FuncData} (F : Fun K "_law_refused" "_law_refused" yR f fd) {xM : Addr} {xl : Nat → Addr} (XT : XTab K mg xM (XCS xl)) (zF : mg "isinstance" = none) (wS : mg "ValueError" = none) {yM : Addr} {xV : FuncData} (cE : FnOk P w K mg base (CXe P w) 2 yM xV ["text"] (spX ⟨K, mg, P, w⟩ 1 zL)) (cB : mg "read_value" = some (.ref yM)) (gW : PySem.W.keepIn K (.ref yM) = true) (cH : Binds K xV ["text"] []) : FnOk P w K mg base CX0 3 f fd ["_law_thing"] (spM ⟨K, mg, P, w⟩ 1 yQ) :=
  okM (k := 2) wR F zZ fun cdv A outer s H E hr => (zI (zS 1 zZ.nd (yF zE)) (zI (zSO XT rfl zZ.nd cE (hr.mono (by decide)) rfl cB gW cH (zB (zA 0) zE) (fun _ => (zI (zS 1 zZ.nd (yF (zB (kN XT xnd (.tail _ (.head _)) zF rfl rfl (zA 2)) (zB (zVR XT zF wS rfl rfl (zA 2)) (zB (kN XT xnd (.head _) zF rfl rfl (zA 2)) (zB (kN XT xnd (.tail _ (.tail _ (.head _))) zF rfl rfl (zA 2)) zE)))))) (zI (zS 1 zZ.nd (yK (zA 1) (yF (zB (kN XT xnd (.tail _ (.tail _ (.tail _ (.head _)))) zF rfl rfl (zA 2)) (zB (kN XT xnd (.tail _ (.tail _ (.tail _ (.tail _ (.head _))))) zF rfl rfl (zA 2)) (zB (kN XT xnd (.tail _ (.tail _ (.tail _ (.tail _ (.tail _ (.head _)))))) zF rfl rfl (zA 2)) (zB (kN XT xnd (.tail _ (.tail _ (.tail _ (.tail _ (.tail _ (.tail _ (.head _))))))) zF rfl rfl (zA 2)) zE))))))) (zI (zS 1 zZ.nd (yK (zA 1) (yF (zB (kN XT xnd (.tail _ (.tail _ (.tail _ (.tail _ (.tail _ (.tail _ (.tail _ (.head _)))))))) zF rfl rfl (zA 2)) (zB (kN XT xnd (.tail _ (.tail _ (.tail _ (.tail _ (.tail _ (.tail _ (.tail _ (.tail _ (.head _))))))))) zF rfl rfl (zA 2)) (zB (kN XT xnd (.tail _ (.tail _ (.tail _ (.tail _ (.tail _ (.tail _ (.tail _ (.tail _ (.tail _ (.head _)))))))))) zF rfl rfl (zA 2)) zE)))))) (zM (zS 1 zZ.nd (yK (zA 1) (yF (zB (kN XT xnd (.tail _ (.tail _ (.tail _ (.tail _ (.tail _ (.tail _ (.tail _ (.tail _ (.tail _ (.tail _ (.head _))))))))))) zF rfl rfl (zA 2)) (zB (kN XT xnd (.tail _ (.tail _ (.tail _ (.tail _ (.tail _ (.tail _ (.tail _ (.tail _ (.tail _ (.tail _ (.tail _ (.head _)))))))))))) zF rfl rfl (zA 2)) zE))))))))))) (zM (zQ (zDR hr.units (zA 1) (yK (yF (zB zAK (zB zAK zE))) (jI (yF (zB zAK zE)) zC)))))))
abbrev xR : Stmt := top 30
theorem gT : FnScope ["_law_text", "_law_due_here", "_law_told"] ["_law_text"] (zG xR) := ⟨rfl, rfl, rfl, by decide +kernel, rfl, by decide +kernel, by decide +kernel⟩
theorem zEZ {f : Addr} {fd : FuncData} (F : Fun K "_law_right" "_law_right" xR f fd) {dS : Addr} {zBY : FuncData} (zKW : FnOk P w K mg base CX0 1 dS zBY ["_law_text"] (spM ⟨K, mg, P, w⟩ 1 bY)) (zKT : mg "_law_due" = some (.ref dS)) (zJC : PySem.W.keepIn K (.ref dS) = true) (zKS : Binds K zBY ["_law_text"] []) {yA : Addr} {yX : FuncData} (hW : FnOk P w K mg base CX0 3 yA yX ["_law_thing"] (spM ⟨K, mg, P, w⟩ 1 yQ)) (hR : mg "_law_refused" = some (.ref yA)) (kQ : PySem.W.keepIn K (.ref yA) = true) (hZ : Binds K yX ["_law_thing"] []) {yM : Addr} {xV : FuncData} (cE : FnOk P w K mg base (CXe P w) 2 yM xV ["text"] (spX ⟨K, mg, P, w⟩ 1 zL)) (cB : mg "read_value" = some (.ref yM)) (gW : PySem.W.keepIn K (.ref yM) = true) (cH : Binds K xV ["text"] []) (zEN : mg "bool" = none) (zF : mg "isinstance" = none) (cQ : mg "str" = none) : FnOk P w K mg base CX0 4 f fd ["_law_text"] (spM ⟨K, mg, P, w⟩ 1 xN) :=
  okM (k := 3) kZ F gT fun cdv A outer s H E hr => (zI (zS 1 gT.nd (yZ zKW (hr.mono (by decide)) rfl zKT zJC zKS (zB (zA 0) zE))) (zI (wJ (dB hr.units (zA 1) (yF zE)) (zM (zQ (yZ hW (hr.mono (by decide)) rfl hR kQ hZ (zB (zA 0) zE)))) yU) (zI (zS 2 gT.nd (yZ cE.noX (hr.mono (by decide)) rfl cB gW cH (zB (zA 0) zE))) (zM (zQ (zKA (zUU (yO dE zDT rfl zF xU (zB (zA 2) (zB (zIE rfl zEN zRV) zE)))) (zKA (zDR hr.units (yO dE zDT rfl zF xU (zB (zA 2) (zB (zIE rfl cQ zDU) zE))) (yO dE zDT rfl zF xU (zB (dC (zA 1) zC) (zB (zIE rfl cQ zDU) zE)))) (zJZ (zDR hr.units (zA 2) (dC (zA 1) zC))))))))))
abbrev zAY : Stmt := top 31
theorem zBM : FnScope ["_law_script", "_law_cells", "_law_one", "_law_other", "_law_text", "_law_thing"] ["_law_script"] (zG zAY) := ⟨rfl, rfl, rfl, by decide +kernel, rfl, by decide +kernel, by decide +kernel⟩
theorem zWI {f : Addr} {fd : FuncData} (F : Fun K "law" "law" zAY f fd) (zJE : mg "zip" = none) {gU : Addr} {nU : FuncData} (zHN : FnOk P w K mg base CX0 2 gU nU ["_law_cell", "_law_other"] (spM ⟨K, mg, P, w⟩ 2 kX)) (zHR : mg "_law_signs" = some (.ref gU)) (zFA : PySem.W.keepIn K (.ref gU) = true) (zHP : Binds K nU ["_law_cell", "_law_other"] []) {cG : Addr} {zBA : FuncData} (zJH : FnOk P w K mg base CX0 3 cG zBA ["_law_cell", "_law_other"] (spM ⟨K, mg, P, w⟩ 2 kG)) (zJD : mg "_law_bent" = some (.ref cG)) (zHS : PySem.W.keepIn K (.ref cG) = true) (zJG : Binds K zBA ["_law_cell", "_law_other"] []) {gX : Addr} {nS : FuncData} (bZ : FnOk P w K mg base CX0 4 gX nS ["_law_text"] (spM ⟨K, mg, P, w⟩ 1 xN)) (cA : mg "_law_right" = some (.ref gX)) (gV : PySem.W.keepIn K (.ref gX) = true) (cI : Binds K nS ["_law_text"] []) {yA : Addr} {yX : FuncData} (hW : FnOk P w K mg base CX0 3 yA yX ["_law_thing"] (spM ⟨K, mg, P, w⟩ 1 yQ)) (hR : mg "_law_refused" = some (.ref yA)) (kQ : PySem.W.keepIn K (.ref yA) = true) (hZ : Binds K yX ["_law_thing"] []) : FnOk P w K mg base CX0 5 f fd ["_law_script"] (spM ⟨K, mg, P, w⟩ 1 zIU) :=
  okM (k := 4) zMB F zBM fun cdv A outer s H E hr => (zI (zS 1 zBM.nd (yK (zAA (zA 0) kC (gF zC)) (yF (zB zC (zB zC (zB zC zE)))))) (zI (zBF PassesOwn.never rfl (zVF rfl zJE (zB (zLV (st := 2) (by decide) (zA 1) kC kC zII) (zB (zLV (st := 2) (by decide) (zA 1) (gF zC) kC zII) zE))) (zUW rfl (zLL (bL 2 zBM.nd) (zLL (bL 3 zBM.nd) zUV))) (zM (zBF PassesOwn.never rfl (zLM (yF (zB (yZ zHN (hr.mono (by decide)) rfl zHR zFA zHP (zB (kM (zA 2) zC) (zB (zA 3) zE))) (zB (yZ zJH (hr.mono (by decide)) rfl zJD zHS zJG (zB (kM (zA 2) zC) (zB (zA 3) zE))) zE)))) (bL 4 zBM.nd) (zM (wJ (nY (kE (yZ bZ (hr.mono (by decide)) rfl cA gV cI (zB (zA 4) zE)))) (zM (zQ zAK)) yU))))) (zI (zBF PassesOwn.never rfl (zLM (yF (zB zUS (zB zC (zB zAK (zB (zOX (zB (zO [97]) zE)) (zB (yF (zB (zO [97]) zE)) (zB (zOX zE) zE)))))))) (bL 5 zBM.nd) (zM (wJ (nY (kE (yZ hW (hr.mono (by decide)) rfl hR kQ hZ (zB (zA 5) zE)))) (zM (zQ zAK)) yU))) (zM (zQ (zKA (yZ bZ (hr.mono (by decide)) rfl cA gV cI (zB (zO [48]) zE)) (zJZ (yZ bZ (hr.mono (by decide)) rfl cA gV cI (zB (zO [97, 110, 110]) zE)))))))))
end
theorem all_mk {l : PySem.W.OpenLaw} {w : World} {K : PySem.W.Frag} {h : Heap} {mg : Str → Option Value} {fa : Addr} (X : K.In h) (GG : h.Ns mainGlobals mg) (hfa : mg "law" = some (.ref fa))
    {g0 : Addr} {od0 an0 : Option Addr} {sl0 : Array (Option Value)} {oc0 kV0 dc0 pm0 cd0 ct0 : Value} (a0 : PySem.W.nsIn K mainGlobals "is_name" = some (some (.ref g0))) (l0 : K.lookup g0 = some ⟨oc0, od0, .func (PySem.W.fnOf "is_name" "is_name" (yG wZ) (zV wZ) (zG wZ) .none kV0 dc0 pm0 an0 cd0 ct0), sl0⟩) (c0 : PySem.W.codeIn K cd0 "is_name" = true) (k0 : PySem.W.keepIn K (.ref g0) = true)
    {g1 : Addr} {od1 an1 : Option Addr} {sl1 : Array (Option Value)} {oc1 kV1 dc1 pm1 cd1 ct1 : Value} (a1 : PySem.W.nsIn K mainGlobals "writes_number" = some (some (.ref g1))) (l1 : K.lookup g1 = some ⟨oc1, od1, .func (PySem.W.fnOf "writes_number" "writes_number" (yG zY) (zV zY) (zG zY) .none kV1 dc1 pm1 an1 cd1 ct1), sl1⟩) (c1 : PySem.W.codeIn K cd1 "writes_number" = true) (k1 : PySem.W.keepIn K (.ref g1) = true)
    {g2 : Addr} {od2 an2 : Option Addr} {sl2 : Array (Option Value)} {oc2 kV2 dc2 pm2 cd2 ct2 : Value} (a2 : PySem.W.nsIn K mainGlobals "read_value" = some (some (.ref g2))) (l2 : K.lookup g2 = some ⟨oc2, od2, .func (PySem.W.fnOf "read_value" "read_value" (yG xO) (zV xO) (zG xO) .none kV2 dc2 pm2 an2 cd2 ct2), sl2⟩) (c2 : PySem.W.codeIn K cd2 "read_value" = true) (k2 : PySem.W.keepIn K (.ref g2) = true)
    {g3 : Addr} {od3 an3 : Option Addr} {sl3 : Array (Option Value)} {oc3 kV3 dc3 pm3 cd3 ct3 : Value} (a3 : PySem.W.nsIn K mainGlobals "_law_mix" = some (some (.ref g3))) (l3 : K.lookup g3 = some ⟨oc3, od3, .func (PySem.W.fnOf "_law_mix" "_law_mix" (yG kA) (zV kA) (zG kA) .none kV3 dc3 pm3 an3 cd3 ct3), sl3⟩) (c3 : PySem.W.codeIn K cd3 "_law_mix" = true) (k3 : PySem.W.keepIn K (.ref g3) = true)
    {g4 : Addr} {od4 an4 : Option Addr} {sl4 : Array (Option Value)} {oc4 kV4 dc4 pm4 cd4 ct4 : Value} (a4 : PySem.W.nsIn K mainGlobals "_law_name" = some (some (.ref g4))) (l4 : K.lookup g4 = some ⟨oc4, od4, .func (PySem.W.fnOf "_law_name" "_law_name" (yG wG) (zV wG) (zG wG) .none kV4 dc4 pm4 an4 cd4 ct4), sl4⟩) (c4 : PySem.W.codeIn K cd4 "_law_name" = true) (k4 : PySem.W.keepIn K (.ref g4) = true)
    {g5 : Addr} {od5 an5 : Option Addr} {sl5 : Array (Option Value)} {oc5 kV5 dc5 pm5 cd5 ct5 : Value} (a5 : PySem.W.nsIn K mainGlobals "_law_value" = some (some (.ref g5))) (l5 : K.lookup g5 = some ⟨oc5, od5, .func (PySem.W.fnOf "_law_value" "_law_value" (yG xP) (zV xP) (zG xP) .none kV5 dc5 pm5 an5 cd5 ct5), sl5⟩) (c5 : PySem.W.codeIn K cd5 "_law_value" = true) (k5 : PySem.W.keepIn K (.ref g5) = true)
    {g6 : Addr} {od6 an6 : Option Addr} {sl6 : Array (Option Value)} {oc6 kV6 dc6 pm6 cd6 ct6 : Value} (a6 : PySem.W.nsIn K mainGlobals "_law_signs" = some (some (.ref g6))) (l6 : K.lookup g6 = some ⟨oc6, od6, .func (PySem.W.fnOf "_law_signs" "_law_signs" (yG xQ) (zV xQ) (zG xQ) .none kV6 dc6 pm6 an6 cd6 ct6), sl6⟩) (c6 : PySem.W.codeIn K cd6 "_law_signs" = true) (k6 : PySem.W.keepIn K (.ref g6) = true)
    {g7 : Addr} {od7 an7 : Option Addr} {sl7 : Array (Option Value)} {oc7 kV7 dc7 pm7 cd7 ct7 : Value} (a7 : PySem.W.nsIn K mainGlobals "_law_bent" = some (some (.ref g7))) (l7 : K.lookup g7 = some ⟨oc7, od7, .func (PySem.W.fnOf "_law_bent" "_law_bent" (yG wH) (zV wH) (zG wH) .none kV7 dc7 pm7 an7 cd7 ct7), sl7⟩) (c7 : PySem.W.codeIn K cd7 "_law_bent" = true) (k7 : PySem.W.keepIn K (.ref g7) = true)
    {g8 : Addr} {od8 an8 : Option Addr} {sl8 : Array (Option Value)} {oc8 kV8 dc8 pm8 cd8 ct8 : Value} (a8 : PySem.W.nsIn K mainGlobals "_law_due" = some (some (.ref g8))) (l8 : K.lookup g8 = some ⟨oc8, od8, .func (PySem.W.fnOf "_law_due" "_law_due" (yG xD) (zV xD) (zG xD) .none kV8 dc8 pm8 an8 cd8 ct8), sl8⟩) (c8 : PySem.W.codeIn K cd8 "_law_due" = true) (k8 : PySem.W.keepIn K (.ref g8) = true)
    {g9 : Addr} {od9 an9 : Option Addr} {sl9 : Array (Option Value)} {oc9 kV9 dc9 pm9 cd9 ct9 : Value} (a9 : PySem.W.nsIn K mainGlobals "_law_refused" = some (some (.ref g9))) (l9 : K.lookup g9 = some ⟨oc9, od9, .func (PySem.W.fnOf "_law_refused" "_law_refused" (yG yR) (zV yR) (zG yR) .none kV9 dc9 pm9 an9 cd9 ct9), sl9⟩) (c9 : PySem.W.codeIn K cd9 "_law_refused" = true) (k9 : PySem.W.keepIn K (.ref g9) = true)
    {g10 : Addr} {od10 an10 : Option Addr} {sl10 : Array (Option Value)} {oc10 kV10 dc10 pm10 cd10 ct10 : Value} (a10 : PySem.W.nsIn K mainGlobals "_law_right" = some (some (.ref g10))) (l10 : K.lookup g10 = some ⟨oc10, od10, .func (PySem.W.fnOf "_law_right" "_law_right" (yG xR) (zV xR) (zG xR) .none kV10 dc10 pm10 an10 cd10 ct10), sl10⟩) (c10 : PySem.W.codeIn K cd10 "_law_right" = true) (k10 : PySem.W.keepIn K (.ref g10) = true)
    {g11 : Addr} {od11 an11 : Option Addr} {sl11 : Array (Option Value)} {oc11 kV11 dc11 pm11 cd11 ct11 : Value} (a11 : PySem.W.nsIn K mainGlobals "law" = some (some (.ref g11))) (l11 : K.lookup g11 = some ⟨oc11, od11, .func (PySem.W.fnOf "law" "law" (yG zAY) (zV zAY) (zG zAY) .none kV11 dc11 pm11 an11 cd11 ct11), sl11⟩) (c11 : PySem.W.codeIn K cd11 "law" = true) (k11 : PySem.W.keepIn K (.ref g11) = true)
    {zBO : Tok} {v_FIGURES : Str} (bH : PySem.W.nsIn K mainGlobals "FIGURES" = some (some (.str v_FIGURES zBO))) (zBN : v_FIGURES = mkS [48, 49, 50, 51, 52, 53, 54, 55, 56, 57])
    {hX : Tok} (xF : PySem.W.nsIn K mainGlobals "MOST_FIGURES" = some (some (.int 30 hX)))
    {hV : Tok} (xE : PySem.W.nsIn K mainGlobals "MOST_LETTERS" = some (some (.int 8 hV)))
    {C_MendError : Addr} {i_MendError : Option Value} (dU : PySem.W.nsIn K mainGlobals "MendError" = some (some (.ref C_MendError))) (x_MendError : XCl K C_MendError bmV i_MendError)
    {C_TooGreat : Addr} {i_TooGreat : Option Value} (zAC : PySem.W.nsIn K mainGlobals "TooGreat" = some (some (.ref C_TooGreat))) (x_TooGreat : XCl K C_TooGreat (.ref C_MendError :: bmV) i_TooGreat)
    {C_NoText : Addr} {i_NoText : Option Value} (zEJ : PySem.W.nsIn K mainGlobals "NoText" = some (some (.ref C_NoText))) (x_NoText : XCl K C_NoText (.ref C_MendError :: bmV) i_NoText)
    {C_NoPlace : Addr} {i_NoPlace : Option Value} (zBQ : PySem.W.nsIn K mainGlobals "NoPlace" = some (some (.ref C_NoPlace))) (x_NoPlace : XCl K C_NoPlace (.ref C_MendError :: bmV) i_NoPlace)
    {C_NotPlain : Addr} {i_NotPlain : Option Value} (zAD : PySem.W.nsIn K mainGlobals "NotPlain" = some (some (.ref C_NotPlain))) (x_NotPlain : XCl K C_NotPlain (.ref C_MendError :: bmV) i_NotPlain)
    {C_NoTable : Addr} {i_NoTable : Option Value} (zBP : PySem.W.nsIn K mainGlobals "NoTable" = some (some (.ref C_NoTable))) (x_NoTable : XCl K C_NoTable (.ref C_MendError :: bmV) i_NoTable)
    {C_NoRule : Addr} {i_NoRule : Option Value} (zEK : PySem.W.nsIn K mainGlobals "NoRule" = some (some (.ref C_NoRule))) (x_NoRule : XCl K C_NoRule (.ref C_MendError :: bmV) i_NoRule)
    {C_NoRow : Addr} {i_NoRow : Option Value} (zHO : PySem.W.nsIn K mainGlobals "NoRow" = some (some (.ref C_NoRow))) (x_NoRow : XCl K C_NoRow (.ref C_MendError :: bmV) i_NoRow)
    {C_Twice : Addr} {i_Twice : Option Value} (zHQ : PySem.W.nsIn K mainGlobals "Twice" = some (some (.ref C_Twice))) (x_Twice : XCl K C_Twice (.ref C_MendError :: bmV) i_Twice)
    {C_NoQuestion : Addr} {i_NoQuestion : Option Value} (cK : PySem.W.nsIn K mainGlobals "NoQuestion" = some (some (.ref C_NoQuestion))) (x_NoQuestion : XCl K C_NoQuestion (.ref C_MendError :: bmV) i_NoQuestion)
    {C_Double : Addr} {i_Double : Option Value} (zEL : PySem.W.nsIn K mainGlobals "Double" = some (some (.ref C_Double))) (x_Double : XCl K C_Double (.ref C_MendError :: bmV) i_Double)
    {C_TooWide : Addr} {i_TooWide : Option Value} (zBR : PySem.W.nsIn K mainGlobals "TooWide" = some (some (.ref C_TooWide))) (x_TooWide : XCl K C_TooWide (.ref C_MendError :: bmV) i_TooWide)
    {C_Ring : Addr} {i_Ring : Option Value} (zKV : PySem.W.nsIn K mainGlobals "Ring" = some (some (.ref C_Ring))) (x_Ring : XCl K C_Ring (.ref C_MendError :: bmV) i_Ring)
    (j_MendError : i_MendError = none)
    (j_TooGreat : i_TooGreat = none)
    (j_NoText : i_NoText = none)
    (j_NoPlace : i_NoPlace = none)
    (j_NotPlain : i_NotPlain = none)
    (xd : [C_MendError, C_TooGreat, C_NoText, C_NoPlace, C_NotPlain, C_NoTable, C_NoRule, C_NoRow, C_Twice, C_NoQuestion, C_Double, C_TooWide, C_Ring].Nodup)
    (wS : PySem.W.nsIn K mainGlobals "ValueError" = some none)
    (zEI : PySem.W.nsIn K mainGlobals "all" = some none)
    (zEN : PySem.W.nsIn K mainGlobals "bool" = some none)
    (nR : PySem.W.nsIn K mainGlobals "int" = some none)
    (zF : PySem.W.nsIn K mainGlobals "isinstance" = some none)
    (gI : PySem.W.nsIn K mainGlobals "len" = some none)
    (cJ : PySem.W.nsIn K mainGlobals "range" = some none)
    (cQ : PySem.W.nsIn K mainGlobals "str" = some none)
    (zJE : PySem.W.nsIn K mainGlobals "zip" = some none)
    : ∃ fd : FuncData, (∀ (s : Shared) (v : Value), BindsTo s fd ⟨[v], []⟩ [("_law_script", v)]) ∧ ∀ base : Heap, K.In base → base.Ns mainGlobals mg → FnOk l.prog w K mg base CX0 5 fa fd ["_law_script"] (zIP K zIU) := by
  have e := hfa.symm.trans (PySem.W.mg_of X GG a11)
  cases e
  have Z_ValueError := PySem.W.mg_none_of X GG wS
  have Z_all := PySem.W.mg_none_of X GG zEI
  have Z_bool := PySem.W.mg_none_of X GG zEN
  have Z_int := PySem.W.mg_none_of X GG nR
  have Z_isinstance := PySem.W.mg_none_of X GG zF
  have Z_len := PySem.W.mg_none_of X GG gI
  have Z_range := PySem.W.mg_none_of X GG cJ
  have Z_str := PySem.W.mg_none_of X GG cQ
  have Z_zip := PySem.W.mg_none_of X GG zJE
  subst zBN
  have M_FIGURES := PySem.W.mg_of X GG bH
  have M_MOST_FIGURES := PySem.W.mg_of X GG xF
  have M_MOST_LETTERS := PySem.W.mg_of X GG xE
  subst j_MendError
  subst j_TooGreat
  subst j_NoText
  subst j_NoPlace
  subst j_NotPlain
  let xl : Nat → Addr := fun n => [C_TooGreat, C_NoText, C_NoPlace, C_NotPlain, C_NoTable, C_NoRule, C_NoRow, C_Twice, C_NoQuestion, C_Double, C_TooWide, C_Ring].getD n 0
  have XT : XTab K mg C_MendError (XCS xl) := ⟨PySem.W.mg_of X GG dU, x_MendError, ⟨⟨PySem.W.mg_of X GG zAC, _, x_TooGreat⟩, ⟨PySem.W.mg_of X GG zEJ, _, x_NoText⟩, ⟨PySem.W.mg_of X GG zBQ, _, x_NoPlace⟩, ⟨PySem.W.mg_of X GG zAD, _, x_NotPlain⟩, ⟨PySem.W.mg_of X GG zBP, _, x_NoTable⟩, ⟨PySem.W.mg_of X GG zEK, _, x_NoRule⟩, ⟨PySem.W.mg_of X GG zHO, _, x_NoRow⟩, ⟨PySem.W.mg_of X GG zHQ, _, x_Twice⟩, ⟨PySem.W.mg_of X GG cK, _, x_NoQuestion⟩, ⟨PySem.W.mg_of X GG zEL, _, x_Double⟩, ⟨PySem.W.mg_of X GG zBR, _, x_TooWide⟩, ⟨PySem.W.mg_of X GG zKV, _, x_Ring⟩, trivial⟩, xd⟩
  have F0 := kI (st := wZ) l0 c0 k0
  have b0 := F0.binds (ps := ["thing"]) fun _ _ _ _ _ _ us hl => match us, hl with | [_], _ => rfl
  have m0 := PySem.W.mg_of X GG a0
  have F1 := kI (st := zY) l1 c1 k1
  have b1 := F1.binds (ps := ["text"]) fun _ _ _ _ _ _ us hl => match us, hl with | [_], _ => rfl
  have m1 := PySem.W.mg_of X GG a1
  have F2 := kI (st := xO) l2 c2 k2
  have b2 := F2.binds (ps := ["text"]) fun _ _ _ _ _ _ us hl => match us, hl with | [_], _ => rfl
  have m2 := PySem.W.mg_of X GG a2
  have F3 := kI (st := kA) l3 c3 k3
  have b3 := F3.binds (ps := ["_law_cell", "_law_prime"]) fun _ _ _ _ _ _ us hl => match us, hl with | [_, _], _ => rfl
  have m3 := PySem.W.mg_of X GG a3
  have F4 := kI (st := wG) l4 c4 k4
  have b4 := F4.binds (ps := ["_law_cell"]) fun _ _ _ _ _ _ us hl => match us, hl with | [_], _ => rfl
  have m4 := PySem.W.mg_of X GG a4
  have F5 := kI (st := xP) l5 c5 k5
  have b5 := F5.binds (ps := ["_law_cell"]) fun _ _ _ _ _ _ us hl => match us, hl with | [_], _ => rfl
  have m5 := PySem.W.mg_of X GG a5
  have F6 := kI (st := xQ) l6 c6 k6
  have b6 := F6.binds (ps := ["_law_cell", "_law_other"]) fun _ _ _ _ _ _ us hl => match us, hl with | [_, _], _ => rfl
  have m6 := PySem.W.mg_of X GG a6
  have F7 := kI (st := wH) l7 c7 k7
  have b7 := F7.binds (ps := ["_law_cell", "_law_other"]) fun _ _ _ _ _ _ us hl => match us, hl with | [_, _], _ => rfl
  have m7 := PySem.W.mg_of X GG a7
  have F8 := kI (st := xD) l8 c8 k8
  have b8 := F8.binds (ps := ["_law_text"]) fun _ _ _ _ _ _ us hl => match us, hl with | [_], _ => rfl
  have m8 := PySem.W.mg_of X GG a8
  have F9 := kI (st := yR) l9 c9 k9
  have b9 := F9.binds (ps := ["_law_thing"]) fun _ _ _ _ _ _ us hl => match us, hl with | [_], _ => rfl
  have m9 := PySem.W.mg_of X GG a9
  have F10 := kI (st := xR) l10 c10 k10
  have b10 := F10.binds (ps := ["_law_text"]) fun _ _ _ _ _ _ us hl => match us, hl with | [_], _ => rfl
  have m10 := PySem.W.mg_of X GG a10
  have F11 := kI (st := zAY) l11 c11 k11
  have b11 := F11.binds (ps := ["_law_script"]) fun _ _ _ _ _ _ us hl => match us, hl with | [_], _ => rfl
  have m11 := PySem.W.mg_of X GG a11
  refine ⟨PySem.W.fnOf "law" "law" (yG zAY) (zV zAY) (zG zAY) .none kV11 dc11 pm11 an11 cd11 ct11, fun s v => .of_eq rfl, fun base _ _ => ?_⟩
  have G0 := zKO (P := l.prog) (w := w) (mg := mg) (base := base) F0 Z_str Z_isinstance Z_len M_MOST_LETTERS Z_all
  have G1 := zBL (P := l.prog) (w := w) (mg := mg) (base := base) F1 Z_len M_MOST_FIGURES M_FIGURES Z_all
  have G2 := zEW (P := l.prog) (w := w) (mg := mg) (base := base) F2 XT Z_str Z_isinstance x_NoText G0 m0 k0 b0 G1 m1 k1 b1 Z_int
  have G3 := zIZ (P := l.prog) (w := w) (mg := mg) (base := base) F3
  have G4 := zHH (P := l.prog) (w := w) (mg := mg) (base := base) F4 Z_range
  have G5 := zEX (P := l.prog) (w := w) (mg := mg) (base := base) F5 G4 m4 k4 b4
  have G6 := zEY (P := l.prog) (w := w) (mg := mg) (base := base) F6 G3 m3 k3 b3 Z_int Z_range Z_len
  have G7 := zHI (P := l.prog) (w := w) (mg := mg) (base := base) F7 G5 m5 k5 b5 Z_str Z_len
  have G8 := zJA (P := l.prog) (w := w) (mg := mg) (base := base) F8 Z_len Z_int
  have G9 := zCD (P := l.prog) (w := w) (mg := mg) (base := base) F9 XT Z_isinstance Z_ValueError G2 m2 k2 b2
  have G10 := zEZ (P := l.prog) (w := w) (mg := mg) (base := base) F10 G8 m8 k8 b8 G9 m9 k9 b9 G2 m2 k2 b2 Z_bool Z_isinstance Z_str
  have G11 := zWI (P := l.prog) (w := w) (mg := mg) (base := base) F11 Z_zip G6 m6 k6 b6 G7 m7 k7 b7 G10 m10 k10 b10 G9 m9 k9 b9
  exact G11.imp fun vs H Q E => zPS (g := ⟨K, mg, l.prog, w⟩) vs H Q E
theorem walk {l : PySem.W.OpenLaw} {q : Program} {loose : List Str} {XP : (Str → Option Value) → Heap → Prop} {YP : World → Heap → Prop} {d : DefRec} {K : Params → PySem.W.Frag} (hn : l.most = some 63) (hdf : d.params.defaults = [])
    (hY : ∀ (w : World) (h : Heap), YP w h → (K w.params).In h)
    (F : ∀ (w : World) (mg : Str → Option Value) (fa : Addr) (h : Heap), (K w.params).In h → h.Ns mainGlobals mg → mg d.name = some (.ref fa) →
      ∃ fd : FuncData, (∀ (s : Shared) (u : Value), BindsTo s fd ⟨[u], []⟩ [("_law_script", u)]) ∧ ∀ base : Heap, (K w.params).In base → base.Ns mainGlobals mg → FnOk l.prog w (K w.params) mg base CX0 5 fa fd ["_law_script"] (zIP (K w.params) zIU)) :
    PySem.W.WalkO q loose XP YP l.row.toRowW d [] (fun f vs => PySem.call f vs) :=
  L2.walk_of (n := 63) (k := 5) (x := "_law_script") (CX := fun _ => CX0) (sp := fun w => zIP (K w.params) zIU) hn (by decide) hdf ⟨rfl, by decide, by decide⟩ hY F
    (fun w H a ns hl hO hS => zPT hO hS (zQL ns hl)) fun _ _ _ _ _ z => z
end My
end M
end L2
open PySem PySem.W PyProof.Rows
set_option maxRecDepth 100000 in
set_option maxHeartbeats 0 in
theorem PySem.Challenge.cw_mendsure_k05_texts_of_no_value_holds : PySem.Challenge.rw_mendsure_k05_texts_of_no_value.Holds := by
  w_on; o_law; k_head; (case hw => w_witness2)
  k_fill
  refine L2.M.My.walk (l := PySem.Challenge.rw_mendsure_k05_texts_of_no_value) rfl rfl (fun w h Y => PySem.W.kIn_of Y) ?F
  case F =>
    intro w mg fa h KX G hmg
    refine' L2.M.My.all_mk KX G hmg ?a0 ?l0 ?c0 ?k0 ?a1 ?l1 ?c1 ?k1 ?a2 ?l2 ?c2 ?k2 ?a3 ?l3 ?c3 ?k3 ?a4 ?l4 ?c4 ?k4 ?a5 ?l5 ?c5 ?k5 ?a6 ?l6 ?c6 ?k6 ?a7 ?l7 ?c7 ?k7 ?a8 ?l8 ?c8 ?k8 ?a9 ?l9 ?c9 ?k9 ?a10 ?l10 ?c10 ?k10 ?a11 ?l11 ?c11 ?k11 ?bH ?zBN ?xF ?xE ?dU ?x_MendError ?zAC ?x_TooGreat ?zEJ ?x_NoText ?zBQ ?x_NoPlace ?zAD ?x_NotPlain ?zBP ?x_NoTable ?zEK ?x_NoRule ?zHO ?x_NoRow ?zHQ ?x_Twice ?cK ?x_NoQuestion ?zEL ?x_Double ?zBR ?x_TooWide ?zKV ?x_Ring ?j_MendError ?j_TooGreat ?j_NoText ?j_NoPlace ?j_NotPlain ?xd ?wS ?zEI ?zEN ?nR ?zF ?gI ?cJ ?cQ ?zJE
    (case a0 => k_is)
    (case l0 => k_is)
    (case c0 => k_is)
    (case k0 => k_is)
    (case a1 => k_is)
    (case l1 => k_is)
    (case c1 => k_is)
    (case k1 => k_is)
    (case a2 => k_is)
    (case l2 => k_is)
    (case c2 => k_is)
    (case k2 => k_is)
    (case a3 => k_is)
    (case l3 => k_is)
    (case c3 => k_is)
    (case k3 => k_is)
    (case a4 => k_is)
    (case l4 => k_is)
    (case c4 => k_is)
    (case k4 => k_is)
    (case a5 => k_is)
    (case l5 => k_is)
    (case c5 => k_is)
    (case k5 => k_is)
    (case a6 => k_is)
    (case l6 => k_is)
    (case c6 => k_is)
    (case k6 => k_is)
    (case a7 => k_is)
    (case l7 => k_is)
    (case c7 => k_is)
    (case k7 => k_is)
    (case a8 => k_is)
    (case l8 => k_is)
    (case c8 => k_is)
    (case k8 => k_is)
    (case a9 => k_is)
    (case l9 => k_is)
    (case c9 => k_is)
    (case k9 => k_is)
    (case a10 => k_is)
    (case l10 => k_is)
    (case c10 => k_is)
    (case k10 => k_is)
    (case a11 => k_is)
    (case l11 => k_is)
    (case c11 => k_is)
    (case k11 => k_is)
    (case bH => k_is)
    (case zBN => rfl)
    (case xF => k_is)
    (case xE => k_is)
    (case dU => k_is)
    (case x_MendError => exact L2.M.xcl_mk (by k_is) (by k_is) rfl (by k_is) (by k_is) (by k_is) (by k_is))
    (case zAC => k_is)
    (case x_TooGreat => exact L2.M.xcl_mk (by k_is) (by k_is) rfl (by k_is) (by k_is) (by k_is) (by k_is))
    (case zEJ => k_is)
    (case x_NoText => exact L2.M.xcl_mk (by k_is) (by k_is) rfl (by k_is) (by k_is) (by k_is) (by k_is))
    (case zBQ => k_is)
    (case x_NoPlace => exact L2.M.xcl_mk (by k_is) (by k_is) rfl (by k_is) (by k_is) (by k_is) (by k_is))
    (case zAD => k_is)
    (case x_NotPlain => exact L2.M.xcl_mk (by k_is) (by k_is) rfl (by k_is) (by k_is) (by k_is) (by k_is))
    (case zBP => k_is)
    (case x_NoTable => exact L2.M.xcl_mk (by k_is) (by k_is) rfl (by k_is) (by k_is) (by k_is) (by k_is))
    (case zEK => k_is)
    (case x_NoRule => exact L2.M.xcl_mk (by k_is) (by k_is) rfl (by k_is) (by k_is) (by k_is) (by k_is))
    (case zHO => k_is)
    (case x_NoRow => exact L2.M.xcl_mk (by k_is) (by k_is) rfl (by k_is) (by k_is) (by k_is) (by k_is))
    (case zHQ => k_is)
    (case x_Twice => exact L2.M.xcl_mk (by k_is) (by k_is) rfl (by k_is) (by k_is) (by k_is) (by k_is))
    (case cK => k_is)
    (case x_NoQuestion => exact L2.M.xcl_mk (by k_is) (by k_is) rfl (by k_is) (by k_is) (by k_is) (by k_is))
    (case zEL => k_is)
    (case x_Double => exact L2.M.xcl_mk (by k_is) (by k_is) rfl (by k_is) (by k_is) (by k_is) (by k_is))
    (case zBR => k_is)
    (case x_TooWide => exact L2.M.xcl_mk (by k_is) (by k_is) rfl (by k_is) (by k_is) (by k_is) (by k_is))
    (case zKV => k_is)
    (case x_Ring => exact L2.M.xcl_mk (by k_is) (by k_is) rfl (by k_is) (by k_is) (by k_is) (by k_is))
    (case j_MendError => rfl)
    (case j_TooGreat => rfl)
    (case j_NoText => rfl)
    (case j_NoPlace => rfl)
    (case j_NotPlain => rfl)
    (case xd => decide)
    (case wS => k_is)
    (case zEI => k_is)
    (case zEN => k_is)
    (case nR => k_is)
    (case zF => k_is)
    (case gI => k_is)
    (case cJ => k_is)
    (case cQ => k_is)
    (case zJE => k_is)
#print axioms PySem.Challenge.cw_mendsure_k05_texts_of_no_value_holds
