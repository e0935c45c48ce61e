import PyProof.Rows.All
import Wide.All
import OpenK.AllK
import Wide.FinOn
import Lean
import PyProof.EqAt
import PyProof.EqKinds
import PyProof.TupleCall
import PySem.Challenge.RW_mendsure_k04_values_written_and_read
set_option Elab.async false
set_option linter.all false
set_option maxRecDepth 100000
/-! THE HAND LAYER, for ints, bools, texts, own classes, LISTS and tuples (index, slices, in, append, pop ..), calls, loops. Paste it whole ahead of your own text; what your proof does not reach may be deleted. -/
namespace L2
open PySem PySem.Spec PyProof.Rows

/-- a key: an int or a str -/
abbrev Key := Sum Int Str
def keyIs : Key → Value → Bool
  | .inl k, v => Value.isInt k v
  | .inr x, v => Value.isStrOf x v
def keyH (w : World) : Key → Int
  | .inl k => hashInt k
  | .inr x => hashStr w x
theorem keyIs_shape : ∀ {k : Key} {v : Value}, keyIs k v = true → (∃ i t, k = Sum.inl i ∧ v = Value.int i t) ∨ (∃ x t, k = Sum.inr x ∧ v = Value.str x t)
  | .inl i, v, h => by
    obtain ⟨t, e⟩ := Value.isInt_shape (k := i) (v := v) h
    exact .inl ⟨i, t, rfl, e⟩
  | .inr x, v, h => by
    obtain ⟨t, e⟩ := Value.isStrOf_shape (x := x) (v := v) h
    exact .inr ⟨x, t, rfl, e⟩
theorem keyIs_int (i : Int) (t : Tok) : keyIs (.inl i) (.int i t) = true := by simp [keyIs, Value.isInt]
theorem keyIs_str (x : Str) (t : Tok) : keyIs (.inr x) (.str x t) = true := by simp [keyIs, Value.isStrOf]
theorem key_ll (a b : Int) : decide ((Sum.inl a : Key) = Sum.inl b) = (a == b) := by
  by_cases e : a = b
  · subst e; simp
  · have h : ¬ (Sum.inl a : Key) = Sum.inl b := fun q => e (Sum.inl.inj q)
    rw [decide_eq_false h]
    exact (beq_eq_false_iff_ne.mpr e).symm
theorem key_rr (a b : Str) : decide ((Sum.inr a : Key) = Sum.inr b) = decide (a = b) := by
  by_cases e : a = b
  · subst e; simp
  · have h : ¬ (Sum.inr a : Key) = Sum.inr b := fun q => e (Sum.inr.inj q)
    rw [decide_eq_false h, decide_eq_false e]
theorem key_lr (a : Int) (b : Str) : decide ((Sum.inl a : Key) = Sum.inr b) = false := decide_eq_false (fun q => nomatch q)
theorem key_rl (a : Str) (b : Int) : decide ((Sum.inr a : Key) = Sum.inl b) = false := decide_eq_false (fun q => nomatch q)

def mixKind (prog : Program) (w : World) : PySem.KeyKind prog w Key where
  is := keyIs
  hash := keyH w
  inj := fun v a b ha hb => by
    rcases keyIs_shape ha with ⟨i, t, rfl, rfl⟩ | ⟨x, t, rfl, rfl⟩
    · rcases keyIs_shape hb with ⟨j, u, rfl, e⟩ | ⟨y, u, rfl, e⟩
      · injection e with e1 _; rw [e1]
      · exact nomatch e
    · rcases keyIs_shape hb with ⟨j, u, rfl, e⟩ | ⟨y, u, rfl, e⟩
      · exact nomatch e
      · injection e with e1 _; rw [e1]
  byValue := fun k v h => by
    rcases keyIs_shape h with ⟨i, t, rfl, rfl⟩ | ⟨x, t, rfl, rfl⟩ <;> rfl
  pyHash := fun hv h => by
    rcases keyIs_shape hv with ⟨i, t, rfl, rfl⟩ | ⟨x, t, rfl, rfl⟩
    · exact wpAny_pyHash_int h
    · exact wpAny_pyHash_str h
  eqBool := fun hu hv h => by
    rcases keyIs_shape hu with ⟨i, t, rfl, rfl⟩ | ⟨x, t, rfl, rfl⟩
    · rcases keyIs_shape hv with ⟨j, u, rfl, rfl⟩ | ⟨y, u, rfl, rfl⟩
      · rw [key_ll] at h; exact wpAny_eqBool_int h
      · rw [key_lr] at h; exact SeqAt.EqAt.int_str i t y u _ _ _ _ h
    · rcases keyIs_shape hv with ⟨j, u, rfl, rfl⟩ | ⟨y, u, rfl, rfl⟩
      · rw [key_rl] at h; exact SeqAt.EqAt.str_int x t j u _ _ _ _ h
      · rw [key_rr] at h; exact wpAny_eqBool_str h
  «strs» := fun k x t v h => by
    rcases keyIs_shape h with ⟨i, u, rfl, e⟩ | ⟨y, u, rfl, e⟩
    · exact nomatch e
    · injection e with e1 _
      subst e1
      cases v <;> rfl

theorem mixKind_is (prog : Program) (w : World) (k : Key) (v : Value) : (mixKind prog w).is k v = keyIs k v := rfl
theorem mixKind_int (prog : Program) (w : World) (i : Int) (t : Tok) : (mixKind prog w).is (.inl i) (.int i t) = true := keyIs_int i t
theorem mixKind_str (prog : Program) (w : World) (x : Str) (t : Tok) : (mixKind prog w).is (.inr x) (.str x t) = true := keyIs_str x t
end L2

namespace L2
open PySem PySem.Spec PyProof.Rows

/-- a value, without the heap -/
inductive V where
  | non | bl (b : Bool) | int (i : Int) | str (x : Str) | byt (b : Array UInt8) | flt (b : UInt64) | ref (a : Addr) | ty (n : String)
  deriving DecidableEq

def RelV : V → Value → Prop
  | .non, u => u = Value.none
  | .bl b, u => u = Value.bool b
  | .int i, u => ∃ t, u = Value.int i t
  | .str x, u => ∃ t, u = Value.str x t
  | .byt b, u => ∃ t, u = Value.bytes b t
  | .flt b, u => ∃ t, u = Value.float b t
  | .ref a, u => u = Value.ref a
  | .ty n, u => u = Value.type n

abbrev Vals : List V → List Value → Prop := Paired RelV
theorem Vals.length {xs : List V} {us : List Value} (r : Vals xs us) : xs.length = us.length := Paired.length r
theorem Vals.get : ∀ {xs : List V} {us : List Value} {i : Nat} {x : V}, Vals xs us → xs[i]? = some x → ∃ u, us[i]? = some u ∧ RelV x u
  | _, _, _, _, .nil, e => by simp at e
  | _, _, 0, _, .cons r _, e => by simp at e; subst e; exact ⟨_, rfl, r⟩
  | _, _, i + 1, x, .cons _ t, e => by
    obtain ⟨u, h1, h2⟩ := Vals.get (i := i) (x := x) t (by simpa using e)
    exact ⟨u, by simpa using h1, h2⟩
theorem Vals.set {x : V} {u : Value} (r : RelV x u) : ∀ {xs : List V} {us : List Value} (i : Nat), Vals xs us → Vals (xs.set i x) (us.set i u)
  | _, _, _, .nil => .nil
  | _, _, 0, .cons _ t => .cons r t
  | _, _, i + 1, .cons q t => .cons q (Vals.set r i t)
theorem Vals.append : ∀ {xs ys : List V} {us ws : List Value}, Vals xs us → Vals ys ws → Vals (xs ++ ys) (us ++ ws)
  | _, _, _, _, .nil, s => s
  | _, _, _, _, .cons r t, s => .cons r (Vals.append t s)
theorem Vals.take : ∀ {xs : List V} {us : List Value} (n : Nat), Vals xs us → Vals (xs.take n) (us.take n)
  | _, _, 0, _ => .nil
  | _, _, _ + 1, .nil => .nil
  | _, _, n + 1, .cons r t => .cons r (Vals.take n t)
theorem Vals.drop : ∀ {xs : List V} {us : List Value} (n : Nat), Vals xs us → Vals (xs.drop n) (us.drop n)
  | _, _, 0, r => r
  | _, _, _ + 1, .nil => .nil
  | _, _, n + 1, .cons _ t => Vals.drop n t
theorem Vals.none_of : ∀ {xs : List V} {us : List Value} {i : Nat}, Vals xs us → xs[i]? = none → us[i]? = none := fun {xs us i} r e => by
  have h1 := r.length
  have h2 : xs.length ≤ i := List.getElem?_eq_none_iff.mp e
  exact List.getElem?_eq_none_iff.mpr (by omega)

def RelO : Option V → Option Value → Prop
  | some v, some u => RelV v u
  | none, none => True
  | _, _ => False
def KV {κ : Type} : List (κ × V) → List (κ × Value) → Prop := Paired fun (p : κ × V) (q : κ × Value) => p.1 = q.1 ∧ RelV p.2 q.2

/-- a key of a dict (00_mix): an int or a text -/
def kV : Key → V
  | .inl i => .int i
  | .inr x => .str x

/-- what stands at a tracked address -/
inductive HO where
  /-- a list -/
  | lst (xs : List V)
  /-- a tuple (never changes) -/
  | tup (xs : List V)
  /-- a dict whose keys are ints and texts; one whose keys are tuples of ints and texts (the empty one is both) -/
  | dK (kvs : List (Key × V)) | dT (kvs : List (List Key × V))
  /-- a set of ints: its members, its size -/
  | set (S : Int → Bool) (n : Nat)
  /-- an instance of the class at C, its dict at dx, its attributes -/
  | ins (C dx : Addr) (fs : List (Str × V))
  /-- the dict of the instance at x -/
  | own (x : Addr)
  /-- the dict of an exception -/
  | xd (fs : List (Str × V))
  /-- a bound method, f of x -/
  | met (f x : Addr)
  /-- a range object lo, lo + 1, .. below hi -/
  | rng (lo hi : Int)
  /-- a thing that is known to the object (the script; a dict while a loop walks it): read, never written while it is so -/
  | frz (o : Obj) (u : HO)
  /-- a code object's table -/
  | tbl (ps : Array Value)
  /-- any other thing, by what is true of its one object (a def of one's own: SetO a S n := HO.ext fun h => ..) -/
  | ext (φ : Heap → Prop)

abbrev Hp := Addr → Option HO
def upd (H : Hp) (a : Addr) (o : HO) : Hp := fun b => if b = a then some o else H b
theorem upd_same {H : Hp} {a : Addr} {o : HO} : upd H a o a = some o := by unfold upd; rw [if_pos rfl]
theorem upd_ne {H : Hp} {a b : Addr} {o : HO} (h : b ≠ a) : upd H a o b = H b := by unfold upd; rw [if_neg h]
theorem upd_upd {H : Hp} {a : Addr} {o u : HO} : upd (upd H a o) a u = upd H a u := by
  funext b; unfold upd; split <;> rfl
/-- two objects of different content stand apart -/
theorem ne_of {H : Hp} {a b : Addr} {o u : HO} (h : H a = some o) (h' : H b = some u) (d : o ≠ u) : a ≠ b := by
  intro e; subst e; rw [h] at h'; exact d (Option.some.inj h')
theorem ne_of_none {H : Hp} {a b : Addr} {o : HO} (h : H a = some o) (h' : H b = none) : a ≠ b := by
  intro e; subst e; rw [h] at h'; cases h'

section
variable (P : Program) (w : World)
def ObjOk (H : Hp) (h : Heap) (a : Addr) : HO → Prop
  | .lst xs => xs.length ≤ sizeLine ∧ ∃ (its : List Value) (n : Nat), Vals xs its ∧ h.get? a = some { cls := .type "list", data := .seq its.toArray n }
  | .tup xs => xs.length ≤ sizeLine ∧ ∃ its : List Value, Vals xs its ∧ IsTup h a its.toArray
  | .dK kvs => kvs.length ≤ sizeLine ∧ (a == sysModules) = false ∧ ∃ vs, KV kvs vs ∧ h.DictOf (mixKind P w) a vs
  | .dT kvs => kvs.length ≤ sizeLine ∧ (a == sysModules) = false ∧ ∃ xs : List (List Key × Addr × Value),
      Paired (fun (p : List Key × V) (q : List Key × Addr × Value) => p.1 = q.1 ∧ H q.2.1 = some (.tup (p.1.map kV)) ∧ RelV p.2 q.2.2) kvs xs ∧
      ∃ o es ep, h.get? a = some o ∧ o.ExactDict ∧ o.data = .dict es ep ∧ es.toList = xs.map (entryOfKey (tupleKind (mixKind P w))) ∧ (xs.map (·.1)).Nodup
  | .set S n => h.SetOf (intKind P w) a S n
  | .ins C dx fs => H dx = some (.own a) ∧ fs.length ≤ 1000 ∧ dx ≠ a ∧ h.get? a = some (PySem.W.instObj C dx) ∧
      ∃ mA, h.Ns1 dx mA ∧ (∀ f, RelO (fs.lookup f) (mA f)) ∧ PySem.Within mA (fs.map (·.1))
  | .own _ => ∃ o, h.get? a = some o
  | .xd fs => ∃ mA, h.Ns1 a mA ∧ ∀ f, RelO (fs.lookup f) (mA f)
  | .rng lo hi => ∃ t u v, h.get? a = some { cls := .type "range", data := .fields #[.int lo t, .int hi u, .int 1 v] }
  | .frz o u => h.get? a = some o ∧ ObjOk H h a u
  | .tbl ps => h.get? a = some { cls := .none, data := .fields ps }
  | .met f x => h.get? a = some (PySem.W.methodObj (.ref f) (.ref x))
  | .ext φ => φ h ∧ (∃ o, h.get? a = some o) ∧ ∀ h1 h2 : Heap, φ h1 → (∀ o, h1.get? a = some o → h2.get? a = some o) → φ h2
/-- the abstract heap is held -/
def HOk (H : Hp) (h : Heap) : Prop := ∀ a o, H a = some o → ObjOk P w H h a o
end

section
variable {P : Program} {w : World} {H H' : Hp} {h h' : Heap} {a : Addr} {o : HO}
theorem ObjOk.lt (x : ObjOk P w H h a o) : a < h.objs.size := by
  cases o with
  | lst xs => obtain ⟨_, _, _, _, e⟩ := x; exact Heap.lt_size e
  | tup xs => obtain ⟨_, _, _, p⟩ := x; exact p.lt
  | dK kvs => obtain ⟨_, _, _, _, o, _, _, e, _⟩ := x; exact Heap.lt_size e
  | dT kvs => obtain ⟨_, _, _, _, o, _, _, e, _⟩ := x; exact Heap.lt_size e
  | set S n => obtain ⟨o, _, _, _, e, _⟩ := x; exact Heap.lt_size e
  | ins C dx fs => obtain ⟨_, _, _, e, _⟩ := x; exact Heap.lt_size e
  | own y => obtain ⟨_, e⟩ := x; exact Heap.lt_size e
  | xd fs => obtain ⟨_, ⟨_, _, _, e, _⟩, _⟩ := x; exact Heap.lt_size e
  | rng lo hi => obtain ⟨_, _, _, e⟩ := x; exact Heap.lt_size e
  | frz ob u => obtain ⟨e, _⟩ := x; exact Heap.lt_size e
  | tbl ps => exact Heap.lt_size (show h.get? a = some _ from x)
  | met f y => exact Heap.lt_size (show h.get? a = some _ from x)
  | ext φ => obtain ⟨_, ⟨_, e⟩, _⟩ := x; exact Heap.lt_size e
theorem Paired.mapP {α β : Type} {F G : α → β → Prop} : ∀ {l₁ : List α} {l₂ : List β}, Paired F l₁ l₂ → (∀ a b, F a b → G a b) → Paired G l₁ l₂
  | _, _, .nil, _ => .nil
  | _, _, .cons r t, f => .cons (f _ _ r) (Paired.mapP t f)
theorem Paired.imp' {α β : Type} {F G : α → β → Prop} (f : ∀ a b, F a b → G a b) {l₁ : List α} {l₂ : List β} (r : Paired F l₁ l₂) : Paired G l₁ l₂ := Paired.mapP r f
/-- what an object's description leans on: its own object, its own dict, the tuples -/
theorem ObjOk.stay (x : ObjOk P w H h a o) (k : ∀ b u, (b = a ∨ H b = some (.own a)) → h.get? b = some u → h'.get? b = some u)
    (ho : ∀ b, H b = some (.own a) → H' b = some (.own a)) (ht : ∀ b xs, H b = some (.tup xs) → H' b = some (.tup xs)) : ObjOk P w H' h' a o := by
  induction o with
  | lst xs => obtain ⟨z, its, n, r, e⟩ := x; exact ⟨z, its, n, r, k _ _ (.inl rfl) e⟩
  | tup xs => obtain ⟨z, its, r, ob, e, c⟩ := x; exact ⟨z, its, r, ob, k _ _ (.inl rfl) e, c⟩
  | dK kvs => obtain ⟨z, y, vs, r, ob, es, ep, e, c⟩ := x; exact ⟨z, y, vs, r, ob, es, ep, k _ _ (.inl rfl) e, c⟩
  | dT kvs =>
    obtain ⟨z, y, xs, r, ob, es, ep, e, c⟩ := x
    exact ⟨z, y, xs, Paired.mapP r fun p q z => ⟨z.1, ht _ _ z.2.1, z.2.2⟩, ob, es, ep, k _ _ (.inl rfl) e, c⟩
  | set S n => obtain ⟨ob, es, ep, t, e, c⟩ := x; exact ⟨ob, es, ep, t, k _ _ (.inl rfl) e, c⟩
  | ins C dx fs =>
    obtain ⟨d, z, ne, e, mA, ⟨od, es, ep, e2, c⟩, r⟩ := x
    exact ⟨ho _ d, z, ne, k _ _ (.inl rfl) e, mA, ⟨od, es, ep, k _ _ (.inr d) e2, c⟩, r⟩
  | own y => obtain ⟨ob, e⟩ := x; exact ⟨ob, k _ _ (.inl rfl) e⟩
  | xd fs => obtain ⟨mA, ⟨od, es, ep, e, c⟩, r⟩ := x; exact ⟨mA, ⟨od, es, ep, k _ _ (.inl rfl) e, c⟩, r⟩
  | rng lo hi => obtain ⟨t, u, v, e⟩ := x; exact ⟨t, u, v, k _ _ (.inl rfl) e⟩
  | frz ob u ih => obtain ⟨e, q⟩ := x; exact ⟨k _ _ (.inl rfl) e, ih q⟩
  | tbl ps =>
    have e : h.get? a = some { cls := .none, data := .fields ps } := x
    show h'.get? a = some { cls := .none, data := .fields ps }
    exact k a _ (.inl rfl) e
  | met f y =>
    have e : h.get? a = some (PySem.W.methodObj (.ref f) (.ref y)) := x
    show h'.get? a = some (PySem.W.methodObj (.ref f) (.ref y))
    exact k a _ (.inl rfl) e
  | ext φ => obtain ⟨p, ⟨o, e⟩, st⟩ := x; exact ⟨st _ _ p fun o q => k _ _ (.inl rfl) q, ⟨o, k _ _ (.inl rfl) e⟩, st⟩
theorem HOk.lt (x : HOk P w H h) (e : H a = some o) : a < h.objs.size := (x a o e).lt
theorem HOk.fresh (x : HOk P w H h) (e : h.objs.size ≤ a) : H a = none := by
  cases q : H a with
  | none => rfl
  | some u => exact absurd (Nat.lt_of_lt_of_le (x.lt q) e) (Nat.lt_irrefl _)
/-- every object of the heap is kept -/
theorem HOk.kept (x : HOk P w H h) (k : ∀ b u, h.get? b = some u → h'.get? b = some u) : HOk P w H h' := fun a o e =>
  (x a o e).stay (fun b u _ q => k b u q) (fun _ q => q) fun _ _ q => q
/-- a new object is laid and tracked -/
theorem HOk.laid (x : HOk P w H h) (k : ∀ b u, h.get? b = some u → h'.get? b = some u) (hp : h.objs.size ≤ a) (new : ObjOk P w (upd H a o) h' a o) : HOk P w (upd H a o) h' := fun b u e => by
  have hn := x.fresh hp
  by_cases hb : b = a
  · subst hb; rw [upd_same] at e; cases e; exact new
  · rw [upd_ne hb] at e
    exact (x b u e).stay (fun c v _ q => k c v q) (fun c q => by rw [upd_ne (ne_of_none q hn)]; exact q) fun c xs q => by rw [upd_ne (ne_of_none q hn)]; exact q
end

/-- what may be read as u: it is u, or a known u -/
def Rd (H : Hp) (a : Addr) (u : HO) : Prop := H a = some u ∨ ∃ o, H a = some (.frz o u)
theorem Rd.of {H : Hp} {a : Addr} {u : HO} (h : H a = some u) : Rd H a u := .inl h
theorem Rd.ok {P : Program} {w : World} {H : Hp} {h : Heap} {a : Addr} {u : HO} (r : Rd H a u) (x : HOk P w H h) : ObjOk P w H h a u := by
  rcases r with r | ⟨o, r⟩
  · exact x a u r
  · obtain ⟨_, q⟩ := x a _ r
    exact q
/-- what may be written -/
def Mut : Option HO → Prop
  | some (.lst _) => True
  | some (.dK _) => True
  | some (.dT _) => True
  | some (.set _ _) => True
  | some (.ins _ _ _) => True
  | some (.ext _) => True
  | _ => False
section
variable {P : Program} {w : World} {H : Hp} {h h' : Heap} {x e : Addr} {o' : HO}
/-- the object at e is changed: x itself, or the dict of the instance x -/
theorem HOk.write (ok : HOk P w H h) (mu : Mut (H x)) (he : e = x ∨ H e = some (.own x)) (k : ∀ b u, b ≠ e → h.get? b = some u → h'.get? b = some u) (heo : ∃ u, h'.get? e = some u)
    (new : ObjOk P w (upd H x o') h' x o') : HOk P w (upd H x o') h' := fun b u q => by
  have nown : ∀ c y, H c = some (.own y) → c ≠ x := fun c y r z => by subst z; rw [r] at mu; exact mu
  have ntup : ∀ c xs, H c = some (.tup xs) → c ≠ x := fun c xs r z => by subst z; rw [r] at mu; exact mu
  by_cases hb : b = x
  · subst hb; rw [upd_same] at q; cases q; exact new
  · rw [upd_ne hb] at q
    by_cases hbe : b = e
    · have q' : H b = some (.own x) := by
        rcases he with z | z
        · exact absurd (hbe.trans z) hb
        · rw [hbe]; exact z
      rw [q] at q'; cases q'
      obtain ⟨v, hv⟩ := heo
      exact ⟨v, by rw [hbe]; exact hv⟩
    · refine (ok b u q).stay (fun c v hc r => k c v ?_ r) (fun c r => by rw [upd_ne (nown c b r)]; exact r) fun c xs r => by rw [upd_ne (ntup c xs r)]; exact r
      rcases hc with rfl | hc
      · exact hbe
      · rintro rfl
        rcases he with z | z
        · exact nown c b hc z
        · rw [hc] at z; cases z; exact hb rfl
end

/-! ### kept unless tracked; of the frames at fs (the callers') the slots may change (an exception that passes writes there); of the records at ex (iterators) nothing is said -/
structure Un (fs ex : List Addr) (H H' : Hp) (h h' : Heap) : Prop where
  keep : ∀ b o, h.get? b = some o → H b = none → b ∉ fs → b ∉ ex → h'.get? b = some o
  slot : ∀ b o, h.get? b = some o → H b = none → b ∈ fs → b ∉ ex → ∃ sl, h'.get? b = some { o with slots := sl }
  free : ∀ b o, h.get? b = some o → H b = none → b ∉ ex → H' b = none
  there : ∀ b o, h.get? b = some o → b ∉ ex → ∃ o', h'.get? b = some o'
  tups : ∀ b xs, H b = some (.tup xs) → H' b = some (.tup xs)
  frzs : ∀ b o u, H b = some (.frz o u) → H' b = some (.frz o u)
  tbls : ∀ b ps, H b = some (.tbl ps) → ∃ more, H' b = some (.tbl (ps ++ more))
section
variable {fs fs' ex ex' : List Addr} {H H1 H2 : Hp} {h h1 h2 h' : Heap} {a x e : Addr} {o : HO}
theorem Un.any (u : Un fs ex H H1 h h1) {b : Addr} {ob : Obj} (q : h.get? b = some ob) (n : H b = none) (hx : b ∉ ex) : ∃ sl, h1.get? b = some { ob with slots := sl } := by
  by_cases hb : b ∈ fs
  · exact u.slot b ob q n hb hx
  · exact ⟨ob.slots, u.keep b ob q n hb hx⟩
theorem Un.trans (a : Un fs ex H H1 h h1) (b : Un fs ex H1 H2 h1 h2) : Un fs ex H H2 h h2 where
  keep := fun c ob q n hc hx => b.keep c ob (a.keep c ob q n hc hx) (a.free c ob q n hx) hc hx
  slot := fun c ob q n hc hx => by
    obtain ⟨sl, e1⟩ := a.slot c ob q n hc hx
    obtain ⟨sl', e2⟩ := b.slot c _ e1 (a.free c ob q n hx) hc hx
    exact ⟨sl', e2⟩
  free := fun c ob q n hx => by
    obtain ⟨o', e1⟩ := a.there c ob q hx
    exact b.free c o' e1 (a.free c ob q n hx) hx
  there := fun c ob q hx => by
    obtain ⟨o', e1⟩ := a.there c ob q hx
    exact b.there c o' e1 hx
  tups := fun c xs q => b.tups c xs (a.tups c xs q)
  frzs := fun c ob xs q => b.frzs c ob xs (a.frzs c ob xs q)
  tbls := fun c ps q => by
    obtain ⟨m1, e1⟩ := a.tbls c ps q
    obtain ⟨m2, e2⟩ := b.tbls c _ e1
    exact ⟨m1 ++ m2, by rw [e2, Array.append_assoc]⟩
theorem Un.kept (k : ∀ b u, h.get? b = some u → h'.get? b = some u) : Un fs ex H H h h' :=
  ⟨fun b ob q _ _ _ => k b ob q, fun b ob q _ _ _ => ⟨ob.slots, k b ob q⟩, fun _ _ _ n _ => n, fun b ob q _ => ⟨ob, k b ob q⟩, fun _ _ q => q, fun _ _ _ q => q, fun _ ps q => ⟨#[], by rw [q]; simp⟩⟩
theorem Un.refl : Un fs ex H H h h := Un.kept fun _ _ q => q
theorem Un.laid (k : ∀ b u, h.get? b = some u → h'.get? b = some u) (hp : h.objs.size ≤ a) (hn : H a = none) : Un fs ex H (upd H a o) h h' where
  keep := fun b u q _ _ _ => k b u q
  slot := fun b u q _ _ _ => ⟨u.slots, k b u q⟩
  free := fun b u q n _ => by rw [upd_ne (Nat.ne_of_lt (Nat.lt_of_lt_of_le (Heap.lt_size q) hp))]; exact n
  there := fun b u q _ => ⟨u, k b u q⟩
  tups := fun b xs q => by rw [upd_ne (ne_of_none q hn)]; exact q
  frzs := fun b u xs q => by rw [upd_ne (ne_of_none q hn)]; exact q
  tbls := fun b ps q => ⟨#[], by rw [upd_ne (ne_of_none q hn), q]; simp⟩
theorem Un.write (mu : Mut (H x)) (he : e = x ∨ H e = some (.own x)) (k : ∀ b u, b ≠ e → h.get? b = some u → h'.get? b = some u) (heo : ∃ u, h'.get? e = some u) : Un fs ex H (upd H x o) h h' := by
  have hx : ∀ b, H b = none → b ≠ x := fun b n z => by subst z; rw [n] at mu; exact mu
  have hb : ∀ b, H b = none → b ≠ e := fun b n z => by
    subst z
    rcases he with r | r
    · exact hx b n r
    · rw [n] at r; cases r
  have hm : ∀ b u, H b = some u → ¬ Mut (some u) → b ≠ x := fun b u q nm z => by subst z; rw [q] at mu; exact nm mu
  refine ⟨fun b u q n _ _ => k b u (hb b n) q, fun b u q n _ _ => ⟨u.slots, k b u (hb b n) q⟩, fun b u q n _ => by rw [upd_ne (hx b n)]; exact n, fun b u q _ => ?_,
    fun b xs q => by rw [upd_ne (hm b _ q fun z => z)]; exact q, fun b u xs q => by rw [upd_ne (hm b _ q fun z => z)]; exact q, fun b ps q => ⟨#[], by rw [upd_ne (hm b _ q fun z => z), q]; simp⟩⟩
  by_cases hbe : b = e
  · subst hbe; exact heo
  · exact ⟨u, k b u hbe q⟩
theorem Un.mono (u : Un fs ex H H1 h h1) (hs : ∀ b ∈ fs, b ∈ fs') (hx : ∀ b ∈ ex, b ∈ ex') : Un fs' ex' H H1 h h1 :=
  ⟨fun b ob q n hb he => u.keep b ob q n (fun z => hb (hs b z)) fun z => he (hx b z), fun _ _ q n _ he => u.any q n fun z => he (hx _ z), fun b ob q n he => u.free b ob q n fun z => he (hx b z), fun b ob q he => u.there b ob q fun z => he (hx b z), u.tups, u.frzs, u.tbls⟩
end

/-! ### the heap without what is tracked -/
def trk (h : Heap) (H : Hp) : List Addr := (List.range h.objs.size).filter fun a => (H a).isSome
def hidT (h : Heap) (H : Hp) : Heap := PySem.W.hideAll h (trk h H)
theorem hidT_size (h : Heap) (H : Hp) : (hidT h H).objs.size = h.objs.size := PySem.W.hideAll_size _ _
theorem hidT_get {h : Heap} {H : Hp} {b : Addr} {o : Obj} (e : h.get? b = some o) (n : H b = none) : (hidT h H).get? b = some o :=
  PySem.W.hideAll_get _ e fun hm => by
    have q : (H b).isSome = true := (List.mem_filter.mp hm).2
    rw [n] at q; simp at q
theorem of_hidT {h : Heap} {H : Hp} {b : Addr} {o : Obj} (e : (hidT h H).get? b = some o) : h.get? b = some o ∧ H b = none := by
  have e' : h.get? b = some o := PySem.W.of_hideAll (trk h H) e
  refine ⟨e', ?_⟩
  cases q : H b with
  | none => rfl
  | some x =>
    have hm : b ∈ trk h H := List.mem_filter.mpr ⟨List.mem_range.mpr (Heap.lt_size e'), by simp [q]⟩
    have z : (hidT h H).get? b = none := PySem.W.hideAll_none (trk h H) hm
    rw [z] at e; cases e

/-! ### OpenK's ledger, filled with every new object but one -/
def allNews (g h : Heap) (L : Addr) : List (Addr × Obj) := (List.range h.objs.size).filterMap fun a => if a = L ∨ (g.get? a).isSome = true then none else (h.get? a).map fun o => (a, o)
theorem mem_allNews {g h : Heap} {L a : Addr} {o : Obj} (h1 : a ≠ L) (h2 : g.get? a = none) (h3 : h.get? a = some o) : (a, o) ∈ allNews g h L :=
  List.mem_filterMap.mpr ⟨a, List.mem_range.mpr (Heap.lt_size h3), by simp [h1, h2, h3]⟩
theorem of_mem_allNews {g h : Heap} {L : Addr} {p : Addr × Obj} (hp : p ∈ allNews g h L) : p.1 ≠ L ∧ g.get? p.1 = none ∧ h.get? p.1 = some p.2 := by
  obtain ⟨b, _, e⟩ := List.mem_filterMap.mp hp
  split at e
  · cases e
  · rename_i hn
    cases q : h.get? b with
    | none => rw [q] at e; simp at e
    | some u =>
      rw [q] at e
      simp only [Option.map_some, Option.some.injEq] at e
      subst e
      refine ⟨fun z => hn (.inl z), ?_, q⟩
      show g.get? b = none
      cases r : g.get? b with
      | none => rfl
      | some v => exact (hn (.inr (by simp [r]))).elim
def rest (g h : Heap) (L d : Addr) : List (Addr × Obj) := (allNews g h L).filter fun p => decide (p.1 ≠ d)
theorem rest_ne {g h : Heap} {L d : Addr} : ∀ p ∈ rest g h L d, p.1 ≠ d := fun p hp => of_decide_eq_true (List.mem_filter.mp hp).2
theorem mem_rest {g h : Heap} {L d a : Addr} {o : Obj} (h1 : a ≠ L) (h2 : g.get? a = none) (h3 : h.get? a = some o) (h4 : a ≠ d) : (a, o) ∈ rest g h L d :=
  List.mem_filter.mpr ⟨mem_allNews h1 h2 h3, decide_eq_true h4⟩
theorem news_all {g h : Heap} {L : Addr} : News g L h (allNews g h L) := fun p hp => let ⟨a, b, c⟩ := of_mem_allNews hp; ⟨c, a, b⟩
theorem news_at {g h : Heap} {L d : Addr} {o : Obj} (h1 : d ≠ L) (h2 : g.get? d = none) (h3 : h.get? d = some o) : News g L h ((d, o) :: rest g h L d) := fun p hp => by
  rcases List.mem_cons.mp hp with rfl | hp
  · exact ⟨h3, h1, h2⟩
  · exact news_all p (List.mem_filter.mp hp).1
/-- behind a rule that changed d alone: all else but the frame is kept -/
theorem kept_of_news {g h h' : Heap} {L d : Addr} {m : Str → Option Value} (k : ∀ b o, g.get? b = some o → h.get? b = some o) (F : Fr g L h' m) (N : News g L h' (rest g h L d)) :
    ∀ b o, b ≠ L → b ≠ d → h.get? b = some o → h'.get? b = some o := fun b o h1 h2 e => by
  cases q : g.get? b with
  | some u =>
    have := k b u q
    rw [e] at this; cases this
    exact F.keep b _ q
  | none => exact (N (b, o) (mem_rest h1 q e h2)).1
end L2

namespace L2
open PySem PySem.Spec PyProof.Rows

/-- the module's facts, over the base: the heap at the law's entry without what is tracked there -/
structure Mod (K : PySem.W.Frag) (mg : Str → Option Value) (base : Heap) : Prop where
  kin : K.In base
  glob : base.Ns mainGlobals mg
  blt : ∃ mb, base.Ns builtinsNs mb ∧ ∀ x : Str, x ≠ "__name__" → mb x = bootBuiltins x
  nolimit : base.NoLimit

/-- the context: a def's body (or a comprehension's block) running. base: fixed through the whole law; s₀, H₀: the entry; outer: the frames whose slots others may change (a def's callers); stack: all frames that run;
   ex: iterators that were made ahead of the entry and are walked here (a comprehension's); fn: the names whose cells were made at the entry (a def: all; a comprehension's block: its own); calm: not within an except suite; pn: pins that every state bears; xe: what is wanted of an exception that leaves the code -/
structure Cx where
  prog : Program
  w : World
  K : PySem.W.Frag
  mg : Str → Option Value
  base : Heap
  A : Around
  N : List Str
  s₀ : Shared
  H₀ : Hp
  env : Env
  outer : List Env
  stack : List Env
  ex : List Addr
  fn : Str → Bool
  calm : Bool
  pn : List (Addr × Obj)
  xe : Value → Shared → Prop
/-- the callers' frames -/
def frs (l : List Env) : List Addr := l.filterMap (·.frame)
abbrev Cx.fs (X : Cx) : List Addr := frs X.outer

def Vis (sc : Scope) (x : Str) : Prop := sc.names.lookup x = some .local ∨ sc.names.lookup x = some .cell ∨ sc.names.lookup x = some .free
def Loc (sc : Scope) (x : Str) : Prop := sc.names.lookup x = some .local ∨ sc.names.lookup x = some .cell
def Look (env : Env) (h : Heap) (m : Str → Option Value) (x : Str) (u : Value) : Prop :=
  (env.kindOf x = some .local ∧ m x = some u) ∨ ((env.kindOf x = some .cell ∨ env.kindOf x = some .free) ∧ ∃ c, env.cells.lookup x = some c ∧ h.IsCell c (some u))

structure Cx.Ok (X : Cx) : Prop where
  mod : Mod X.K X.mg X.base
  kind : X.env.scope.kind = .function
  glob : X.env.globals = mainGlobals
  blt : X.env.builtins = builtinsNs
  above : X.s₀.heap.objs.size ≤ X.env.locals
  inj : ∀ x y c, X.env.cells.lookup x = some c → X.env.cells.lookup y = some c → x = y
  has : ∀ x, (X.env.kindOf x = some .cell ∨ X.env.kindOf x = some .free) → ∃ c, X.env.cells.lookup x = some c
  cab : ∀ x c, X.fn x = true → X.env.cells.lookup x = some c → X.s₀.heap.objs.size ≤ c
  hd : X.calm = true → X.A.handled = none
  frames : X.A.frames = some X.stack
  stk : X.stack = X.outer ∨ (X.stack = X.env :: X.outer ∧ X.env.frame = some X.env.locals)
  exf : ∀ b ∈ X.ex, b ≠ X.env.locals ∧ ∀ x c, X.env.cells.lookup x = some c → c ≠ b
  bs : ∀ b o, X.base.get? b = some o → X.s₀.heap.get? b = some o ∧ X.H₀ b = none
  bsz : X.base.objs.size ≤ X.s₀.heap.objs.size
  noex : ∀ b o, X.base.get? b = some o → b ∉ X.ex
  exfs : ∀ b ∈ X.ex, b ∉ X.fs
  funs : X.s₀.heap.FunFrames X.base X.outer
  frf : ∀ b ∈ X.fs, X.H₀ b = none

structure Inv (X : Cx) (pins : List (Addr × Obj)) (σ : List (Option V)) (H : Hp) (s : Shared) : Prop where
  ok : X.Ok
  os : s.os = X.s₀.os
  bare : AllBare s.gens
  base : Un X.fs X.ex X.H₀ H X.s₀.heap s.heap
  loc : ∃ m, s.heap.Ns X.env.locals m ∧ ∀ (i : Nat) (x : Str) (v : V), X.N[i]? = some x → σ[i]? = some (some v) → Vis X.env.scope x → ∃ u, RelV v u ∧ Look X.env s.heap m x u
  cell : ∀ x c, X.env.cells.lookup x = some c → ∃ v, s.heap.IsCell c v
  free : H X.env.locals = none
  freeC : ∀ x c, X.env.cells.lookup x = some c → H c = none
  pin : ∀ p ∈ X.pn ++ pins, s.heap.get? p.1 = some p.2 ∧ H p.1 = none ∧ p.1 ≠ X.env.locals ∧ p.1 ∉ X.fs ∧ ∀ v, p.2.data ≠ .cell v
  hok : HOk X.prog X.w H s.heap
  len : σ.length = X.N.length

section
variable {X : Cx} {pins : List (Addr × Obj)} {σ : List (Option V)} {H H' : Hp} {s : Shared} {h' : Heap}

theorem Cx.Ok.nofr (ok : X.Ok) {b : Addr} {o : Obj} (e : X.base.get? b = some o) : b ∉ X.fs := fun hb => by
  have := (ok.funs.mem hb).1
  rw [e] at this; cases this
theorem Inv.bs (I : Inv X pins σ H s) : ∀ b o, X.base.get? b = some o → s.heap.get? b = some o ∧ H b = none := fun b o e =>
  ⟨I.base.keep b o (I.ok.bs b o e).1 (I.ok.bs b o e).2 (I.ok.nofr e) (I.ok.noex b o e), I.base.free b o (I.ok.bs b o e).1 (I.ok.bs b o e).2 (I.ok.noex b o e)⟩
theorem Inv.bk (I : Inv X pins σ H s) : ∀ b o, X.base.get? b = some o → s.heap.get? b = some o := fun b o e => (I.bs b o e).1
theorem Inv.mod (I : Inv X pins σ H s) : Mod X.K X.mg X.base := I.ok.mod
theorem Inv.kIn (I : Inv X pins σ H s) : X.K.In s.heap := I.ok.mod.kin.keeps I.bk
theorem Inv.nolimit (I : Inv X pins σ H s) : s.heap.NoLimit := I.ok.mod.nolimit.keeps I.bk
/-- the frame over the base: for OpenK's rules (K.In X.base is I.mod.kin) -/
theorem Inv.fr (I : Inv X pins σ H s) : ∃ m, Fr X.base X.env.locals s.heap m :=
  let ⟨m, hn, _⟩ := I.loc
  ⟨m, hn, I.bk, Nat.le_trans I.ok.bsz I.ok.above⟩
theorem Inv.lt (I : Inv X pins σ H s) : X.env.locals < s.heap.objs.size := let ⟨_, hn, _⟩ := I.loc; hn.lt
theorem Inv.sz (I : Inv X pins σ H s) : X.s₀.heap.objs.size ≤ s.heap.objs.size := Nat.le_trans I.ok.above (Nat.le_of_lt I.lt)
theorem Inv.nofs (I : Inv X pins σ H s) {a : Addr} (h : s.heap.objs.size ≤ a) : a ∉ X.fs := fun hb => by
  obtain ⟨_, o, ho, _⟩ := I.ok.funs.mem hb
  exact absurd (Nat.lt_of_lt_of_le (Heap.lt_size ho) (Nat.le_trans I.sz h)) (Nat.lt_irrefl _)
theorem Inv.cne (I : Inv X pins σ H s) : ∀ x c, X.env.cells.lookup x = some c → c ≠ X.env.locals := fun x c e z => by
  obtain ⟨v, o, ho, hd⟩ := I.cell x c e
  obtain ⟨m, ⟨o', es, ep, ho', hd', _⟩, _⟩ := I.loc
  rw [z, ho'] at ho; cases ho; rw [hd'] at hd; cases hd
theorem Inv.funs (I : Inv X pins σ H s) : s.heap.FunFrames X.base X.outer := by
  have all : ∀ (l : List Env), (∀ b ∈ frs l, b ∈ X.fs) → X.s₀.heap.FunFrames X.base l → s.heap.FunFrames X.base l := by
    intro l
    induction l with
    | nil => intro _ _; trivial
    | cons env r ih =>
      intro hs hl
      obtain ⟨hk, ⟨L, o, hf, hn, ho, hd⟩, hr⟩ := hl
      have hL : L ∈ X.fs := hs L (by unfold frs; rw [List.filterMap_cons, hf]; exact List.mem_cons_self)
      obtain ⟨sl, e⟩ := I.base.slot L o ho (I.ok.frf L hL) hL fun z => I.ok.exfs L z hL
      exact ⟨hk, ⟨L, _, hf, hn, e, hd⟩, ih (fun b hb => hs b (by unfold frs; rw [List.filterMap_cons, hf]; exact List.mem_cons_of_mem _ hb)) hr⟩
  exact all X.outer (fun _ hb => hb) I.ok.funs

/-- the frames that run, for a call -/
theorem Inv.stack (I : Inv X pins σ H s) : s.heap.FunFrames X.base X.stack := by
  rcases I.ok.stk with e | ⟨e, hf⟩
  · rw [e]; exact I.funs
  · rw [e]
    obtain ⟨m, hn, _⟩ := I.loc
    refine .cons (by rw [I.ok.kind]; decide) hf hn ?_ I.funs
    exact Heap.get?_none_of_le (Nat.le_trans I.ok.bsz I.ok.above)
theorem Inv.stkSub (I : Inv X pins σ H s) : ∀ b ∈ frs X.stack, b ∈ X.env.locals :: X.fs := fun b hb => by
  rcases I.ok.stk with e | ⟨e, hf⟩
  · rw [e] at hb; exact List.mem_cons_of_mem _ hb
  · rw [e] at hb
    unfold frs at hb
    rw [List.filterMap_cons, hf] at hb
    exact hb
theorem Inv.stkFree (I : Inv X pins σ H s) : ∀ b ∈ frs X.stack, H b = none := fun b hb => by
  rcases List.mem_cons.mp (I.stkSub b hb) with e | hb
  · rw [e]; exact I.free
  · obtain ⟨_, o, ho, _⟩ := I.ok.funs.mem hb
    exact I.base.free b o ho (I.ok.frf b hb) fun z => I.ok.exfs b z hb

/-- THE STEP: the untracked objects but the frame and the records at ch are kept (the callers' frames up to slots), the frame's map is kept, the new abstract heap is held -/
theorem Inv.step {g' : Array GenState} {t' : Nat} {d' : Drawn} {ch : List Addr} (I : Inv X pins σ H s)
    (hch : ∀ b ∈ ch, (b ∈ X.ex ∨ X.s₀.heap.objs.size ≤ b) ∧ b ≠ X.env.locals ∧ (∀ x c, X.env.cells.lookup x = some c → c ≠ b) ∧ ∀ p ∈ X.pn ++ pins, p.1 ≠ b)
    (keep : ∀ b o, b ≠ X.env.locals → b ∉ X.fs → b ∉ ch → s.heap.get? b = some o → H b = none → h'.get? b = some o)
    (slot : ∀ b o, b ≠ X.env.locals → b ∈ X.fs → b ∉ ch → s.heap.get? b = some o → H b = none → ∃ sl, h'.get? b = some { o with slots := sl }) (free : ∀ b o, b ∉ ch → s.heap.get? b = some o → H b = none → H' b = none)
    (there : ∀ b o, b ∉ ch → s.heap.get? b = some o → ∃ o', h'.get? b = some o')
    (tups : ∀ b xs, H b = some (.tup xs) → H' b = some (.tup xs)) (frzs : ∀ b o u, H b = some (.frz o u) → H' b = some (.frz o u)) (tbls : ∀ b ps, H b = some (.tbl ps) → ∃ more, H' b = some (.tbl (ps ++ more)))
    (ns : ∀ m, s.heap.Ns X.env.locals m → h'.Ns X.env.locals m) (hok : HOk X.prog X.w H' h') (hg : AllBare g') :
    Inv X pins σ H' { s with heap := h', gens := g', drawn := d', toks := t' } := by
  have neL : ∀ b o, X.s₀.heap.get? b = some o → b ≠ X.env.locals := fun b o e => Nat.ne_of_lt (Nat.lt_of_lt_of_le (Heap.lt_size e) I.ok.above)
  have neC : ∀ b o, X.s₀.heap.get? b = some o → b ∉ X.ex → b ∉ ch := fun b o e hx hb => by
    rcases (hch b hb).1 with z | z
    · exact hx z
    · exact absurd (Nat.lt_of_lt_of_le (Heap.lt_size e) z) (Nat.lt_irrefl _)
  have cellK : ∀ x c, X.env.cells.lookup x = some c → ∀ v, s.heap.IsCell c v → h'.IsCell c v := fun x c e v ⟨o, ho, hd⟩ => by
    have nch : c ∉ ch := fun z => (hch c z).2.2.1 x c e rfl
    by_cases hc : c ∈ X.fs
    · obtain ⟨sl, q⟩ := slot c o (I.cne x c e) hc nch ho (I.freeC x c e)
      exact ⟨_, q, hd⟩
    · exact ⟨o, keep c o (I.cne x c e) hc nch ho (I.freeC x c e), hd⟩
  refine ⟨I.ok, I.os, hg, ⟨fun b o e n hb hx => ?_, fun b o e n hb hx => ?_, fun b o e n hx => ?_, fun b o e hx => ?_, fun b xs e => tups b xs (I.base.tups b xs e), fun b o xs e => frzs b o xs (I.base.frzs b o xs e), fun b ps e => ?_⟩, ?_, fun x c e => ?_, ?_, fun x c e => ?_, fun p hp => ?_, hok, I.len⟩
  · exact keep b o (neL b o e) hb (neC b o e hx) (I.base.keep b o e n hb hx) (I.base.free b o e n hx)
  · obtain ⟨sl, e1⟩ := I.base.slot b o e n hb hx
    obtain ⟨sl', e2⟩ := slot b _ (neL b o e) hb (neC b o e hx) e1 (I.base.free b o e n hx)
    exact ⟨sl', e2⟩
  · obtain ⟨o', e1⟩ := I.base.there b o e hx
    exact free b o' (neC b o e hx) e1 (I.base.free b o e n hx)
  · obtain ⟨o', e1⟩ := I.base.there b o e hx
    exact there b o' (neC b o e hx) e1
  · obtain ⟨m1, e1⟩ := I.base.tbls b ps e
    obtain ⟨m2, e2⟩ := tbls b _ e1
    exact ⟨m1 ++ m2, by rw [e2, Array.append_assoc]⟩
  · obtain ⟨m, hn, hl⟩ := I.loc
    refine ⟨m, ns m hn, fun i x v e1 e2 e3 => ?_⟩
    obtain ⟨u, r, l⟩ := hl i x v e1 e2 e3
    refine ⟨u, r, ?_⟩
    rcases l with l | ⟨k, c, e, z⟩
    · exact .inl l
    · exact .inr ⟨k, c, e, cellK x c e _ z⟩
  · obtain ⟨v, z⟩ := I.cell x c e
    exact ⟨v, cellK x c e v z⟩
  · obtain ⟨m, ⟨o, _, _, ho, _⟩, _⟩ := I.loc
    exact free _ o (fun z => (hch _ z).2.1 rfl) ho I.free
  · obtain ⟨v, o, ho, hd⟩ := I.cell x c e
    exact free c o (fun z => (hch c z).2.2.1 x c e rfl) ho (I.freeC x c e)
  · obtain ⟨e, n, ne, nf, d⟩ := I.pin p hp
    have nch : p.1 ∉ ch := fun z => (hch p.1 z).2.2.2 p hp rfl
    exact ⟨keep p.1 p.2 ne nf nch e n, free p.1 p.2 nch e n, ne, nf, d⟩
/-- .. where the frame's own object is kept too -/
theorem Inv.un {t' : Nat} (I : Inv X pins σ H s) (u : Un X.fs [] H H' s.heap h') (hok : HOk X.prog X.w H' h') : Inv X pins σ H' { s with heap := h', toks := t' } := by
  obtain ⟨m, ⟨o, es, ep, ho, r⟩, _⟩ := id I.loc
  obtain ⟨sl, hL⟩ := u.any ho I.free (by simp)
  exact I.step (g' := s.gens) (d' := s.drawn) (ch := []) (fun _ z => nomatch z) (fun b o _ hb _ e n => u.keep b o e n hb (by simp)) (fun b o _ hb _ e n => u.slot b o e n hb (by simp)) (fun b o _ e n => u.free b o e n (by simp)) (fun b o _ e => u.there b o e (by simp)) u.tups u.frzs u.tbls (fun m' hm => by
    obtain ⟨o', es', ep', ho', r'⟩ := hm
    rw [ho] at ho'; cases ho'
    exact ⟨_, es', ep', hL, r'⟩) hok I.bare
/-- behind a call (or a comprehension's block): the slots of this frame may have changed too, the records at ch may have turned -/
theorem Inv.call {g' : Array GenState} {t' : Nat} {d' : Drawn} {ch : List Addr} (I : Inv X pins σ H s) (u : Un (frs X.stack) ch H H' s.heap h') (hok : HOk X.prog X.w H' h') (hg : AllBare g')
    (hch : ∀ b ∈ ch, (b ∈ X.ex ∨ X.s₀.heap.objs.size ≤ b) ∧ b ≠ X.env.locals ∧ (∀ x c, X.env.cells.lookup x = some c → c ≠ b) ∧ ∀ p ∈ X.pn ++ pins, p.1 ≠ b) :
    Inv X pins σ H' { s with heap := h', gens := g', drawn := d', toks := t' } := by
  obtain ⟨m, ⟨o, es, ep, ho, r⟩, _⟩ := id I.loc
  obtain ⟨sl, hL⟩ := u.any ho I.free fun z => (hch _ z).2.1 rfl
  exact I.step (ch := ch) hch (fun b o hL hb hc e n => u.keep b o e n (fun z => (List.mem_cons.mp (I.stkSub b z)).elim hL hb) hc) (fun b o _ _ hc e n => u.any e n hc) (fun b o hc e n => u.free b o e n hc) (fun b o hc e => u.there b o e hc) u.tups u.frzs u.tbls (fun m' hm => by
    obtain ⟨o', es', ep', ho', r'⟩ := hm
    rw [ho] at ho'; cases ho'
    exact ⟨_, es', ep', hL, r'⟩) hok hg
/-- an untracked record of ours (an iterator) has turned -/
theorem Inv.turned {t' : Nat} {it : Addr} (I : Inv X pins σ H s) (k : ∀ b o, b ≠ it → s.heap.get? b = some o → h'.get? b = some o) (hn : H it = none) (hL : it ≠ X.env.locals)
    (h1 : it ∈ X.ex ∨ X.s₀.heap.objs.size ≤ it) (h2 : ∀ x c, X.env.cells.lookup x = some c → c ≠ it) (h3 : ∀ p ∈ X.pn ++ pins, p.1 ≠ it) : Inv X pins σ H { s with heap := h', toks := t' } := by
  have nit : ∀ b u, H b = some u → b ≠ it := fun b u e z => by rw [z, hn] at e; cases e
  refine I.step (g' := s.gens) (d' := s.drawn) (ch := [it]) (fun b hb => ?_) (fun b o _ _ hc e _ => k b o (fun z => hc (by simp [z])) e) (fun b o _ _ hc e _ => ⟨o.slots, k b o (fun z => hc (by simp [z])) e⟩) (fun _ _ _ _ n => n)
    (fun b o hc e => ⟨o, k b o (fun z => hc (by simp [z])) e⟩) (fun _ _ e => e) (fun _ _ _ e => e) (fun b ps e => ⟨#[], by rw [e]; simp⟩) (fun m hm => ?_) (fun b u e => ?_) I.bare
  · have e : b = it := by simpa using hb
    subst e
    exact ⟨h1, hL, h2, h3⟩
  · obtain ⟨o, es, ep, ho, r⟩ := hm
    exact ⟨o, es, ep, k _ o (Ne.symm hL) ho, r⟩
  · refine (I.hok b u e).stay (fun c v hc q => k c v ?_ q) (fun _ q => q) fun _ _ q => q
    rcases hc with z | z
    · rw [z]; exact nit b u e
    · exact nit c _ z
theorem Inv.tok (I : Inv X pins σ H s) (t : Nat) : Inv X pins σ H { s with toks := t } := I.un (h' := s.heap) (t' := t) Un.refl I.hok
/-- all objects kept -/
theorem Inv.kept {t' : Nat} (I : Inv X pins σ H s) (k : ∀ b u, s.heap.get? b = some u → h'.get? b = some u) : Inv X pins σ H { s with heap := h', toks := t' } := I.un (Un.kept k) (I.hok.kept k)
/-- a new object laid and tracked -/
theorem Inv.laid {a : Addr} {o : HO} {t' : Nat} (I : Inv X pins σ H s) (k : ∀ b u, s.heap.get? b = some u → h'.get? b = some u) (hp : s.heap.objs.size ≤ a) (new : ObjOk X.prog X.w (upd H a o) h' a o) :
    Inv X pins σ (upd H a o) { s with heap := h', toks := t' } := I.un (Un.laid k hp (I.hok.fresh hp)) (I.hok.laid k hp new)
/-- an object written -/
theorem Inv.write {x e : Addr} {o : HO} {t' : Nat} (I : Inv X pins σ H s) (mu : Mut (H x)) (he : e = x ∨ H e = some (.own x)) (k : ∀ b u, b ≠ e → s.heap.get? b = some u → h'.get? b = some u) (heo : ∃ u, h'.get? e = some u)
    (new : ObjOk X.prog X.w (upd H x o) h' x o) : Inv X pins σ (upd H x o) { s with heap := h', toks := t' } := I.un (Un.write mu he k heo) (I.hok.write mu he k heo new)
/-- forgetting slots, pins -/
theorem Inv.weak {σ' : List (Option V)} (I : Inv X pins σ H s) (hl : σ'.length = σ.length) (w : ∀ (i : Nat) v, σ'[i]? = some (some v) → σ[i]? = some (some v)) : Inv X pins σ' H s :=
  ⟨I.ok, I.os, I.bare, I.base, let ⟨m, hn, hl'⟩ := I.loc; ⟨m, hn, fun i x v e1 e2 e3 => hl' i x v e1 (w i v e2) e3⟩, I.cell, I.free, I.freeC, I.pin, I.hok, hl.trans I.len⟩
theorem Inv.pins_of {pins' : List (Addr × Obj)} (I : Inv X pins σ H s) (h : ∀ p ∈ pins', s.heap.get? p.1 = some p.2 ∧ H p.1 = none ∧ p.1 ≠ X.env.locals ∧ p.1 ∉ X.fs ∧ ∀ v, p.2.data ≠ .cell v) : Inv X pins' σ H s :=
  ⟨I.ok, I.os, I.bare, I.base, I.loc, I.cell, I.free, I.freeC, fun p hp => (List.mem_append.mp hp).elim (fun z => I.pin p (List.mem_append_left _ z)) (h p), I.hok, I.len⟩

theorem nodup_ix {N : List Str} (hN : N.Nodup) {i j : Nat} {x : Str} (a : N[i]? = some x) (b : N[j]? = some x) : i = j := by
  obtain ⟨h1, e1⟩ := List.getElem?_eq_some_iff.mp a
  obtain ⟨h2, e2⟩ := List.getElem?_eq_some_iff.mp b
  exact (List.getElem_inj hN).mp (e1.trans e2.symm)

/-- a name is stored; what changed -/
theorem store_ok2 {M : Model} {A : Around} {E : Value → Shared → Prop} {i : Nat} {x : Str} {v : V} {u : Value} {Q : Unit → Shared → Prop} (I : Inv X pins σ H s) (hN : X.N.Nodup) (hi : X.N[i]? = some x) (hx : Loc X.env.scope x) (r : RelV v u)
    (h : ∀ s', Inv X pins (σ.set i (some v)) H s' → (∃ a, Heap.SameBut a s.heap s'.heap ∧ (a = X.env.locals ∨ X.env.cells.lookup x = some a)) → Q () s') (hf : X.fn x = true ∨ X.env.scope.names.lookup x = some .local := by first | exact .inl rfl | exact .inr rfl | assumption) : wpAny M A (storeName X.env x u) Q E s := by
  obtain ⟨m, hn, hl⟩ := id I.loc
  have hcls : (X.env.scope.kind == .class || (X.env.scope.kind == .module && X.env.locals != X.env.globals)) = false := by rw [I.ok.kind]; rfl
  have hiσ : i < σ.length := by rw [I.len]; exact (List.getElem?_eq_some_iff.mp hi).1
  have cne := I.cne
  have tracked : ∀ {a : Addr} {h' : Heap}, (∃ o, s.heap.get? a = some o ∧ H a = none) → Heap.SameBut a s.heap h' → HOk X.prog X.w H h' := fun {a h'} ha hs b ob e => by
    obtain ⟨_, _, hfree⟩ := ha
    refine (I.hok b ob e).stay (fun c w' hc q => (hs.2 c ?_).trans q) (fun _ q => q) fun _ _ q => q
    rintro rfl
    rcases hc with rfl | hc
    · rw [hfree] at e; cases e
    · rw [hfree] at hc; cases hc
  rcases hx with hk | hk
  · refine wpAny_storeName_local hk hn (fun h' hn' hs => ?_) hcls
    obtain ⟨oL, _, _, hoL, _⟩ := id hn
    refine h _ ⟨I.ok, I.os, I.bare, ⟨fun b o e n hb hx => ?_, fun b o e n hb hx => ?_, I.base.free, fun b o e hx => ?_, I.base.tups, I.base.frzs, I.base.tbls⟩, ⟨_, hn', fun j y v' e1 e2 e3 => ?_⟩, fun y c e => ?_, I.free, I.freeC, fun p hp => ?_, tracked ⟨oL, hoL, I.free⟩ hs, by simpa using I.len⟩ ⟨_, hs, .inl rfl⟩
    · exact (hs.2 b (Nat.ne_of_lt (Nat.lt_of_lt_of_le (Heap.lt_size e) I.ok.above))).trans (I.base.keep b o e n hb hx)
    · obtain ⟨sl, e1⟩ := I.base.slot b o e n hb hx
      exact ⟨sl, (hs.2 b (Nat.ne_of_lt (Nat.lt_of_lt_of_le (Heap.lt_size e) I.ok.above))).trans e1⟩
    · obtain ⟨o', e1⟩ := I.base.there b o e hx
      exact ⟨o', (hs.2 b (Nat.ne_of_lt (Nat.lt_of_lt_of_le (Heap.lt_size e) I.ok.above))).trans e1⟩
    · by_cases hj : j = i
      · subst hj
        rw [hi] at e1; cases e1
        rw [List.getElem?_set_self hiσ] at e2
        cases e2
        exact ⟨u, r, .inl ⟨hk, by simp⟩⟩
      · rw [List.getElem?_set_ne (Ne.symm hj)] at e2
        obtain ⟨u', r', q⟩ := hl j y v' e1 e2 e3
        refine ⟨u', r', ?_⟩
        rcases q with ⟨k, e⟩ | ⟨k, c, e, z⟩
        · refine .inl ⟨k, ?_⟩
          have : y ≠ x := fun e => hj (nodup_ix hN e1 (e ▸ hi))
          simp [this, e]
        · exact .inr ⟨k, c, e, z.sameBut hs (cne y c e)⟩
    · obtain ⟨w', z⟩ := I.cell y c e
      exact ⟨w', z.sameBut hs (cne y c e)⟩
    · obtain ⟨e, n, ne, nf, d⟩ := I.pin p hp
      exact ⟨(hs.2 p.1 ne).trans e, n, ne, nf, d⟩
  · have hfn : X.fn x = true := by
      rcases hf with z | z
      · exact z
      · rw [z] at hk; cases hk
    obtain ⟨c, hc⟩ := I.ok.has x (.inl hk)
    obtain ⟨w', z⟩ := I.cell x c hc
    refine wpAny_storeName_cell I.ok.kind hk hc z (fun h' hc' hs => ?_)
    obtain ⟨oc, hoc, hocd⟩ := id z
    refine h { s with heap := h' } ⟨I.ok, I.os, I.bare, ⟨fun b o e n hb hx => ?_, fun b o e n hb hx => ?_, I.base.free, fun b o e hx => ?_, I.base.tups, I.base.frzs, I.base.tbls⟩, ⟨m, hn.sameBut hs (Ne.symm (cne x c hc)), fun j y v' e1 e2 e3 => ?_⟩, fun y c' e => ?_, I.free, I.freeC, fun p hp => ?_, tracked ⟨oc, hoc, I.freeC x c hc⟩ hs, by simpa using I.len⟩ ⟨c, hs, .inr hc⟩
    · exact (hs.2 b (Nat.ne_of_lt (Nat.lt_of_lt_of_le (Heap.lt_size e) (I.ok.cab x c hfn hc)))).trans (I.base.keep b o e n hb hx)
    · obtain ⟨sl, e1⟩ := I.base.slot b o e n hb hx
      exact ⟨sl, (hs.2 b (Nat.ne_of_lt (Nat.lt_of_lt_of_le (Heap.lt_size e) (I.ok.cab x c hfn hc)))).trans e1⟩
    · obtain ⟨o', e1⟩ := I.base.there b o e hx
      exact ⟨o', (hs.2 b (Nat.ne_of_lt (Nat.lt_of_lt_of_le (Heap.lt_size e) (I.ok.cab x c hfn hc)))).trans e1⟩
    · by_cases hj : j = i
      · subst hj
        rw [hi] at e1; cases e1
        rw [List.getElem?_set_self hiσ] at e2
        cases e2
        exact ⟨u, r, .inr ⟨.inl hk, c, hc, hc'⟩⟩
      · rw [List.getElem?_set_ne (Ne.symm hj)] at e2
        obtain ⟨u', r', q⟩ := hl j y v' e1 e2 e3
        refine ⟨u', r', ?_⟩
        rcases q with q | ⟨k, c', e, z'⟩
        · exact .inl q
        · refine .inr ⟨k, c', e, z'.sameBut hs ?_⟩
          rintro rfl
          exact hj (nodup_ix hN e1 (I.ok.inj _ _ _ e hc ▸ hi))
    · by_cases hcc : c' = c
      · subst hcc; exact ⟨_, hc'⟩
      · obtain ⟨w2, z2⟩ := I.cell y c' e
        exact ⟨w2, z2.sameBut hs hcc⟩
    · obtain ⟨e, n, ne, nf, d⟩ := I.pin p hp
      refine ⟨(hs.2 p.1 ?_).trans e, n, ne, nf, d⟩
      intro q
      rw [q, hoc] at e
      have q' : oc = p.2 := Option.some.inj e
      exact d w' (by rw [← q']; exact hocd)
theorem store_ok {M : Model} {A : Around} {E : Value → Shared → Prop} {i : Nat} {x : Str} {v : V} {u : Value} {Q : Unit → Shared → Prop} (I : Inv X pins σ H s) (hN : X.N.Nodup) (hi : X.N[i]? = some x) (hx : Loc X.env.scope x) (r : RelV v u)
    (h : ∀ s', Inv X pins (σ.set i (some v)) H s' → Q () s') (hf : X.fn x = true ∨ X.env.scope.names.lookup x = some .local := by first | exact .inl rfl | exact .inr rfl | assumption) : wpAny M A (storeName X.env x u) Q E s :=
  store_ok2 I hN hi hx r (fun s' I' _ => h s' I') hf
/-- behind a call or a block, the state as it is -/
theorem Inv.call' {s' : Shared} {ch : List Addr} (I : Inv X pins σ H s) (ho : s'.os = s.os) (u : Un (frs X.stack) ch H H' s.heap s'.heap) (hok : HOk X.prog X.w H' s'.heap) (hg : AllBare s'.gens)
    (hch : ∀ b ∈ ch, (b ∈ X.ex ∨ X.s₀.heap.objs.size ≤ b) ∧ b ≠ X.env.locals ∧ (∀ x c, X.env.cells.lookup x = some c → c ≠ b) ∧ ∀ p ∈ X.pn ++ pins, p.1 ≠ b) : Inv X pins σ H' s' := by
  obtain ⟨h', g', d', t', o'⟩ := s'
  have e : o' = s.os := ho
  subst e
  exact I.call (g' := g') (t' := t') (d' := d') u hok hg hch
end

/-! ### the judgements -/
/-- an exception: its class, its own dict's address (where it has one), the abstract heap behind it -/
abbrev XK := Value → Option Addr → Hp → Prop
abbrev St := List (Option V)
abbrev VK := V → Hp → Prop
/-- an expression's reading; a test's; an argument list's -/
abbrev TE := St → Hp → VK → Prop
abbrev TT := St → Hp → (Bool → Hp → Prop) → Prop
abbrev TA := St → Hp → (List V → Hp → Prop) → Prop
/-- what is wanted behind a statement -/
structure Ends where
  nx : St → Hp → Prop
  rt : VK
  bk : St → Hp → Prop := fun _ _ => False
  ct : St → Hp → Prop := fun _ _ => False
abbrev TS := Ends → St → Hp → Prop

def EP (X : Cx) (pins : List (Addr × Obj)) (σ : St) (Q : VK) (u : Value) (s' : Shared) : Prop := ∃ v H', Inv X pins σ H' s' ∧ RelV v u ∧ Q v H'
def TP (X : Cx) (pins : List (Addr × Obj)) (σ : St) (Q : Bool → Hp → Prop) (b : Bool) (s' : Shared) : Prop := ∃ H', Inv X pins σ H' s' ∧ Q b H'
def AP (X : Cx) (pins : List (Addr × Obj)) (σ : St) (Q : List V → Hp → Prop) (us : List Value) (s' : Shared) : Prop := ∃ vs H', Inv X pins σ H' s' ∧ Vals vs us ∧ Q vs H'
def SP (X : Cx) (pins : List (Addr × Obj)) (D : Ends) (f : Flow) (s' : Shared) : Prop :=
  match f with
  | .next => ∃ σ' H', Inv X pins σ' H' s' ∧ D.nx σ' H'
  | .brk => ∃ σ' H', Inv X pins σ' H' s' ∧ D.bk σ' H'
  | .cont => ∃ σ' H', Inv X pins σ' H' s' ∧ D.ct σ' H'
  | .ret u => ∃ v σ' H', Inv X pins σ' H' s' ∧ RelV v u ∧ D.rt v H'

def PE (X : Cx) (e : Expr) (t : TE) : Prop :=
  ∀ (pins : List (Addr × Obj)) (s : Shared) (σ : St) (H : Hp) (Q : VK), Inv X pins σ H s → t σ H Q → wpAny (model X.prog X.w) X.A (eval e X.env) (EP X pins σ Q) X.xe s
def PT (X : Cx) (e : Expr) (t : TT) : Prop :=
  ∀ (pins : List (Addr × Obj)) (s : Shared) (σ : St) (H : Hp) (Q : Bool → Hp → Prop), Inv X pins σ H s → t σ H Q → wpAny (model X.prog X.w) X.A (isTrue e X.env (eval e X.env)) (TP X pins σ Q) X.xe s
/-- a test whatever its 'whole' is (and, or) -/
def PW (X : Cx) (e : Expr) (t : TT) : Prop :=
  ∀ (whole : Sem Value) (pins : List (Addr × Obj)) (s : Shared) (σ : St) (H : Hp) (Q : Bool → Hp → Prop), Inv X pins σ H s → t σ H Q → wpAny (model X.prog X.w) X.A (isTrue e X.env whole) (TP X pins σ Q) X.xe s
theorem PW.pt {X : Cx} {e : Expr} {t : TT} (h : PW X e t) : PT X e t := h _
/-- an argument list (no star), from the left -/
def PA (X : Cx) (es : List Expr) (t : TA) : Prop :=
  ∀ (pos : Pos) (pins : List (Addr × Obj)) (s : Shared) (σ : St) (H : Hp) (Q : List V → Hp → Prop), Inv X pins σ H s → t σ H Q → wpAny (model X.prog X.w) X.A (spliced (backTo pos (starEach es X.env))) (AP X pins σ Q) X.xe s
def PS (X : Cx) (st : Stmt) (t : TS) : Prop :=
  ∀ (pins : List (Addr × Obj)) (s : Shared) (σ : St) (H : Hp) (D : Ends), Inv X pins σ H s → t D σ H → wpAny (model X.prog X.w) X.A (exec st X.env) (SP X pins D) X.xe s
def PSs (X : Cx) (st : List Stmt) (t : TS) : Prop :=
  ∀ (pins : List (Addr × Obj)) (s : Shared) (σ : St) (H : Hp) (D : Ends), Inv X pins σ H s → t D σ H → wpAny (model X.prog X.w) X.A (execs st X.env) (SP X pins D) X.xe s
/-- weaken the end -/
theorem thn {α : Type} {t : Sem α} {Q Q' : α → Shared → Prop} {M : Model} {A : Around} {E : Value → Shared → Prop} {s : Shared} (h : wpAny M A t Q E s) (hQ : ∀ a s, Q a s → Q' a s) : wpAny M A t Q' E s := wpAny_mono h hQ fun _ _ x => x
end L2

namespace L2
open PySem PySem.Spec PyProof.Rows
section
variable {X : Cx}

/-- two expressions in a row -/
theorem bin {a b : Expr} {ta tb : TE} (ha : PE X a ta) (hb : PE X b tb) {pins : List (Addr × Obj)} {s : Shared} {σ : St} {H : Hp} {R : V → V → Hp → Prop} (I : Inv X pins σ H s) (h : ta σ H fun x H1 => tb σ H1 fun y H2 => R x y H2)
    {α : Type} {Q : α → Shared → Prop} {f : Value → Value → Sem α}
    (hf : ∀ v u s2 x y H2, Inv X pins σ H2 s2 → RelV x v → RelV y u → R x y H2 → wpAny (model X.prog X.w) X.A (f v u) Q X.xe s2) :
    wpAny (model X.prog X.w) X.A (eval a X.env) (fun v s₁ => wpAny (model X.prog X.w) X.A (eval b X.env) (fun u s₂ => wpAny (model X.prog X.w) X.A (f v u) Q X.xe s₂) X.xe s₁) X.xe s := by
  refine thn (ha pins s σ H _ I h) fun v s1 ⟨x, H1, I1, r1, q1⟩ => ?_
  refine thn (hb pins s1 σ H1 _ I1 q1) fun u s2 ⟨y, H2, I2, r2, q2⟩ => ?_
  exact hf v u s2 x y H2 I2 r1 r2 q2

/-! ### names and constants -/
def tVar (i : Nat) : TE := fun σ H Q => ∃ v, σ[i]? = some (some v) ∧ Q v H
def tC (v : V) : TE := fun _ H Q => Q v H
theorem pe_var {i : Nat} {x : Str} {pos : Pos} (hN : X.N[i]? = some x) (hv : Vis X.env.scope x) (hd : (x == ("__debug__" : Str)) = false := by decide) (hcd : (x == ("__classdict__" : Str)) = false := by decide) : PE X (.Name x pos) (tVar i) := by
  intro pins s σ H Q I h
  obtain ⟨v, e, h⟩ := h
  obtain ⟨m, hn, hl⟩ := I.loc
  obtain ⟨u, r, l⟩ := hl i x v hN e hv
  have fin : EP X pins σ Q u s := ⟨v, H, I, r, h⟩
  rcases l with ⟨hk, hm⟩ | ⟨hk, c, hc, hcell⟩
  · exact wpAny_Name (wpAny_loadName_local I.ok.kind hk hn hm fin) hd
  · rcases hk with hk | hk
    · exact wpAny_Name (wpAny_loadName_cell I.ok.kind hk hc hcell fin) hd
    · exact wpAny_Name (wpAny_loadName_free I.ok.kind hk hc hcell fin hcd) hd
theorem pe_int {i j pos} : PE X (.Constant (.int i) j pos) (tC (.int i)) := fun _ _ _ H _ I h => wpAny_Constant_int ⟨.int i, H, I.tok _, ⟨_, rfl⟩, h⟩
theorem pe_bl {b j pos} : PE X (.Constant (.bool b) j pos) (tC (.bl b)) := fun _ _ _ H _ I h => Constant_bool ⟨.bl b, H, I, rfl, h⟩
theorem pe_non {j pos} : PE X (.Constant .none j pos) (tC .non) := fun _ _ _ H _ I h => Constant_none ⟨.non, H, I, rfl, h⟩
theorem pe_str {x j pos} : PE X (.Constant (.str x) j pos) (tC (.str x)) := fun _ _ _ H _ I h => Calls.Constant_str ⟨.str x, H, I.tok _, ⟨_, rfl⟩, h⟩

/-- a global name of the def -/
def Gl (X : Cx) (x : Str) : Prop := X.env.kindOf x = some .globalImplicit
theorem ld_glob {E : Value → Shared → Prop} {pins : List (Addr × Obj)} {s : Shared} {σ : St} {H : Hp} {x : Str} {u : Value} {pos : Pos} {Q : Value → Shared → Prop} (I : Inv X pins σ H s) (hg : Gl X x) (hm : X.mg x = some u) (h : Q u s)
    (hd : (x == ("__debug__" : Str)) = false := by decide) : wpAny (model X.prog X.w) X.A (eval (.Name x pos) X.env) Q E s :=
  Calls.Name_function_global I.ok.kind hg (Calls.loadGlobal_global (by rw [I.ok.glob]; exact I.mod.glob.keeps I.bk) hm h) hd
theorem ld_blt {E : Value → Shared → Prop} {pins : List (Addr × Obj)} {s : Shared} {σ : St} {H : Hp} {x : Str} {u : Value} {pos : Pos} {Q : Value → Shared → Prop} (I : Inv X pins σ H s) (hg : Gl X x) (hm : X.mg x = none) (hv : bootBuiltins x = some u) (h : Q u s)
    (hn : x ≠ "__name__" := by decide) (hd : (x == ("__debug__" : Str)) = false := by decide) : wpAny (model X.prog X.w) X.A (eval (.Name x pos) X.env) Q E s := by
  obtain ⟨mb, h1, h2⟩ := I.mod.blt
  exact Calls.Name_function_global I.ok.kind hg (Calls.loadGlobal_builtin (by rw [I.ok.glob]; exact I.mod.glob.keeps I.bk) hm (by rw [I.ok.blt]; exact h1.keeps I.bk) ((h2 x hn).trans hv) h) hd
/-- a module's constant, a class, a function, as a value -/
theorem pe_glob {x : Str} {v : V} {u : Value} {pos : Pos} (hg : Gl X x) (hm : X.mg x = some u) (r : RelV v u) (hd : (x == ("__debug__" : Str)) = false := by decide) : PE X (.Name x pos) (tC v) :=
  fun _ _ _ H _ I h => ld_glob I hg hm ⟨v, H, I, r, h⟩ hd
theorem pe_bltn {x : Str} {v : V} {u : Value} {pos : Pos} (hg : Gl X x) (hm : X.mg x = none) (hv : bootBuiltins x = some u) (r : RelV v u) (hn : x ≠ "__name__" := by decide) (hd : (x == ("__debug__" : Str)) = false := by decide) : PE X (.Name x pos) (tC v) :=
  fun _ _ _ H _ I h => ld_blt I hg hm hv ⟨v, H, I, r, h⟩ hn hd

/-! ### arithmetic -/
/-- two ints -/
def t2I (ta tb : TE) (k : Int → Int → Hp → Prop) : St → Hp → Prop := fun σ H => ta σ H fun x H1 => tb σ H1 fun y H2 => ∃ i j, x = .int i ∧ y = .int j ∧ k i j H2
def tAdd (ta tb : TE) : TE := fun σ H Q => t2I ta tb (fun i j H2 => Q (.int (i + j)) H2) σ H
def tSub (ta tb : TE) : TE := fun σ H Q => t2I ta tb (fun i j H2 => Q (.int (i - j)) H2) σ H
/-- the left factor below 2^64 -/
def tMul (ta tb : TE) : TE := fun σ H Q => t2I ta tb (fun i j H2 => (-(2 ^ 64) < i ∧ i < 2 ^ 64) ∧ Q (.int (i * j)) H2) σ H
variable {a b : Expr} {ta tb : TE} {pos : Pos}
theorem pe_add (ha : PE X a ta) (hb : PE X b tb) : PE X (.BinOp a .Add b pos) (tAdd ta tb) := by
  intro pins s σ H Q I h
  refine wpAny_BinOp (bin ha hb I h fun v u s2 x y H2 I2 rx ry q => ?_)
  obtain ⟨i, j, rfl, rfl, q⟩ := q
  obtain ⟨t, rfl⟩ := rx
  obtain ⟨t', rfl⟩ := ry
  exact add_int ⟨.int _, H2, I2.tok _, ⟨_, rfl⟩, q⟩
theorem pe_sub (ha : PE X a ta) (hb : PE X b tb) : PE X (.BinOp a .Sub b pos) (tSub ta tb) := by
  intro pins s σ H Q I h
  refine wpAny_BinOp (bin ha hb I h fun v u s2 x y H2 I2 rx ry q => ?_)
  obtain ⟨i, j, rfl, rfl, q⟩ := q
  obtain ⟨t, rfl⟩ := rx
  obtain ⟨t', rfl⟩ := ry
  exact sub_int ⟨.int _, H2, I2.tok _, ⟨_, rfl⟩, q⟩
theorem pe_mul (ha : PE X a ta) (hb : PE X b tb) : PE X (.BinOp a .Mult b pos) (tMul ta tb) := by
  intro pins s σ H Q I h
  refine wpAny_BinOp (bin ha hb I h fun v u s2 x y H2 I2 rx ry q => ?_)
  obtain ⟨i, j, rfl, rfl, ⟨q1, q2⟩, q⟩ := q
  obtain ⟨t, rfl⟩ := rx
  obtain ⟨t', rfl⟩ := ry
  exact mul_int ⟨.int _, H2, I2.tok _, ⟨_, rfl⟩, q⟩ (.of_left (intBits_le_64 q1 q2))

/-! ### comparisons -/
def PC (X : Cx) (op : CmpOp) (a b : Expr) (t : TE) : Prop :=
  ∀ (pins : List (Addr × Obj)) (s : Shared) (σ : St) (H : Hp) (Q : VK), Inv X pins σ H s → t σ H Q →
    wpAny (model X.prog X.w) X.A (eval a X.env) (fun v s₁ => wpAny (model X.prog X.w) X.A (eval b X.env) (fun u s₂ => wpAny (model X.prog X.w) X.A (compareOp op v u) (EP X pins σ Q) X.xe s₂) X.xe s₁) X.xe s
theorem nobehind (b : Expr) {op : CmpOp} (h : op ≠ .In) (h2 : op ≠ .NotIn) : behindInMarks op b = false := by
  have e1 : (op == CmpOp.In) = false := by cases op <;> first | rfl | exact absurd rfl h
  have e2 : (op == CmpOp.NotIn) = false := by cases op <;> first | rfl | exact absurd rfl h2
  cases b <;> simp [behindInMarks, e1, e2]
def tCmp (p : Int → Int → Bool) (ta tb : TE) : TE := fun σ H Q => t2I ta tb (fun i j H2 => Q (.bl (p i j)) H2) σ H
abbrev tLt : TE → TE → TE := tCmp fun i j => decide (i < j)
abbrev tLe : TE → TE → TE := tCmp fun i j => decide (i ≤ j)
abbrev tGt : TE → TE → TE := tCmp fun i j => decide (j < i)
abbrev tGe : TE → TE → TE := tCmp fun i j => decide (j ≤ i)
abbrev tEqI : TE → TE → TE := tCmp fun i j => decide (i = j)
abbrev tNeI : TE → TE → TE := tCmp fun i j => !decide (i = j)
/-- a comparison of two ints, by its rule -/
theorem pc_int {op : CmpOp} {p : Int → Int → Bool} (ha : PE X a ta) (hb : PE X b tb)
    (rule : ∀ (i j : Int) (t u : Tok) (Q : Value → Shared → Prop) (s : Shared), Q (.bool (p i j)) s → wpAny (model X.prog X.w) X.A (compareOp op (.int i t) (.int j u)) Q X.xe s) : PC X op a b (tCmp p ta tb) := by
  intro pins s σ H Q I h
  refine bin ha hb I h fun v u s2 x y H2 I2 rx ry q => ?_
  obtain ⟨i, j, rfl, rfl, q⟩ := q
  obtain ⟨t, rfl⟩ := rx
  obtain ⟨t', rfl⟩ := ry
  exact rule i j t t' _ s2 ⟨.bl _, H2, I2, rfl, q⟩
theorem pc_lt (ha : PE X a ta) (hb : PE X b tb) : PC X .Lt a b (tLt ta tb) := pc_int ha hb fun _ _ _ _ _ _ h => lt_int h
theorem pc_le (ha : PE X a ta) (hb : PE X b tb) : PC X .LtE a b (tLe ta tb) := pc_int ha hb fun _ _ _ _ _ _ h => le_int h
theorem pc_gt (ha : PE X a ta) (hb : PE X b tb) : PC X .Gt a b (tGt ta tb) := pc_int ha hb fun _ _ _ _ _ _ h => gt_int h
theorem pc_ge (ha : PE X a ta) (hb : PE X b tb) : PC X .GtE a b (tGe ta tb) := pc_int ha hb fun _ _ _ _ _ _ h => ge_int h
theorem pc_eqI (ha : PE X a ta) (hb : PE X b tb) : PC X .Eq a b (tEqI ta tb) := pc_int ha hb fun _ _ _ _ _ _ h => eq_int (by rw [Bool.beq_eq_decide_eq]; exact h)
theorem pc_neI (ha : PE X a ta) (hb : PE X b tb) : PC X .NotEq a b (tNeI ta tb) := pc_int ha hb fun _ _ _ _ _ _ h => ne_int (by rw [bne, Bool.beq_eq_decide_eq]; exact h)
/-- is None -/
def tIsN (ta : TE) : TE := fun σ H Q => ta σ H fun x H1 => Q (.bl (decide (x = .non))) H1
def tNotN (ta : TE) : TE := fun σ H Q => ta σ H fun x H1 => Q (.bl (!decide (x = .non))) H1
theorem RelV.none_iff {x : V} {v : Value} (r : RelV x v) : (v == Value.none) = decide (x = .non) := by
  cases x with
  | non => cases r; rfl
  | bl _ => cases r; rfl
  | int _ => obtain ⟨t, rfl⟩ := r; rfl
  | str _ => obtain ⟨t, rfl⟩ := r; rfl
  | byt _ => obtain ⟨t, rfl⟩ := r; rfl
  | flt _ => obtain ⟨t, rfl⟩ := r; rfl
  | ref _ => cases r; rfl
  | ty _ => cases r; rfl
theorem pc_isN {j pos'} (ha : PE X a ta) : PC X .Is a (.Constant .none j pos') (tIsN ta) := by
  intro pins s σ H Q I h
  refine thn (ha pins s σ H _ I h) fun v s1 ⟨x, H1, I1, r1, q1⟩ => ?_
  exact Constant_none (is_none_gen ⟨.bl _, H1, I1, by rw [r1.none_iff]; rfl, q1⟩)
theorem pc_notN {j pos'} (ha : PE X a ta) : PC X .IsNot a (.Constant .none j pos') (tNotN ta) := by
  intro pins s σ H Q I h
  refine thn (ha pins s σ H _ I h) fun v s1 ⟨x, H1, I1, r1, q1⟩ => ?_
  exact Constant_none (isnot_none_gen ⟨.bl _, H1, I1, by rw [r1.none_iff]; rfl, q1⟩)
/-- a comparison as a value, as a test -/
def tB (t : TE) : TT := fun σ H Q => t σ H fun x H1 => ∃ c, x = .bl c ∧ Q c H1
theorem pe_cmp {op : CmpOp} {t : TE} (h : PC X op a b t) (h1 : behindInMarks op b = false := by first | exact nobehind _ (by decide) (by decide) | rfl) : PE X (.Compare a [op] [b] pos) t := fun pins s σ H Q I hw => wpAny_Compare1 (h pins s σ H Q I hw) h1
theorem pt_cmp {op : CmpOp} {t : TE} (h : PC X op a b t) (h1 : behindInMarks op b = false := by first | exact nobehind _ (by decide) (by decide) | rfl) : PT X (.Compare a [op] [b] pos) (tB t) := by
  intro pins s σ H Q I hw
  refine wpAny_isTrue_Compare1 (thn (h pins s σ H _ I hw) fun v s1 h1 => thn h1 fun u s2 h2 => thn h2 fun c s3 ⟨x, H1, I1, r1, q1⟩ => ?_) h1
  obtain ⟨d, rfl, q⟩ := q1
  cases r1
  exact wpAny_truthy_bool ⟨H1, I1, q⟩
/-- an expression whose value is a bool, as a test -/
theorem pt_val {e : Expr} {t : TE} (h : PE X e t) (he : ∀ whole, isTrue e X.env whole = (do let v ← whole; standAt e.pos; holding [v] (truthy v)) := by intro _; rfl) : PT X e (tB t) := by
  intro pins s σ H Q I hw
  refine isTrue_plain (thn (h pins s σ H _ I hw) fun v s1 ⟨x, H1, I1, r1, q1⟩ => ?_) (he _)
  obtain ⟨d, rfl, q⟩ := q1
  cases r1
  exact wpAny_truthy_bool ⟨H1, I1, q⟩

/-! ### and, or, not -/
variable {tA tB' : TT} {rest : List Expr}
def tAnd (t u : TT) : TT := fun σ H Q => t σ H fun c H1 => if c = true then u σ H1 Q else Q false H1
def tOr (t u : TT) : TT := fun σ H Q => t σ H fun c H1 => if c = true then Q true H1 else u σ H1 Q
def tNot (t : TT) : TT := fun σ H Q => t σ H fun c H1 => Q (!c) H1
theorem pw_and1 (ha : PT X a tA) : PW X (.BoolOp .And [a] pos) tA := by
  intro wh pins s σ H Q I h
  refine isTrue_and (thn (ha pins s σ H Q I h) fun c s1 e => ?_)
  cases c with
  | true => exact isTrue_and_nil e
  | false => exact e
theorem pw_or1 (ha : PT X a tA) : PW X (.BoolOp .Or [a] pos) tA := by
  intro wh pins s σ H Q I h
  refine isTrue_or (thn (ha pins s σ H Q I h) fun c s1 e => ?_)
  cases c with
  | false => exact isTrue_or_nil e
  | true => exact e
theorem pw_and (ha : PT X a tA) (hb : PW X (.BoolOp .And (b :: rest) pos) tB') : PW X (.BoolOp .And (a :: b :: rest) pos) (tAnd tA tB') := by
  intro wh pins s σ H Q I h
  refine isTrue_and (thn (ha pins s σ H _ I h) fun c s1 ⟨H1, I1, q1⟩ => ?_)
  cases c with
  | true => exact hb wh pins s1 σ H1 Q I1 q1
  | false => exact ⟨H1, I1, q1⟩
theorem pw_or (ha : PT X a tA) (hb : PW X (.BoolOp .Or (b :: rest) pos) tB') : PW X (.BoolOp .Or (a :: b :: rest) pos) (tOr tA tB') := by
  intro wh pins s σ H Q I h
  refine isTrue_or (thn (ha pins s σ H _ I h) fun c s1 ⟨H1, I1, q1⟩ => ?_)
  cases c with
  | true => exact ⟨H1, I1, q1⟩
  | false => exact hb wh pins s1 σ H1 Q I1 q1
theorem pt_not (ha : PT X a tA) : PT X (.UnaryOp .Not a pos) (tNot tA) := by
  intro pins s σ H Q I h
  exact isTrue_not (ha pins s σ H (fun c H1 => Q (!c) H1) I h)
/-- .. as values (bools) -/
def tAndV (ta tb : TE) : TE := fun σ H Q => ta σ H fun x H1 => ∃ c, x = .bl c ∧ if c = true then tb σ H1 Q else Q (.bl false) H1
def tOrV (ta tb : TE) : TE := fun σ H Q => ta σ H fun x H1 => ∃ c, x = .bl c ∧ if c = true then Q (.bl true) H1 else tb σ H1 Q
def tNotV (ta : TE) : TE := fun σ H Q => ta σ H fun x H1 => ∃ c, x = .bl c ∧ Q (.bl (!c)) H1
theorem pe_one {op} {t : TE} (h : PE X a t) : PE X (.BoolOp op [a] pos) t := fun pins s σ H Q I hw => BoolOp_one (h pins s σ H Q I hw)
theorem pe_and (ha : PE X a ta) (hb : PE X (.BoolOp .And (b :: rest) pos) tb) : PE X (.BoolOp .And (a :: b :: rest) pos) (tAndV ta tb) := by
  intro pins s σ H Q I h
  refine BoolOp_and (thn (ha pins s σ H _ I h) fun v s1 ⟨x, H1, I1, r1, q1⟩ => ?_)
  obtain ⟨c, rfl, q1⟩ := q1
  cases r1
  refine wpAny_truthy_bool ?_
  cases c with
  | true => exact hb pins s1 σ H1 Q I1 q1
  | false => exact ⟨.bl false, H1, I1, rfl, q1⟩
theorem pe_or (ha : PE X a ta) (hb : PE X (.BoolOp .Or (b :: rest) pos) tb) : PE X (.BoolOp .Or (a :: b :: rest) pos) (tOrV ta tb) := by
  intro pins s σ H Q I h
  refine BoolOp_or (thn (ha pins s σ H _ I h) fun v s1 ⟨x, H1, I1, r1, q1⟩ => ?_)
  obtain ⟨c, rfl, q1⟩ := q1
  cases r1
  refine wpAny_truthy_bool ?_
  cases c with
  | false => exact hb pins s1 σ H1 Q I1 q1
  | true => exact ⟨.bl true, H1, I1, rfl, q1⟩
theorem pe_not (ha : PE X a ta) : PE X (.UnaryOp .Not a pos) (tNotV ta) := by
  intro pins s σ H Q I h
  refine UnaryOp_ (thn (ha pins s σ H _ I h) fun v s1 ⟨x, H1, I1, r1, q1⟩ => ?_)
  obtain ⟨c, rfl, q1⟩ := q1
  cases r1
  exact not_of (wpAny_truthy_bool ⟨.bl (!c), H1, I1, rfl, q1⟩)
/-- a if t else b -/
def tIf (t : TT) (ta tb : TE) : TE := fun σ H Q => t σ H fun c H1 => if c = true then ta σ H1 Q else tb σ H1 Q
theorem pe_ifExp {c : Expr} (hc : PT X c tA) (ha : PE X a ta) (hb : PE X b tb) : PE X (.IfExp c a b pos) (tIf tA ta tb) := by
  intro pins s σ H Q I h
  refine wpAny_IfExp (thn (hc pins s σ H _ I h) fun d s1 ⟨H1, I1, q1⟩ => ?_)
  cases d with
  | true => exact ha pins s1 σ H1 Q I1 q1
  | false => exact hb pins s1 σ H1 Q I1 q1
end
end L2

namespace L2
open PySem PySem.Spec PyProof.Rows

/-! ### a list, a tuple that is read: tracked, frozen, or an object of the module -/
def SqL (K : PySem.W.Frag) (H : Hp) (a : Addr) (xs : List V) : Prop :=
  Rd H a (.lst xs) ∨
    ∃ (o : Obj) (its : Array Value) (n : Nat), K.lookup a = some o ∧ o.cls = .type "list" ∧ o.dict = none ∧ o.data = .seq its n ∧ its.size ≤ sizeLine ∧ Vals xs its.toList
def SqT (K : PySem.W.Frag) (H : Hp) (a : Addr) (xs : List V) : Prop :=
  Rd H a (.tup xs) ∨
    ∃ (o : Obj) (its : Array Value) (n : Nat), K.lookup a = some o ∧ o.cls = .type "tuple" ∧ o.data = .seq its n ∧ its.size ≤ sizeLine ∧ Vals xs its.toList
def absV : Value → Option V
  | .none => some .non
  | .bool b => some (.bl b)
  | .int i _ => some (.int i)
  | .str x _ => some (.str x)
  | .bytes b _ => some (.byt b)
  | .float b _ => some (.flt b)
  | .ref a => some (.ref a)
  | .type n => some (.ty n)
  | _ => none
theorem RelV.abs {x : V} {u : Value} (r : RelV x u) : absV u = some x := by
  cases x with
  | non => cases r; rfl
  | bl _ => cases r; rfl
  | int _ => obtain ⟨t, rfl⟩ := r; rfl
  | str _ => obtain ⟨t, rfl⟩ := r; rfl
  | byt _ => obtain ⟨t, rfl⟩ := r; rfl
  | flt _ => obtain ⟨t, rfl⟩ := r; rfl
  | ref _ => cases r; rfl
  | ty _ => cases r; rfl
theorem RelV.inj {x y : V} {u : Value} (r : RelV x u) (q : RelV y u) : x = y := Option.some.inj (r.abs.symm.trans q.abs)
theorem Vals.inj : ∀ {xs ys : List V} {us : List Value}, Vals xs us → Vals ys us → xs = ys
  | _, _, _, .nil, .nil => rfl
  | _, _, _, .cons r t, .cons r' t' => by rw [r.inj r', Vals.inj t t']
section
variable {X : Cx} {pins : List (Addr × Obj)} {σ : St} {H : Hp} {s : Shared} {a : Addr} {xs ys : List V}
theorem SqL.of {K : PySem.W.Frag} (h : H a = some (.lst xs)) : SqL K H a xs := .inl (.inl h)
theorem SqT.of {K : PySem.W.Frag} (h : H a = some (.tup xs)) : SqT K H a xs := .inl (.inl h)
theorem Inv.list (I : Inv X pins σ H s) (h : SqL X.K H a xs) : ∃ its : List Value, Vals xs its ∧ PlainL s.heap a its.toArray ∧ xs.length ≤ sizeLine := by
  rcases h with h | ⟨o, its, n, hk, hc, hd, hs, hz, r⟩
  · obtain ⟨z, its, n, r, e⟩ := h.ok I.hok
    exact ⟨its, r, ⟨_, n, e, rfl, rfl, rfl⟩, z⟩
  · refine ⟨its.toList, r, ⟨o, n, I.kIn a o hk, hc, hd, by simpa using hs⟩, ?_⟩
    have e := r.length
    simp only [Array.length_toList] at e
    omega
theorem Inv.tuple (I : Inv X pins σ H s) (h : SqT X.K H a xs) : ∃ its : List Value, Vals xs its ∧ IsTup s.heap a its.toArray ∧ xs.length ≤ sizeLine := by
  rcases h with h | ⟨o, its, n, hk, hc, hs, hz, r⟩
  · obtain ⟨z, its, r, p⟩ := h.ok I.hok
    exact ⟨its, r, p, z⟩
  · refine ⟨its.toList, r, ⟨o, I.kIn a o hk, hc, n, by simpa using hs⟩, ?_⟩
    have e := r.length
    simp only [Array.length_toList] at e
    omega
theorem Inv.list_inj (I : Inv X pins σ H s) (h : SqL X.K H a xs) (h' : SqL X.K H a ys) : xs = ys := by
  obtain ⟨its, r, ⟨o, n, e, _, _, d⟩, _⟩ := I.list h
  obtain ⟨its', r', ⟨o', n', e', _, _, d'⟩, _⟩ := I.list h'
  rw [e] at e'; cases e'
  rw [d] at d'
  injection d' with d1 _
  have : its = its' := by simpa using congrArg Array.toList d1
  subst this
  exact r.inj r'
theorem Inv.tuple_inj (I : Inv X pins σ H s) (h : SqT X.K H a xs) (h' : SqT X.K H a ys) : xs = ys := by
  obtain ⟨its, r, ⟨o, e, _, n, d⟩, _⟩ := I.tuple h
  obtain ⟨its', r', ⟨o', e', _, n', d'⟩, _⟩ := I.tuple h'
  rw [e] at e'; cases e'
  rw [d] at d'
  injection d' with d1 _
  have : its = its' := by simpa using congrArg Array.toList d1
  subst this
  exact r.inj r'
end

/-! ### another wish about exceptions -/
abbrev Cx.wish (X : Cx) (E : Value → Shared → Prop) : Cx := { X with xe := E }
/-- no exception leaves -/
abbrev Cx.nox (X : Cx) : Cx := X.wish fun _ _ => False
theorem Cx.Ok.wish {X : Cx} (ok : X.Ok) (E : Value → Shared → Prop) : (X.wish E).Ok :=
  ⟨ok.mod, ok.kind, ok.glob, ok.blt, ok.above, ok.inj, ok.has, ok.cab, ok.hd, ok.frames, ok.stk, ok.exf, ok.bs, ok.bsz, ok.noex, ok.exfs, ok.funs, ok.frf⟩
theorem Cx.Ok.unwish {X : Cx} {E : Value → Shared → Prop} (ok : (X.wish E).Ok) : X.Ok :=
  ⟨ok.mod, ok.kind, ok.glob, ok.blt, ok.above, ok.inj, ok.has, ok.cab, ok.hd, ok.frames, ok.stk, ok.exf, ok.bs, ok.bsz, ok.noex, ok.exfs, ok.funs, ok.frf⟩
section
variable {X : Cx} {pins : List (Addr × Obj)} {σ : St} {H : Hp} {s : Shared} {E : Value → Shared → Prop}
theorem Inv.wish (I : Inv X pins σ H s) (E : Value → Shared → Prop) : Inv (X.wish E) pins σ H s := ⟨I.ok.wish E, I.os, I.bare, I.base, I.loc, I.cell, I.free, I.freeC, I.pin, I.hok, I.len⟩
theorem Inv.unwish (I : Inv (X.wish E) pins σ H s) : Inv X pins σ H s := ⟨I.ok.unwish, I.os, I.bare, I.base, I.loc, I.cell, I.free, I.freeC, I.pin, I.hok, I.len⟩
theorem SP.unwish {D : Ends} {f : Flow} {s' : Shared} (h : SP (X.wish E) pins D f s') : SP X pins D f s' := by
  cases f with
  | next => obtain ⟨σ', H', I, q⟩ := h; exact ⟨σ', H', I.unwish, q⟩
  | brk => obtain ⟨σ', H', I, q⟩ := h; exact ⟨σ', H', I.unwish, q⟩
  | cont => obtain ⟨σ', H', I, q⟩ := h; exact ⟨σ', H', I.unwish, q⟩
  | ret u => obtain ⟨v, σ', H', I, r, q⟩ := h; exact ⟨v, σ', H', I.unwish, r, q⟩
theorem PE.nox {e : Expr} {t : TE} (h : PE X.nox e t) : PE X e t := fun pins s σ H Q I hw =>
  wpAny_mono (h pins s σ H Q (I.wish _) hw) (fun _ _ ⟨v, H', I', r, q⟩ => ⟨v, H', I'.unwish, r, q⟩) fun _ _ z => False.elim z
theorem PT.nox {e : Expr} {t : TT} (h : PT X.nox e t) : PT X e t := fun pins s σ H Q I hw =>
  wpAny_mono (h pins s σ H Q (I.wish _) hw) (fun _ _ ⟨H', I', q⟩ => ⟨H', I'.unwish, q⟩) fun _ _ z => False.elim z
theorem PSs.nox {st : List Stmt} {t : TS} (h : PSs X.nox st t) : PSs X st t := fun pins s σ H D I hw =>
  wpAny_mono (h pins s σ H D (I.wish _) hw) (fun _ _ q => q.unwish) fun _ _ z => False.elim z
end

/-! ### blocks and small statements -/
section
variable {X : Cx} {st : Stmt} {rest : List Stmt} {t u : TS} {e : Expr} {te : TE} {pos : Pos}
def tNext : TS := fun D σ H => D.nx σ H
def tSeq (t u : TS) : TS := fun D σ H => t { D with nx := u D } σ H
theorem pss_nil : PSs X [] tNext := fun _ _ σ H _ I h => wpAny_execs_nil ⟨σ, H, I, h⟩
theorem pss_cons (h1 : PS X st t) (h2 : PSs X rest u) : PSs X (st :: rest) (tSeq t u) := by
  intro pins s σ H D I h
  refine wpAny_execs_cons (thn (h1 pins s σ H { D with nx := u D } I h) fun f s1 q => ?_)
  cases f with
  | next =>
    obtain ⟨σ', H', I', q⟩ := q
    exact h2 pins s1 σ' H' D I' q
  | ret v => exact q
  | brk => exact q
  | cont => exact q
theorem pss_one (h1 : PS X st t) : PSs X [st] t := by
  intro pins s σ H D I h
  refine wpAny_execs_cons (thn (h1 pins s σ H D I h) fun f s1 q => ?_)
  cases f with
  | next => exact wpAny_execs_nil q
  | ret v => exact q
  | brk => exact q
  | cont => exact q
def tBreak : TS := fun D σ H => D.bk σ H
def tCont : TS := fun D σ H => D.ct σ H
theorem ps_pass : PS X (.Pass pos) tNext := fun _ _ σ H _ I h => wpAny_Pass ⟨σ, H, I, h⟩
theorem ps_break : PS X (.Break pos) tBreak := fun _ _ σ H _ I h => wpAny_Break ⟨σ, H, I, h⟩
theorem ps_continue : PS X (.Continue pos) tCont := fun _ _ σ H _ I h => wpAny_Continue ⟨σ, H, I, h⟩
/-- in a def's body nothing is shown -/
theorem Inv.quiet {pins : List (Addr × Obj)} {σ : St} {H : Hp} {s : Shared} (I : Inv X pins σ H s) : interactive X.env = false := by simp [interactive, I.ok.kind]
/-- a docstring -/
theorem ps_doc {x j pos pos'} : PS X (.Expr (.Constant (.str x) j pos) pos') tNext := fun _ s σ H _ I h => wpAny_Expr (Calls.Constant_str (show SP X _ _ .next { s with toks := s.toks + 1 } from ⟨σ, H, I.tok _, h⟩)) I.quiet
/-- an expression whose value is dropped -/
def tDrop (te : TE) : TS := fun D σ H => te σ H fun _ H1 => D.nx σ H1
theorem ps_expr (he : PE X e te) (hs : swapsWith e none pos.line X.env = pure false := by rfl) : PS X (.Expr e pos) (tDrop te) := by
  intro pins s σ H D I h
  exact wpAny_Expr_any (thn (he pins s σ H _ I h) fun v s1 ⟨x, H1, I1, r1, q1⟩ => ⟨σ, H1, I1, q1⟩) I.quiet hs
def tRet (te : TE) : TS := fun D σ H => te σ H D.rt
theorem ps_ret (he : PE X e te) : PS X (.Return (some e) pos) (tRet te) := by
  intro pins s σ H D I h
  exact wpAny_Return_some (thn (he pins s σ H _ I h) fun v s1 ⟨x, H1, I1, r1, q1⟩ => ⟨x, σ, H1, I1, r1, q1⟩)
def tRetN : TS := fun D _ H => D.rt .non H
theorem ps_retN : PS X (.Return none pos) tRetN := fun _ _ σ H _ I h => wpAny_Return_none ⟨.non, σ, H, I, rfl, h⟩
def tIfS (c : TT) (t u : TS) : TS := fun D σ H => c σ H fun b H1 => if b = true then t D σ H1 else u D σ H1
theorem ps_if {c : Expr} {a b : List Stmt} {tc : TT} (hc : PT X c tc) (ha : PSs X a t) (hb : PSs X b u) : PS X (.If c a b pos) (tIfS tc t u) := by
  intro pins s σ H D I h
  refine wpAny_If (thn (hc pins s σ H _ I h) fun d s1 ⟨H1, I1, q1⟩ => ?_)
  cases d with
  | true => exact ha pins s1 σ H1 D I1 q1
  | false => exact hb pins s1 σ H1 D I1 q1
/-- code that the proof never comes to -/
def tNever : TS := fun _ _ _ => False
theorem ps_never : PS X st tNever := fun _ _ _ _ _ _ h => h.elim
theorem pss_never {sts : List Stmt} : PSs X sts tNever := fun _ _ _ _ _ _ h => h.elim
end

/-! ### targets -/
abbrev TG := V → St → Hp → (St → Hp → Prop) → Prop
abbrev TGs := List V → St → Hp → (St → Hp → Prop) → Prop
def PG (X : Cx) (target : Expr) (t : TG) : Prop :=
  ∀ (pins : List (Addr × Obj)) (s : Shared) (σ : St) (H : Hp) (v : V) (u : Value) (Q : St → Hp → Prop), Inv X pins σ H s → RelV v u → t v σ H Q →
    wpAny (model X.prog X.w) X.A (assign target X.env u) (fun _ s' => ∃ σ' H', Inv X pins σ' H' s' ∧ Q σ' H') X.xe s
/-- several targets, one after another -/
def PGs (X : Cx) (ts : List Expr) (t : TGs) : Prop :=
  ∀ (pins : List (Addr × Obj)) (s : Shared) (σ : St) (H : Hp) (vs : List V) (us : List Value) (Q : St → Hp → Prop), Inv X pins σ H s → Vals vs us → t vs σ H Q →
    wpAny (model X.prog X.w) X.A (assignInOrder ((assignEach ts X.env).map (·.2)) us) (fun _ s' => ∃ σ' H', Inv X pins σ' H' s' ∧ Q σ' H') X.xe s
/-- o[i] = v, by values -/
abbrev TSet := V → V → V → Hp → (Hp → Prop) → Prop
def PSet (X : Cx) (t : TSet) : Prop :=
  ∀ (pins : List (Addr × Obj)) (s : Shared) (σ : St) (H : Hp) (o i v : V) (ov iv u : Value) (Q : Hp → Prop), Inv X pins σ H s → RelV o ov → RelV i iv → RelV v u → t o i v H Q →
    wpAny (model X.prog X.w) X.A (setItem ov iv u) (fun _ s' => ∃ H', Inv X pins σ H' s' ∧ Q H') X.xe s
/-- a op= b, by values -/
abbrev TIp := V → V → Hp → VK → Prop
def PIp (X : Cx) (op : Operator) (t : TIp) : Prop :=
  ∀ (pins : List (Addr × Obj)) (s : Shared) (σ : St) (H : Hp) (x y : V) (v u : Value) (Q : VK), Inv X pins σ H s → RelV x v → RelV y u → t x y H Q →
    wpAny (model X.prog X.w) X.A (inplaceOp op v u) (EP X pins σ Q) X.xe s
section
variable {X : Cx} {pos : Pos}
def gName (i : Nat) : TG := fun v σ H Q => Q (σ.set i (some v)) H
theorem pg_name {i : Nat} {x : Str} (hN : X.N.Nodup) (hi : X.N[i]? = some x) (hx : Loc X.env.scope x) (hf : X.fn x = true ∨ X.env.scope.names.lookup x = some .local := by first | exact .inl rfl | exact .inr rfl | assumption) : PG X (.Name x pos) (gName i) := by
  intro pins s σ H v u Q I r h
  exact wpAny_assign_Name (store_ok I hN hi hx r (fun s' I' => ⟨_, H, I', h⟩) hf)
def gNil : TGs := fun vs σ H Q => vs = [] ∧ Q σ H
def gCons (t : TG) (u : TGs) : TGs := fun vs σ H Q => ∃ v r, vs = v :: r ∧ t v σ H fun σ' H' => u r σ' H' Q
theorem pgs_nil : PGs X [] gNil := by
  intro pins s σ H vs us Q I r h
  obtain ⟨e, h⟩ := h
  subst e
  cases r
  exact assignInOrder_nil ⟨σ, H, I, h⟩
theorem pgs_cons {e : Expr} {es : List Expr} {t : TG} {u : TGs} (h1 : PG X e t) (h2 : PGs X es u)
    (hs : (assignEach (e :: es) X.env).map (·.2) = assign e X.env :: (assignEach es X.env).map (·.2) := by rfl) : PGs X (e :: es) (gCons t u) := by
  intro pins s σ H vs us Q I r h
  obtain ⟨v, vr, e1, h⟩ := h
  subst e1
  cases r with
  | cons r rr =>
    rw [hs]
    refine assignInOrder_cons (thn (h1 pins s σ H _ _ _ I r h) fun _ s1 ⟨σ1, H1, I1, q1⟩ => ?_)
    exact h2 pins s1 σ1 H1 _ _ Q I1 rr q1
/-- (a, b, ..) = a tuple of that length -/
def gTup (K : PySem.W.Frag) (n : Nat) (t : TGs) : TG := fun v σ H Q => ∃ a xs, v = .ref a ∧ SqT K H a xs ∧ xs.length = n ∧ t xs σ H Q
theorem pg_tup {es : List Expr} {k : Nat} {t : TGs} {n : Nat} (hc : X.calm = true) (h : PGs X es t)
    (hn : (assignEach es X.env).length = n := by rfl) (hst : (assignEach es X.env).findIdx? (·.1) = none := by rfl) : PG X (.Tuple es k pos) (gTup X.K n t) := by
  intro pins s σ H v u Q I r hw
  obtain ⟨a, xs, e1, hq, hl, hw⟩ := hw
  subst e1
  cases r
  obtain ⟨its, rv, ht, hz⟩ := I.tuple hq
  refine assign_Tuple_tuple (I.ok.hd hc) ht (by simp [hn, ← hl, rv.length]) hst fun h' hx => ?_
  have I1 : Inv X pins σ H { s with heap := h' } := I.kept (t' := s.toks) fun b o e => hx b o (Nat.ne_of_lt (Heap.lt_size e)) e
  exact h pins _ σ H xs _ Q I1 (by simpa using rv) hw
/-- o[i] = .. -/
def gSub (to ti : TE) (t : TSet) : TG := fun v σ H Q => to σ H fun o H1 => ti σ H1 fun i H2 => t o i v H2 fun H3 => Q σ H3
theorem pg_sub {o i : Expr} {to ti : TE} {t : TSet} (ho : PE X o to) (hi : PE X i ti) (hs : PSet X t)
    (ha : ∀ v, assign (.Subscript o i pos) X.env v = (do
      let ov ← holding [v] (eval o X.env)
      let iv ← holding [v, ov] (eval i X.env)
      standAt pos
      holding [v, ov, iv] (setItem ov iv v)
      release [v, ov, iv] []) := by intro _; rfl) : PG X (.Subscript o i pos) (gSub to ti t) := by
  intro pins s σ H v u Q I r h
  rw [ha]
  refine wpAny_bind (wpAny_holding (thn (ho pins s σ H _ I h) fun ov s1 ⟨x, H1, I1, r1, q1⟩ => ?_))
  refine wpAny_bind (wpAny_holding (thn (hi pins s1 σ H1 _ I1 q1) fun iv s2 ⟨y, H2, I2, r2, q2⟩ => ?_))
  refine wpAny_bind (wpAny_standAt (wpAny_bind (wpAny_holding (thn (hs pins s2 σ H2 x y v ov iv u _ I2 r1 r2 r q2) fun _ s3 ⟨H3, I3, q3⟩ => ?_))))
  exact wpAny_release ⟨σ, H3, I3, q3⟩
/-- target = value -/
def tAsg (te : TE) (g : TG) : TS := fun D σ H => te σ H fun x H1 => g x σ H1 D.nx
theorem ps_asg {tg e : Expr} {te : TE} {g : TG} (he : PE X e te) (hg : PG X tg g) (hs : swapsWithSole [tg] e pos.line X.env = pure false := by rfl) (hw : swappedStores [tg] e X.env = pure none := by rfl)
    (h1 : (assignEach [tg] X.env).map (·.2) = [assign tg X.env] := by rfl) : PS X (.Assign [tg] e pos) (tAsg te g) := by
  intro pins s σ H D I h
  refine wpAny_Assign_stores (thn (he pins s σ H _ I h) fun v s1 ⟨x, H1, I1, r1, q1⟩ => ?_) hs hw
  rw [h1]
  exact thn (hg pins s1 σ H1 x v _ I1 r1 q1) fun _ s2 q => q
/-- name = value -/
theorem ps_set {i : Nat} {x : Str} {e : Expr} {te : TE} {pos' : Pos} (hN : X.N.Nodup) (hi : X.N[i]? = some x) (hx : Loc X.env.scope x) (he : PE X e te) (hs : swapsWith e (some (.Name x pos')) pos.line X.env = pure false := by rfl) (hf : X.fn x = true ∨ X.env.scope.names.lookup x = some .local := by first | exact .inl rfl | exact .inr rfl | assumption) :
    PS X (.Assign [.Name x pos'] e pos) (tAsg te (gName i)) := by
  intro pins s σ H D I h
  refine wpAny_Assign_Name (thn (he pins s σ H _ I h) fun v s1 ⟨y, H1, I1, r1, q1⟩ => ?_) hs
  exact store_ok I1 hN hi hx r1 (fun s2 I2 => ⟨_, H1, I2, q1⟩) hf
/-- a, b = x, y with plain local names: stored from the right; the pair itself is not tracked (the opening rows as in PyProof/Rows/TupAssign.lean:23) -/
def tPar (i j : Nat) (ta : TA) : TS := fun D σ H => ta σ H fun vs H1 => ∃ v w, vs = [v, w] ∧ D.nx ((σ.set i (some v)).set j (some w)) H1
theorem ps_par {i j : Nat} {x y : Str} {a b : Expr} {ta : TA} {px py pt : Pos} {kt k2 pt2} (hc : X.calm = true) (hN : X.N.Nodup) (hi : X.N[i]? = some x) (hj : X.N[j]? = some y) (hij : i ≠ j)
    (hx : X.env.scope.names.lookup x = some .local) (hy : X.env.scope.names.lookup y = some .local) (ha : PA X [a, b] ta)
    (hw : swappedStores [.Tuple [.Name x px, .Name y py] kt pt] (.Tuple [a, b] k2 pt2) X.env = pure (some [x, y]))
    (hs : swapsWithSole [.Tuple [.Name x px, .Name y py] kt pt] (.Tuple [a, b] k2 pt2) pos.line X.env = pure false := by rfl) :
    PS X (.Assign [.Tuple [.Name x px, .Name y py] kt pt] (.Tuple [a, b] k2 pt2) pos) (tPar i j ta) := by
  intro pins s σ H D I h
  rw [exec_Assign_arm]
  refine wpAny_bind (wpAny_standAt ?_)
  rw [hs]
  refine wpAny_bind (wpAny_pure ?_)
  rw [if_neg (by decide)]
  refine wpAny_bind (Tuple_ (thn (ha _ pins s σ H _ I h) fun us s1 ⟨vs, H1, I1, r1, q1⟩ => ?_))
  obtain ⟨v, w, e1, q1⟩ := q1
  subst e1
  obtain ⟨u1, u2, rfl, rv, rw'⟩ : ∃ u1 u2, us = [u1, u2] ∧ RelV v u1 ∧ RelV w u2 := by
    cases r1 with
    | cons p q =>
      cases q with
      | cons p' q' =>
        cases q'
        exact ⟨_, _, rfl, p, p'⟩
  refine wpAny_newObj_type ?_ (by show 2 ≤ sizeLine; decide)
  have I2 : Inv X pins σ H1 { s1 with heap := s1.heap.push { cls := .type "tuple", data := .seq [u1, u2].toArray } } := I1.kept (t' := s1.toks) fun b o e => Heap.get?_push_of_some _ e
  rw [hw]
  refine wpAny_bind (wpAny_pure ?_)
  show wpAny (model X.prog X.w) X.A (do rule "assign.swapped-stores"; let items ← unpackItems (.ref s1.heap.objs.size) 2 none; assignInOrder [fun v => bindName X.env y v, fun v => bindName X.env x v] items.reverse; pure Flow.next) _ _ _
  refine wpAny_bind (wpAny_rule (wpAny_bind (unpackItems_tuple (items := #[u1, u2]) (I.ok.hd hc) (IsTup.new s1.heap _) fun h' hx' => ?_)))
  have I3 := I2.kept (h' := h') (t' := s1.toks) fun b o e => hx' b o (Nat.ne_of_lt (Heap.lt_size e)) e
  show wpAny _ _ (assignInOrder [fun v => bindName X.env y v, fun v => bindName X.env x v] [u2, u1] >>= fun _ => pure Flow.next) _ _ _
  refine wpAny_bind (assignInOrder_cons (wpAny_bindName (store_ok I3 hN hj (.inl hy) rw' (fun s2 I4 => ?_) (.inr hy))))
  refine assignInOrder_cons (wpAny_bindName (store_ok I4 hN hi (.inl hx) rv (fun s3 I5 => assignInOrder_nil (wpAny_pure ?_)) (.inr hx)))
  rw [List.set_comm _ _ (Ne.symm hij)] at I5
  exact ⟨_, H1, I5, q1⟩
/-- name op= e -/
def tAug (i : Nat) (te : TE) (ti : TIp) : TS := fun D σ H => ∃ x, σ[i]? = some (some x) ∧ te σ H fun y H1 => ti x y H1 fun z H2 => D.nx (σ.set i (some z)) H2
theorem ps_aug {i : Nat} {x : Str} {e : Expr} {te : TE} {op : Operator} {ti : TIp} {pos' : Pos} (hN : X.N.Nodup) (hi : X.N[i]? = some x) (hx : Loc X.env.scope x) (he : PE X e te) (ho : PIp X op ti) (hf : X.fn x = true ∨ X.env.scope.names.lookup x = some .local := by first | exact .inl rfl | exact .inr rfl | assumption) :
    PS X (.AugAssign (.Name x pos') op e pos) (tAug i te ti) := by
  intro pins s σ H D I h
  obtain ⟨v, e1, h⟩ := h
  obtain ⟨m, hn, hl⟩ := I.loc
  have vis : Vis X.env.scope x := by rcases hx with k | k; exact .inl k; exact .inr (.inl k)
  obtain ⟨u, r, l⟩ := hl i x v hi e1 vis
  refine wpAny_AugAssign_Name ?_
  have go : wpAny (model X.prog X.w) X.A (eval e X.env) (fun w s₂ => wpAny (model X.prog X.w) X.A (inplaceOp op u w) (fun r s₃ => wpAny (model X.prog X.w) X.A (storeName X.env x r) (fun _ => SP X pins D .next) X.xe s₃) X.xe s₂) X.xe s := by
    refine thn (he pins s σ H _ I h) fun w s1 ⟨y, H1, I1, r1, q1⟩ => ?_
    refine thn (ho pins s1 σ H1 v y u w _ I1 r r1 q1) fun z s2 ⟨zv, H2, I2, r2, q2⟩ => ?_
    exact store_ok I2 hN hi hx r2 (fun s3 I3 => ⟨_, H2, I3, q2⟩) hf
  rcases l with ⟨hk, hm⟩ | ⟨hk, c, hc, hcell⟩
  · exact wpAny_loadName_local I.ok.kind hk hn hm go
  · rcases hk with hk | hk
    · exact wpAny_loadName_cell I.ok.kind hk hc hcell go
    · rcases hx with k | k
      · have : X.env.scope.names.lookup x = some .free := hk
        rw [k] at this; cases this
      · have : X.env.scope.names.lookup x = some .free := hk
        rw [k] at this; cases this
/-- o[i] op= e -/
def tAugS (to ti te : TE) (tget : V → V → Hp → VK → Prop) (tip : TIp) (tset : TSet) : TS := fun D σ H => to σ H fun o H1 => ti σ H1 fun i H2 => tget o i H2 fun x H3 => te σ H3 fun y H4 => tip x y H4 fun z H5 => tset o i z H5 fun H6 => D.nx σ H6
/-- o[i], by values -/
def PGet (X : Cx) (t : V → V → Hp → VK → Prop) : Prop :=
  ∀ (pins : List (Addr × Obj)) (s : Shared) (σ : St) (H : Hp) (o i : V) (ov iv : Value) (Q : VK), Inv X pins σ H s → RelV o ov → RelV i iv → t o i H Q →
    wpAny (model X.prog X.w) X.A (getItem ov iv) (EP X pins σ Q) X.xe s
theorem ps_augS {o i e : Expr} {to ti te : TE} {tget : V → V → Hp → VK → Prop} {tip : TIp} {tset : TSet} {op : Operator} {tpos : Pos} (ho : PE X o to) (hi : PE X i ti) (hg : PGet X tget) (he : PE X e te) (hp : PIp X op tip) (hs : PSet X tset)
    (ha : ∀ ov iv new, augStore i ov iv new = (do holding [new, ov, iv] (setItem ov iv new); release [new, ov, iv] []; pure .next) := by intros; rfl) : PS X (.AugAssign (.Subscript o i tpos) op e pos) (tAugS to ti te tget tip tset) := by
  intro pins s σ H D I h
  refine wpAny_AugAssign_SubscriptAny (thn (ho pins s σ H _ I h) fun ov s1 ⟨x1, H1, I1, r1, q1⟩ => ?_) ha
  refine thn (hi pins s1 σ H1 _ I1 q1) fun iv s2 ⟨x2, H2, I2, r2, q2⟩ => ?_
  refine thn (hg pins s2 σ H2 x1 x2 ov iv _ I2 r1 r2 q2) fun old s3 ⟨x3, H3, I3, r3, q3⟩ => ?_
  refine thn (he pins s3 σ H3 _ I3 q3) fun v s4 ⟨x4, H4, I4, r4, q4⟩ => ?_
  refine thn (hp pins s4 σ H4 x3 x4 old v _ I4 r3 r4 q4) fun new s5 ⟨x5, H5, I5, r5, q5⟩ => ?_
  exact thn (hs pins s5 σ H5 x1 x2 x5 ov iv new _ I5 r1 r2 r5 q5) fun _ s6 ⟨H6, I6, q6⟩ => ⟨σ, H6, I6, q6⟩
/-- ints -/
def ipI (f : Int → Int → Int) : TIp := fun x y H Q => ∃ i j, x = .int i ∧ y = .int j ∧ Q (.int (f i j)) H
theorem ip_add : PIp X .Add (ipI fun i j => i + j) := by
  intro pins s σ H x y v u Q I r1 r2 h
  obtain ⟨i, j, e1, e2, q⟩ := h
  subst e1; subst e2
  obtain ⟨t, rfl⟩ := r1
  obtain ⟨t', rfl⟩ := r2
  exact iadd_int ⟨.int _, H, I.tok _, ⟨_, rfl⟩, q⟩
theorem ip_sub : PIp X .Sub (ipI fun i j => i - j) := by
  intro pins s σ H x y v u Q I r1 r2 h
  obtain ⟨i, j, e1, e2, q⟩ := h
  subst e1; subst e2
  obtain ⟨t, rfl⟩ := r1
  obtain ⟨t', rfl⟩ := r2
  exact isub_int ⟨.int _, H, I.tok _, ⟨_, rfl⟩, q⟩
end

/-! ### while -/
section
variable {X : Cx} {pos : Pos}
/-- the invariant W with its measure -/
def tWhile (c : TT) (tb : TS) : TS := fun D σ H => ∃ W : Nat → St → Hp → Prop, (∃ m, W m σ H) ∧ ∀ m σ H, W m σ H →
  c σ H fun b H1 => if b = true then ∃ N : St → Hp → Prop, (∀ σ' H', N σ' H' → ∃ m', m' < m ∧ W m' σ' H') ∧ tb { D with nx := N, ct := N, bk := D.nx } σ H1 else D.nx σ H1
theorem ps_while {c : Expr} {body : List Stmt} {tc : TT} {tb : TS} (hp : PassesOwn (model X.prog X.w) X.A X.env X.xe) (hc : PT X c tc) (hb : PSs X body tb) : PS X (.While c body [] pos) (tWhile tc tb) := by
  intro pins s σ H D I h
  obtain ⟨W, ⟨m0, w0⟩, turn⟩ := h
  refine wpAny_While (codeAny_whileLoop (fun n s' => ∃ σ' H', Inv X pins σ' H' s' ∧ W n σ' H') ?_ m0 ⟨σ, H, I, w0⟩)
  rintro n s1 ⟨σ1, H1, I1, w1⟩
  refine wpAny_passesOwn hp (thn (hc pins s1 σ1 H1 _ I1 (turn n σ1 H1 w1)) fun b s2 ⟨H2, I2, q2⟩ => ?_)
  cases b with
  | true =>
    obtain ⟨N, hN, q2⟩ := q2
    rw [if_pos rfl]
    refine wpAny_passesOwn hp (thn (hb pins s2 σ1 H2 _ I2 q2) fun f s3 q3 => ?_)
    cases f with
    | next =>
      obtain ⟨σ3, H3, I3, n3⟩ := q3
      obtain ⟨m', hm, w3⟩ := hN σ3 H3 n3
      exact ⟨m', hm, σ3, H3, I3, w3⟩
    | cont =>
      obtain ⟨σ3, H3, I3, n3⟩ := q3
      obtain ⟨m', hm, w3⟩ := hN σ3 H3 n3
      exact ⟨m', hm, σ3, H3, I3, w3⟩
    | brk => exact q3
    | ret v => exact q3
  | false =>
    rw [if_neg Bool.false_ne_true]
    exact wpAny_execs_nil ⟨σ1, H2, I2, q2⟩
end

/-! ### what a loop or a comprehension walks -/
/-- at turn i: it yields x (the heap may grow), or it stops -/
structure It where
  go : Nat → Hp → Prop
  yld : Nat → Hp → V → Hp → Prop
  stop : Nat → Hp → Prop
/-- the iterator's own objects may turn: they are not the frame's, not pinned, younger than the entry (or a comprehension's own) -/
def FpOk (X : Cx) (pins : List (Addr × Obj)) (H : Hp) (b : Addr) : Prop :=
  H b = none ∧ b ≠ X.env.locals ∧ b ∉ X.fs ∧ (b ∈ X.ex ∨ X.s₀.heap.objs.size ≤ b) ∧ (∀ x c, X.env.cells.lookup x = some c → c ≠ b) ∧ ∀ p ∈ X.pn ++ pins, p.1 ≠ b
theorem Inv.fpOk {X : Cx} {pins : List (Addr × Obj)} {σ : St} {H H' : Hp} {s : Shared} {b : Addr} (I : Inv X pins σ H s) (hb : s.heap.objs.size ≤ b) (hn : H' b = none) : FpOk X pins H' b := by
  refine ⟨hn, Nat.ne_of_gt (Nat.lt_of_lt_of_le I.lt hb), I.nofs hb, .inr (Nat.le_trans I.sz hb), fun x c e z => ?_, fun p hp z => ?_⟩
  · obtain ⟨v, q⟩ := I.cell x c e
    exact absurd (Nat.lt_of_lt_of_le q.lt (by rw [z]; exact hb)) (Nat.lt_irrefl _)
  · exact absurd (Nat.lt_of_lt_of_le (Heap.lt_size (I.pin p hp).1) (by rw [z]; exact hb)) (Nat.lt_irrefl _)
structure Turn (P : Program) (w : World) (K : PySem.W.Frag) (tg : Expr) (J : It) (fp : List Addr) (it : Addr) (tn : Nat → Heap → Prop) : Prop where
  mem : it ∈ fp
  obj : ∀ i h, tn i h → ∀ b ∈ fp, ∃ o, h.get? b = some o ∧ ∀ v, o.data ≠ .cell v
  keep : ∀ i h h', tn i h → (∀ b ∈ fp, ∀ o, h.get? b = some o → h'.get? b = some o) → tn i h'
  item : ∀ (X : Cx), X.prog = P → X.w = w → X.K = K → X.calm = true → ∀ (i : Nat) (pins : List (Addr × Obj)) (s : Shared) (σ : St) (H : Hp) (E : Value → Shared → Prop), Inv X pins σ H s → (∀ b ∈ fp, FpOk X pins H b) → tn i s.heap → J.go i H →
    wpAny (model P w) X.A (pyNext (.ref it)) (fun r s1 => ∃ u, r = some u ∧
      wpAny (model P w) X.A (letOwnedTupleGo tg (.ref it) u) (fun _ s2 => ∃ x H', Inv X pins σ H' s2 ∧ RelV x u ∧ J.yld i H x H' ∧ tn (i + 1) s2.heap ∧ ∀ b ∈ fp, H' b = none) E s1) E s
  done : ∀ (X : Cx), X.prog = P → X.w = w → X.K = K → X.calm = true → ∀ (i : Nat) (pins : List (Addr × Obj)) (s : Shared) (σ : St) (H : Hp) (E : Value → Shared → Prop), Inv X pins σ H s → (∀ b ∈ fp, FpOk X pins H b) → tn i s.heap → J.stop i H →
    wpAny (model P w) X.A (pyNext (.ref it)) (fun r s1 => r = none ∧ Inv X pins σ H s1) E s
  self : ∀ (A : Around) (i : Nat) (s : Shared) (Q : Value → Shared → Prop) (E : Value → Shared → Prop), tn i s.heap → Q (.ref it) s → wpAny (model P w) A (pyIter (.ref it)) Q E s
abbrev TI := St → Hp → (It → Hp → Prop) → Prop
/-- an iterator has come -/
def PIE (X : Cx) (pins : List (Addr × Obj)) (σ : St) (tg : Expr) (R : It → Hp → Prop) (itv : Value) (s2 : Shared) : Prop :=
  ∃ (it : Addr) (fp : List Addr) (tn : Nat → Heap → Prop) (J : It) (H' : Hp), itv = .ref it ∧ Inv X pins σ H' s2 ∧ Turn X.prog X.w X.K tg J fp it tn ∧ tn 0 s2.heap ∧ (∀ b ∈ fp, FpOk X pins H' b) ∧ R J H'
def PI (X : Cx) (tg iter : Expr) (wi : TI) : Prop :=
  ∀ (pins : List (Addr × Obj)) (s : Shared) (σ : St) (H : Hp) (R : It → Hp → Prop), Inv X pins σ H s → wi σ H R →
    wpAny (model X.prog X.w) X.A (eval iter X.env) (fun v s1 => wpAny (model X.prog X.w) X.A (pyIter v) (PIE X pins σ tg R) X.xe s1) X.xe s

/-- the step ahead of the store is nothing for an iterator that keeps no tuple -/
theorem go_of {M : Model} {A : Around} {E : Value → Shared → Prop} {s : Shared} {tg : Expr} {it : Addr} {u : Value} {o : Obj} {n : String} {vs : Array Value} {Q : Unit → Shared → Prop} (ho : s.heap.get? it = some o) (hc : o.cls = .type n) (hd : o.data = .fields vs)
    (hn : ["enumerate", "zip", "dict_itemiterator", "dict_reverseitemiterator", "odict_iterator", "itertools.zip_longest", "itertools.pairwise"].contains n = false) (hQ : Q () s) : wpAny M A (letOwnedTupleGo tg (.ref it) u) Q E s := by
  unfold letOwnedTupleGo
  cases tg <;> first
    | exact wpAny_pure hQ
    | (cases u <;> first
        | exact wpAny_pure hQ
        | (refine wpAny_bind (wpAny_load ho ?_)
           rw [hc, hd]
           show wpAny M A (if (["enumerate", "zip", "dict_itemiterator", "dict_reverseitemiterator", "odict_iterator", "itertools.zip_longest", "itertools.pairwise"].contains n && vs[0]? == some (rawInt _)) = true then _ else _) Q E s
           rw [if_neg (by intro h; rw [hn, Bool.false_and] at h; cases h)]
           exact wpAny_pure hQ))

/-- the list at a, as it stands at each turn (a loop may append to it) -/
def Itl (K : PySem.W.Frag) (a : Addr) : It :=
  ⟨fun i H => ∃ xs x, SqL K H a xs ∧ xs[i]? = some x, fun i H x H' => H' = H ∧ ∀ xs, SqL K H a xs → xs[i]? = some x, fun i H => ∃ xs, SqL K H a xs ∧ xs.length ≤ i⟩
def Itt (K : PySem.W.Frag) (a : Addr) : It :=
  ⟨fun i H => ∃ xs x, SqT K H a xs ∧ xs[i]? = some x, fun i H x H' => H' = H ∧ ∀ xs, SqT K H a xs → xs[i]? = some x, fun i H => ∃ xs, SqT K H a xs ∧ xs.length ≤ i⟩
/-- lo, lo + 1, .. (n of them) -/
def Itr (lo : Int) (n : Nat) : It := ⟨fun i _ => i < n, fun i H x H' => H' = H ∧ x = .int (lo + i), fun i _ => n ≤ i⟩
theorem turn_list {P : Program} {w : World} {K : PySem.W.Frag} {tg : Expr} (a it : Addr) : Turn P w K tg (Itl K a) [it] it (fun i h => h.IsListIter it a i) where
  mem := by simp
  obj := fun i h st b hb => by
    have e : b = it := by simpa using hb
    subst e
    obtain ⟨o, e, c, d⟩ := st
    exact ⟨o, e, fun v z => by rw [d] at z; cases z⟩
  keep := fun i h h' st k => st.at fun o e => k it (by simp) o e
  item := by
    intro X hP hw hK hc i pins s σ H E I hf st hg
    subst hP hw hK
    obtain ⟨xs, x, hq, hx⟩ := hg
    obtain ⟨its, rv, p, hz⟩ := I.list hq
    obtain ⟨u, hu, ru⟩ := rv.get hx
    obtain ⟨f0, f1, f2, f3, f4, f5⟩ := hf it (by simp)
    refine wpAny_pyNext_list_item st p.isList (x := u) (by simpa using hu) fun h' st' sb => ?_
    have I1 : Inv X pins σ H { s with heap := h' } := I.turned (t' := s.toks) (fun b o hb e => (sb.2 b hb).trans e) f0 f1 f3 f4 f5
    obtain ⟨o, e, c, d⟩ := id st'
    exact ⟨u, rfl, go_of (s := { s with heap := h' }) e c d (by decide) ⟨x, H, I1, ru, ⟨rfl, fun ys hy => by rw [I.list_inj hy hq]; exact hx⟩, st', fun b hb => (hf b hb).1⟩⟩
  done := by
    intro X hP hw hK hc i pins s σ H E I hf st hg
    subst hP hw hK
    obtain ⟨xs, hq, hx⟩ := hg
    obtain ⟨its, rv, p, hz⟩ := I.list hq
    obtain ⟨f0, f1, f2, f3, f4, f5⟩ := hf it (by simp)
    have hl := rv.length
    exact wpAny_pyNext_list_end (I.ok.hd hc) st p.isList (by simp; omega) fun h' eb => ⟨rfl, I.turned (t' := s.toks) (fun b o hb e => eb b o hb e) f0 f1 f3 f4 f5⟩
  self := fun _ _ _ _ _ st h => wpAny_pyIter_listiter st h
theorem turn_tuple {P : Program} {w : World} {K : PySem.W.Frag} {tg : Expr} (a it : Addr) : Turn P w K tg (Itt K a) [it] it (fun i h => h.IsTupleIter it a i) where
  mem := by simp
  obj := fun i h st b hb => by
    have e : b = it := by simpa using hb
    subst e
    obtain ⟨o, e, c, d⟩ := st
    exact ⟨o, e, fun v z => by rw [d] at z; cases z⟩
  keep := fun i h h' st k => st.at fun o e => k it (by simp) o e
  item := by
    intro X hP hw hK hc i pins s σ H E I hf st hg
    subst hP hw hK
    obtain ⟨xs, x, hq, hx⟩ := hg
    obtain ⟨its, rv, p, hz⟩ := I.tuple hq
    obtain ⟨u, hu, ru⟩ := rv.get hx
    obtain ⟨f0, f1, f2, f3, f4, f5⟩ := hf it (by simp)
    refine wpAny_pyNext_tuple_item st (show s.heap.IsTuple a its.toArray from p) (x := u) (by simpa using hu) fun h' st' sb => ?_
    have I1 : Inv X pins σ H { s with heap := h' } := I.turned (t' := s.toks) (fun b o hb e => (sb.2 b hb).trans e) f0 f1 f3 f4 f5
    obtain ⟨o, e, c, d⟩ := id st'
    exact ⟨u, rfl, go_of (s := { s with heap := h' }) e c d (by decide) ⟨x, H, I1, ru, ⟨rfl, fun ys hy => by rw [I.tuple_inj hy hq]; exact hx⟩, st', fun b hb => (hf b hb).1⟩⟩
  done := by
    intro X hP hw hK hc i pins s σ H E I hf st hg
    subst hP hw hK
    obtain ⟨xs, hq, hx⟩ := hg
    obtain ⟨its, rv, p, hz⟩ := I.tuple hq
    obtain ⟨f0, f1, f2, f3, f4, f5⟩ := hf it (by simp)
    have hl := rv.length
    exact wpAny_pyNext_tuple_end (I.ok.hd hc) st (show s.heap.IsTuple a its.toArray from p) (by simp; omega) fun h' eb => ⟨rfl, I.turned (t' := s.toks) (fun b o hb e => eb b o hb e) f0 f1 f3 f4 f5⟩
  self := fun _ _ _ _ _ st h => wpAny_pyIter_tupleiter st h
theorem turn_range {P : Program} {w : World} {K : PySem.W.Frag} {tg : Expr} (it : Addr) (lo : Int) (n : Nat) : Turn P w K tg (Itr lo n) [it] it (fun i h => IsRangeIter h it (lo + (i : Nat) * 1) ((n : Int) - (i : Nat)) 1) where
  mem := by simp
  obj := fun i h st b hb => by
    have e : b = it := by simpa using hb
    subst e
    exact ⟨_, st, fun v z => by
      have z' : Data.fields _ = Data.cell v := z
      cases z'⟩
  keep := fun i h h' st k => k it (by simp) _ st
  item := by
    intro X hP hw hK hc i pins s σ H E I hf st hg
    subst hP hw hK
    obtain ⟨f0, f1, f2, f3, f4, f5⟩ := hf it (by simp)
    have W := Walks.range (prog := X.prog) (w := X.w) (I.ok.hd hc) it lo 1 n
    refine W.item i s _ _ hg st fun v h' tk hv st' kk => ?_
    obtain ⟨t, rfl⟩ := hv
    have I1 : Inv X pins σ H { s with heap := h', toks := tk } := I.turned (fun b o hb e => kk b o (by simpa using hb) e) f0 f1 f3 f4 f5
    refine ⟨_, rfl, go_of (s := { s with heap := h', toks := tk }) (n := "range_iterator") st' rfl rfl (by decide) ⟨.int (lo + i), H, I1, ⟨t, ?_⟩, ⟨rfl, rfl⟩, st', fun b hb => (hf b hb).1⟩⟩
    rw [Int.mul_one]
  done := by
    intro X hP hw hK hc i pins s σ H E I hf st hg
    subst hP hw hK
    obtain ⟨f0, f1, f2, f3, f4, f5⟩ := hf it (by simp)
    exact wpAny_pyNext_range_end (I.ok.hd hc) st (by have : n ≤ i := hg; omega) fun h' eb => ⟨rfl, I.turned (t' := s.toks) (fun b o hb e => eb b o hb e) f0 f1 f3 f4 f5⟩
  self := fun _ _ _ _ _ st h => wpAny_pyIter_rangeiter st h
end L2

namespace L2
open PySem PySem.Spec PyProof.Rows
section
variable {X : Cx} {tg : Expr}
def iList (K : PySem.W.Frag) (tl : TE) : TI := fun σ H R => tl σ H fun x H1 => ∃ a, x = .ref a ∧ (∃ xs, SqL K H1 a xs) ∧ R (Itl K a) H1
def iTup (K : PySem.W.Frag) (tl : TE) : TI := fun σ H R => tl σ H fun x H1 => ∃ a, x = .ref a ∧ (∃ xs, SqT K H1 a xs) ∧ R (Itt K a) H1
theorem pi_list {l : Expr} {tl : TE} (hl : PE X l tl) : PI X tg l (iList X.K tl) := by
  intro pins s σ H R I h
  refine thn (hl pins s σ H _ I h) fun v s1 ⟨x, H1, I1, r1, q1⟩ => ?_
  obtain ⟨a, e, ⟨xs, hq⟩, q⟩ := q1
  subst e
  cases r1
  obtain ⟨its, rv, p, hz⟩ := I1.list hq
  refine wpAny_pyIter_list p.isList ?_
  refine ⟨s1.heap.objs.size, [s1.heap.objs.size], _, _, H1, rfl, I1.kept (t' := s1.toks) fun b o e => Heap.get?_push_of_some _ e, turn_list a _, ⟨_, Heap.get?_push_size _ rfl, rfl, rfl⟩, fun b hb => ?_, q⟩
  have e : b = s1.heap.objs.size := by simpa using hb
  subst e
  exact I1.fpOk (Nat.le_refl _) (I1.hok.fresh (Nat.le_refl _))
theorem pi_tup {l : Expr} {tl : TE} (hl : PE X l tl) : PI X tg l (iTup X.K tl) := by
  intro pins s σ H R I h
  refine thn (hl pins s σ H _ I h) fun v s1 ⟨x, H1, I1, r1, q1⟩ => ?_
  obtain ⟨a, e, ⟨xs, hq⟩, q⟩ := q1
  subst e
  cases r1
  obtain ⟨its, rv, p, hz⟩ := I1.tuple hq
  refine wpAny_pyIter_tuple (show s1.heap.IsTuple a its.toArray from p) ?_
  refine ⟨s1.heap.objs.size, [s1.heap.objs.size], _, _, H1, rfl, I1.kept (t' := s1.toks) fun b o e => Heap.get?_push_of_some _ e, turn_tuple a _, ⟨_, Heap.get?_push_size _ rfl, rfl, rfl⟩, fun b hb => ?_, q⟩
  have e : b = s1.heap.objs.size := by simpa using hb
  subst e
  exact I1.fpOk (Nat.le_refl _) (I1.hok.fresh (Nat.le_refl _))
/-- a range object just made, walked -/
theorem range_it {pins : List (Addr × Obj)} {σ : St} {H : Hp} {s : Shared} {R : It → Hp → Prop} {E : Value → Shared → Prop} {lo hi : Int} {t u v : Tok} {tk : Nat} (I : Inv X pins σ H s) (h1 : -(2 ^ 62) ≤ lo) (h2 : lo < 2 ^ 62) (h3 : -(2 ^ 62) ≤ hi) (h4 : hi < 2 ^ 62)
    (q : R (Itr lo (hi - lo).toNat) H) : wpAny (model X.prog X.w) X.A (pyIter (.ref s.heap.objs.size)) (PIE X pins σ tg R) E { s with heap := s.heap.push { cls := .type "range", data := .fields #[.int lo t, .int hi u, .int 1 v] }, toks := tk } := by
  refine wpAny_pyIter_range (IsRange.new ..) (small_one h1 h2 h3 h4) ?_
  have I1 : Inv X pins σ H { s with heap := s.heap.push { cls := .type "range", data := .fields #[.int lo t, .int hi u, .int 1 v] }, toks := tk } := I.kept fun b o e => Heap.get?_push_of_some _ e
  refine ⟨(s.heap.push { cls := .type "range", data := .fields #[.int lo t, .int hi u, .int 1 v] }).objs.size, [(s.heap.push { cls := .type "range", data := .fields #[.int lo t, .int hi u, .int 1 v] }).objs.size], _, _, H, rfl,
    I1.kept (t' := tk) fun b o e => Heap.get?_push_of_some _ e, turn_range _ lo (hi - lo).toNat, ?_, fun b hb => ?_, q⟩
  · have e1 : lo + ((0 : Nat) : Int) * 1 = lo := by simp
    have e2 : (((hi - lo).toNat : Nat) : Int) - ((0 : Nat) : Int) = Builtin.Range.rangeSize lo hi 1 := by rw [rangeSize_one]; split <;> omega
    show IsRangeIter _ _ (lo + ((0 : Nat) : Int) * 1) ((((hi - lo).toNat : Nat) : Int) - ((0 : Nat) : Int)) 1
    rw [e1, e2]
    exact Heap.get?_push_size _ rfl
  · have e : b = (s.heap.push { cls := .type "range", data := .fields #[.int lo t, .int hi u, .int 1 v] }).objs.size := by simpa using hb
    subst e
    exact I1.fpOk (Nat.le_refl _) (I1.hok.fresh (Nat.le_refl _))
def iRng1 (ta : TA) : TI := fun σ H R => ta σ H fun vs H1 => ∃ j : Int, vs = [.int j] ∧ -(2 ^ 62) ≤ j ∧ j < 2 ^ 62 ∧ R (Itr 0 j.toNat) H1
def iRng2 (ta : TA) : TI := fun σ H R => ta σ H fun vs H1 => ∃ i j : Int, vs = [.int i, .int j] ∧ (-(2 ^ 62) ≤ i ∧ i < 2 ^ 62 ∧ -(2 ^ 62) ≤ j ∧ j < 2 ^ 62) ∧ R (Itr i (j - i).toNat) H1
theorem pi_range1 {a : Expr} {ta : TA} {p pos : Pos} (hg : Gl X "range") (hm : X.mg "range" = none) (ha : PA X [a] ta) (hs : starEach [a] X.env = [(false, eval a X.env)] := by rfl) : PI X tg (.Call (.Name "range" p) [a] [] pos) (iRng1 ta) := by
  intro pins s σ H R I h
  refine Call_ (ld_blt I hg hm boot_range (PyProof.Rows.callWith_type1 (thn (ha pos pins s σ H _ I h) fun us s1 ⟨vs, H1, I1, r1, q1⟩ => ?_) hs rfl))
  obtain ⟨j, e, q1, q2, q⟩ := q1
  subst e
  cases r1 with
  | cons r rr =>
    cases rr
    obtain ⟨t, rfl⟩ := r
    exact call_range_1 (range_it I1 (by omega) (by omega) q1 q2 (by simpa using q))
theorem pi_range2 {a b : Expr} {ta : TA} {p pos : Pos} (hg : Gl X "range") (hm : X.mg "range" = none) (ha : PA X [a, b] ta) (hs : starEach [a, b] X.env = [(false, eval a X.env), (false, eval b X.env)] := by rfl) (hs2 : starEach [b] X.env = [(false, eval b X.env)] := by rfl) :
    PI X tg (.Call (.Name "range" p) [a, b] [] pos) (iRng2 ta) := by
  intro pins s σ H R I h
  refine Call_ (ld_blt I hg hm boot_range (PyProof.Rows.callWith_type1 (thn (ha pos pins s σ H _ I h) fun us s1 ⟨vs, H1, I1, r1, q1⟩ => ?_) (by rw [hs, hs2]) (by rw [hs2]; rfl)))
  obtain ⟨i, j, e, ⟨q1, q2, q3, q4⟩, q⟩ := q1
  subst e
  cases r1 with
  | cons r rr =>
    cases rr with
    | cons r' rr =>
      cases rr
      obtain ⟨t, rfl⟩ := r
      obtain ⟨t', rfl⟩ := r'
      exact call_range_2 (range_it I1 q1 q2 q3 q4 q)

/-! ### for -/
/-- W: the invariant by the turn and a measure; N: what the body is to reach -/
def tFor (wi : TI) (g : TG) (tb : TS) : TS := fun D σ H => wi σ H fun J H1 => ∃ W : Nat → Nat → St → Hp → Prop, (∃ m, W 0 m σ H1) ∧ ∀ i m σ H, W i m σ H →
  (J.stop i H ∧ D.nx σ H) ∨ (J.go i H ∧ ∃ N : St → Hp → Prop, (∀ σ' H', N σ' H' → ∃ m', m' < m ∧ W (i + 1) m' σ' H') ∧ ∀ x H', J.yld i H x H' → g x σ H' fun σ2 H2 => tb { D with nx := N, ct := N, bk := D.nx } σ2 H2)
/-- the records at fp as they stand -/
def pinsAt (fp : List Addr) (h : Heap) : List (Addr × Obj) := fp.filterMap fun b => (h.get? b).map fun o => (b, o)
theorem mem_pinsAt {fp : List Addr} {h : Heap} {b : Addr} {o : Obj} (hb : b ∈ fp) (e : h.get? b = some o) : (b, o) ∈ pinsAt fp h := List.mem_filterMap.mpr ⟨b, hb, by rw [e]; rfl⟩
theorem of_pinsAt {fp : List Addr} {h : Heap} {p : Addr × Obj} (hp : p ∈ pinsAt fp h) : p.1 ∈ fp ∧ h.get? p.1 = some p.2 := by
  obtain ⟨b, hb, e⟩ := List.mem_filterMap.mp hp
  cases q : h.get? b with
  | none => rw [q] at e; cases e
  | some o =>
    rw [q] at e
    have e' : (b, o) = p := Option.some.inj e
    subst e'
    exact ⟨hb, q⟩
theorem Inv.pinned {pins : List (Addr × Obj)} {σ : St} {H : Hp} {s : Shared} {fp : List Addr} (I : Inv X pins σ H s) (hf : ∀ b ∈ fp, FpOk X pins H b) (ho : ∀ b ∈ fp, ∃ o, s.heap.get? b = some o ∧ ∀ v, o.data ≠ .cell v) : Inv X (pins ++ pinsAt fp s.heap) σ H s :=
  I.pins_of fun p hp => (List.mem_append.mp hp).elim (fun z => I.pin p (List.mem_append_right _ z)) fun z => by
    obtain ⟨hb, e⟩ := of_pinsAt z
    obtain ⟨f0, f1, f2, _⟩ := hf p.1 hb
    obtain ⟨o, e', d⟩ := ho p.1 hb
    rw [e] at e'; cases e'
    exact ⟨e, f0, f1, f2, d⟩
theorem Inv.unpinned {pins pl : List (Addr × Obj)} {σ : St} {H : Hp} {s : Shared} (I : Inv X (pins ++ pl) σ H s) : Inv X pins σ H s := I.pins_of fun p hp => I.pin p (List.mem_append_right _ (List.mem_append_left _ hp))
theorem ps_for {iter : Expr} {body : List Stmt} {wi : TI} {g : TG} {tb : TS} {pos : Pos} (hp : PassesOwn (model X.prog X.w) X.A X.env X.xe) (hc : X.calm = true) (hi : PI X tg iter wi) (hg : PG X tg g) (hb : PSs X body tb)
    (hs : ∀ x, foldedSetIterable iter X.env x = pure x := by intro _; rfl) : PS X (.For tg iter body [] pos) (tFor wi g tb) := by
  intro pins s σ H D I h
  refine wpAny_For (thn (hi pins s σ H _ I h) fun v s1 h1 => thn h1 fun itv s2 h2 => ?_) hs
  obtain ⟨it, fp, tn, J, H2, e, I2, T, st2, f2, W, ⟨m0, w0⟩, turn⟩ := h2
  subst e
  -- what stays true of the iterator's objects through the loop
  have stat : ∀ {H' : Hp}, (∀ b ∈ fp, H' b = none) → ∀ b ∈ fp, FpOk X pins H' b := fun hn b hb => ⟨hn b hb, (f2 b hb).2⟩
  refine codeAny_forLoop_any (fun n s' => ∃ i σ' H', Inv X pins σ' H' s' ∧ tn i s'.heap ∧ (∀ b ∈ fp, H' b = none) ∧ W i n σ' H') ?_ m0 ⟨0, σ, H2, I2, st2, fun b hb => (f2 b hb).1, w0⟩
  rintro n s3 ⟨i, σ3, H3, I3, st3, fr3, w3⟩
  rcases turn i n σ3 H3 w3 with ⟨stop, qn⟩ | ⟨go, N, hN, step⟩
  · refine wpAny_passesOwn hp (thn (T.done X rfl rfl rfl hc i pins s3 σ3 H3 X.xe I3 (stat fr3) st3 stop) fun r s4 ⟨hr, I4⟩ => ?_)
    subst hr
    exact wpAny_execs_nil ⟨σ3, H3, I4, qn⟩
  · refine wpAny_passesOwn hp (thn (T.item X rfl rfl rfl hc i pins s3 σ3 H3 X.xe I3 (stat fr3) st3 go) fun r s4 ⟨u, hr, h4⟩ => ?_)
    subst hr
    refine wpAny_passesOwn hp (thn h4 fun _ s5 ⟨x, H5, I5, r5, y5, st5, fr5⟩ => ?_)
    have I5' := I5.pinned (stat fr5) (T.obj _ _ st5)
    refine wpAny_passesOwn hp (thn (hg _ s5 σ3 H5 x u _ I5' r5 (step x H5 y5)) fun _ s6 ⟨σ6, H6, I6, q6⟩ => ?_)
    refine wpAny_passesOwn hp (thn (hb _ s6 σ6 H6 _ I6 q6) fun f s7 q7 => ?_)
    have again : ∀ {σ7 : St} {H7 : Hp}, Inv X (pins ++ pinsAt fp s5.heap) σ7 H7 s7 → N σ7 H7 → ∃ m, m < n ∧ ∃ i σ' H', Inv X pins σ' H' s7 ∧ tn i s7.heap ∧ (∀ b ∈ fp, H' b = none) ∧ W i m σ' H' := fun {σ7 H7} I7 n7 => by
      obtain ⟨m', hm, w7⟩ := hN σ7 H7 n7
      refine ⟨m', hm, i + 1, σ7, H7, I7.unpinned, T.keep _ _ _ st5 fun b hb o e => (I7.pin (b, o) (List.mem_append_right _ (List.mem_append_right _ (mem_pinsAt hb e)))).1, fun b hb => ?_, w7⟩
      obtain ⟨o, e, d⟩ := T.obj _ _ st5 b hb
      exact (I7.pin (b, o) (List.mem_append_right _ (List.mem_append_right _ (mem_pinsAt hb e)))).2.1
    cases f with
    | next => obtain ⟨σ7, H7, I7, n7⟩ := q7; exact again I7 n7
    | cont => obtain ⟨σ7, H7, I7, n7⟩ := q7; exact again I7 n7
    | brk => obtain ⟨σ7, H7, I7, q7⟩ := q7; exact ⟨σ7, H7, I7.unpinned, q7⟩
    | ret v => obtain ⟨x7, σ7, H7, I7, r7, q7⟩ := q7; exact ⟨x7, σ7, H7, I7.unpinned, r7, q7⟩
end

/-! ### the forms one uses -/
/-- over a list that the body leaves as it is -/
theorem for_list {K : PySem.W.Frag} {a : Addr} {xs : List V} {g : TG} {tb : TS} {D : Ends} {σ : St} {H : Hp} (Pv : Nat → St → Hp → Prop) (h0 : Pv 0 σ H) (hl : ∀ i σ H, i ≤ xs.length → Pv i σ H → SqL K H a xs)
    (hs : ∀ i x σ H, xs[i]? = some x → Pv i σ H → g x σ H fun σ2 H2 => tb { D with nx := Pv (i + 1), ct := Pv (i + 1), bk := D.nx } σ2 H2) (hd : ∀ σ H, Pv xs.length σ H → D.nx σ H) :
    ∃ W : Nat → Nat → St → Hp → Prop, (∃ m, W 0 m σ H) ∧ ∀ i m σ H, W i m σ H →
      ((Itl K a).stop i H ∧ D.nx σ H) ∨ ((Itl K a).go i H ∧ ∃ N : St → Hp → Prop, (∀ σ' H', N σ' H' → ∃ m', m' < m ∧ W (i + 1) m' σ' H') ∧ ∀ x H', (Itl K a).yld i H x H' → g x σ H' fun σ2 H2 => tb { D with nx := N, ct := N, bk := D.nx } σ2 H2) := by
  refine ⟨fun i m σ H => m = xs.length - i ∧ i ≤ xs.length ∧ Pv i σ H, ⟨xs.length, by simp, Nat.zero_le _, h0⟩, ?_⟩
  rintro i m σ H ⟨rfl, hi, p⟩
  have q := hl i σ H hi p
  by_cases hlt : i < xs.length
  · refine .inr ⟨⟨xs, xs[i], q, by simp [hlt]⟩, Pv (i + 1), fun σ' H' p' => ⟨xs.length - (i + 1), by omega, rfl, hlt, p'⟩, fun x H' y => ?_⟩
    obtain ⟨e, y⟩ := y
    subst e
    exact hs i x σ _ (y xs q) p
  · have e : i = xs.length := by omega
    subst e
    exact .inl ⟨⟨xs, q, Nat.le_refl _⟩, hd σ H p⟩
theorem for_tup {K : PySem.W.Frag} {a : Addr} {xs : List V} {g : TG} {tb : TS} {D : Ends} {σ : St} {H : Hp} (Pv : Nat → St → Hp → Prop) (h0 : Pv 0 σ H) (hl : ∀ i σ H, i ≤ xs.length → Pv i σ H → SqT K H a xs)
    (hs : ∀ i x σ H, xs[i]? = some x → Pv i σ H → g x σ H fun σ2 H2 => tb { D with nx := Pv (i + 1), ct := Pv (i + 1), bk := D.nx } σ2 H2) (hd : ∀ σ H, Pv xs.length σ H → D.nx σ H) :
    ∃ W : Nat → Nat → St → Hp → Prop, (∃ m, W 0 m σ H) ∧ ∀ i m σ H, W i m σ H →
      ((Itt K a).stop i H ∧ D.nx σ H) ∨ ((Itt K a).go i H ∧ ∃ N : St → Hp → Prop, (∀ σ' H', N σ' H' → ∃ m', m' < m ∧ W (i + 1) m' σ' H') ∧ ∀ x H', (Itt K a).yld i H x H' → g x σ H' fun σ2 H2 => tb { D with nx := N, ct := N, bk := D.nx } σ2 H2) := by
  refine ⟨fun i m σ H => m = xs.length - i ∧ i ≤ xs.length ∧ Pv i σ H, ⟨xs.length, by simp, Nat.zero_le _, h0⟩, ?_⟩
  rintro i m σ H ⟨rfl, hi, p⟩
  have q := hl i σ H hi p
  by_cases hlt : i < xs.length
  · refine .inr ⟨⟨xs, xs[i], q, by simp [hlt]⟩, Pv (i + 1), fun σ' H' p' => ⟨xs.length - (i + 1), by omega, rfl, hlt, p'⟩, fun x H' y => ?_⟩
    obtain ⟨e, y⟩ := y
    subst e
    exact hs i x σ _ (y xs q) p
  · have e : i = xs.length := by omega
    subst e
    exact .inl ⟨⟨xs, q, Nat.le_refl _⟩, hd σ H p⟩
theorem for_range {lo : Int} {n : Nat} {g : TG} {tb : TS} {D : Ends} {σ : St} {H : Hp} (Pv : Nat → St → Hp → Prop) (h0 : Pv 0 σ H)
    (hs : ∀ i σ H, i < n → Pv i σ H → g (.int (lo + i)) σ H fun σ2 H2 => tb { D with nx := Pv (i + 1), ct := Pv (i + 1), bk := D.nx } σ2 H2) (hd : ∀ σ H, Pv n σ H → D.nx σ H) :
    ∃ W : Nat → Nat → St → Hp → Prop, (∃ m, W 0 m σ H) ∧ ∀ i m σ H, W i m σ H →
      ((Itr lo n).stop i H ∧ D.nx σ H) ∨ ((Itr lo n).go i H ∧ ∃ N : St → Hp → Prop, (∀ σ' H', N σ' H' → ∃ m', m' < m ∧ W (i + 1) m' σ' H') ∧ ∀ x H', (Itr lo n).yld i H x H' → g x σ H' fun σ2 H2 => tb { D with nx := N, ct := N, bk := D.nx } σ2 H2) := by
  refine ⟨fun i m σ H => m = n - i ∧ i ≤ n ∧ Pv i σ H, ⟨n, by simp, Nat.zero_le _, h0⟩, ?_⟩
  rintro i m σ H ⟨rfl, hi, p⟩
  by_cases hlt : i < n
  · refine .inr ⟨hlt, Pv (i + 1), fun σ' H' p' => ⟨n - (i + 1), by omega, rfl, hlt, p'⟩, fun x H' y => ?_⟩
    obtain ⟨e, y⟩ := y
    subst e y
    exact hs i σ _ hlt p
  · have e : i = n := by omega
    subst e
    exact .inl ⟨Nat.le_refl _, hd σ H p⟩
/-- while, by a word and a measure of the state -/
theorem while_by {c : TT} {tb : TS} {D : Ends} {σ : St} {H : Hp} (Pv : St → Hp → Prop) (μ : St → Hp → Nat) (h0 : Pv σ H)
    (hs : ∀ σ H, Pv σ H → c σ H fun b H1 => if b = true then tb { D with nx := fun σ' H' => Pv σ' H' ∧ μ σ' H' < μ σ H, ct := fun σ' H' => Pv σ' H' ∧ μ σ' H' < μ σ H, bk := D.nx } σ H1 else D.nx σ H1)
    (mono : ∀ σ H Q Q', (∀ b H1, Q b H1 → Q' b H1) → c σ H Q → c σ H Q') : tWhile c tb D σ H := by
  refine ⟨fun m σ H => m = μ σ H ∧ Pv σ H, ⟨_, rfl, h0⟩, ?_⟩
  rintro m σ H ⟨rfl, p⟩
  refine mono σ H _ _ (fun b H1 q => ?_) (hs σ H p)
  cases b with
  | true => exact ⟨_, fun σ' H' ⟨p', l⟩ => ⟨_, l, rfl, p'⟩, q⟩
  | false => exact q
end L2

namespace L2
open PySem PySem.Spec PyProof.Rows

abbrev R2 := V → V → Hp → VK → Prop
/-- a two-place operation on values: f is binaryOp op, inplaceOp op or compareOp op -/
def OpR (X : Cx) (f : Value → Value → Sem Value) (r : R2) : Prop :=
  ∀ (pins : List (Addr × Obj)) (s : Shared) (σ : St) (H : Hp) (x y : V) (v u : Value) (Q : VK), Inv X pins σ H s → RelV x v → RelV y u → r x y H Q →
    wpAny (model X.prog X.w) X.A (f v u) (EP X pins σ Q) X.xe s
/-- a one-place operation -/
def UnR (X : Cx) (f : Value → Sem Value) (r : V → Hp → VK → Prop) : Prop :=
  ∀ (pins : List (Addr × Obj)) (s : Shared) (σ : St) (H : Hp) (x : V) (v : Value) (Q : VK), Inv X pins σ H s → RelV x v → r x H Q →
    wpAny (model X.prog X.w) X.A (f v) (EP X pins σ Q) X.xe s
/-- a call of a value that is known (a builtin, a type) with values -/
def CallR (X : Cx) (f : Value) (r : List V → Hp → VK → Prop) : Prop :=
  ∀ (pins : List (Addr × Obj)) (s : Shared) (σ : St) (H : Hp) (xs : List V) (us : List Value) (Q : VK), Inv X pins σ H s → Vals xs us → r xs H Q →
    wpAny (model X.prog X.w) X.A (call f us) (EP X pins σ Q) X.xe s
/-- a value's truth -/
def TruR (X : Cx) (r : V → Hp → (Bool → Hp → Prop) → Prop) : Prop :=
  ∀ (pins : List (Addr × Obj)) (s : Shared) (σ : St) (H : Hp) (x : V) (v : Value) (Q : Bool → Hp → Prop), Inv X pins σ H s → RelV x v → r x H Q →
    wpAny (model X.prog X.w) X.A (truthy v) (TP X pins σ Q) X.xe s

def tOp (r : R2) (ta tb : TE) : TE := fun σ H Q => ta σ H fun x H1 => tb σ H1 fun y H2 => r x y H2 Q
def tUn (r : V → Hp → VK → Prop) (ta : TE) : TE := fun σ H Q => ta σ H fun x H1 => r x H1 Q
/-- ints in, under C, and a value out -/
def rI (C : Int → Int → Prop) (g : Int → Int → V) : R2 := fun x y H Q => ∃ i j, x = .int i ∧ y = .int j ∧ C i j ∧ Q (g i j) H
def rI0 (g : Int → Int → V) : R2 := fun x y H Q => ∃ i j, x = .int i ∧ y = .int j ∧ Q (g i j) H
def rU (g : Int → V) : V → Hp → VK → Prop := fun x H Q => ∃ i, x = .int i ∧ Q (g i) H

section
variable {X : Cx} {a b c : Expr} {ta tb tc : TE} {pos : Pos}

theorem binT (ha : PE X a ta) (hb : PE X b tb) {pins : List (Addr × Obj)} {s : Shared} {σ : St} {H : Hp} {R : V → V → Hp → Prop} (I : Inv X pins σ H s)
    (h : ta σ H fun x H1 => tb σ H1 fun y H2 => R x y H2) {Q : Value → Shared → Prop} {f : Value → Value → Sem Value}
    (hf : ∀ v u s2 x y H2, Inv X pins σ H2 s2 → RelV x v → RelV y u → R x y H2 → wpAny (model X.prog X.w) X.A (f v u) Q X.xe s2) :
    wpAny (model X.prog X.w) X.A (eval a X.env) (fun v s₁ => wpAny (model X.prog X.w) X.A (eval b X.env) (fun u s₂ => wpAny (model X.prog X.w) X.A (f v u) Q X.xe s₂) X.xe s₁) X.xe s := by
  refine thn (ha pins s σ H _ I h) fun v s1 ⟨x, H1, I1, r1, q1⟩ => ?_
  refine thn (hb pins s1 σ H1 _ I1 q1) fun u s2 ⟨y, H2, I2, r2, q2⟩ => ?_
  exact hf v u s2 x y H2 I2 r1 r2 q2

theorem pe_op {op : Operator} {r : R2} (ho : OpR X (binaryOp op) r) (ha : PE X a ta) (hb : PE X b tb) : PE X (.BinOp a op b pos) (tOp r ta tb) := by
  intro pins s σ H Q I h
  exact wpAny_BinOp (binT ha hb I h fun v u s2 x y H2 I2 rx ry q => ho pins s2 σ H2 x y v u Q I2 rx ry q)
theorem pe_un {op : UnaryOp} {r : V → Hp → VK → Prop} (ho : UnR X (unaryOp op) r) (ha : PE X a ta) : PE X (.UnaryOp op a pos) (tUn r ta) := by
  intro pins s σ H Q I h
  exact UnaryOp_ (thn (ha pins s σ H _ I h) fun v s1 ⟨x, H1, I1, r1, q1⟩ => ho pins s1 σ H1 x v Q I1 r1 q1)
/-- a op= e at a name: the name's slot i -/
theorem augR {op : Operator} {r : R2} (ho : OpR X (inplaceOp op) r) {pins : List (Addr × Obj)} {s : Shared} {σ : St} {H : Hp} {x y : V} {v u : Value} {Q : VK} (I : Inv X pins σ H s)
    (rx : RelV x v) (ry : RelV y u) (q : r x y H Q) : wpAny (model X.prog X.w) X.A (inplaceOp op v u) (EP X pins σ Q) X.xe s := ho pins s σ H x y v u Q I rx ry q

/-! ### ints -/
theorem opI {f : Value → Value → Sem Value} {C : Int → Int → Prop} {g : Int → Int → Int}
    (rule : ∀ (i j : Int) (t u : Tok) (s : Shared) (Q : Value → Shared → Prop) (E : Value → Shared → Prop), C i j → Q (.int (g i j) s.toks) { s with toks := s.toks + 1 } → wpAny (model X.prog X.w) X.A (f (.int i t) (.int j u)) Q E s) :
    OpR X f (rI C fun i j => .int (g i j)) := by
  intro pins s σ H x y v u Q I rx ry h
  obtain ⟨i, j, rfl, rfl, hc, q⟩ := h
  obtain ⟨t, rfl⟩ := rx
  obtain ⟨t', rfl⟩ := ry
  exact rule i j t t' s _ _ hc ⟨.int (g i j), H, I.tok _, ⟨_, rfl⟩, q⟩
theorem opI0 {f : Value → Value → Sem Value} {g : Int → Int → Int}
    (rule : ∀ (i j : Int) (t u : Tok) (s : Shared) (Q : Value → Shared → Prop) (E : Value → Shared → Prop), Q (.int (g i j) s.toks) { s with toks := s.toks + 1 } → wpAny (model X.prog X.w) X.A (f (.int i t) (.int j u)) Q E s) :
    OpR X f (rI0 fun i j => .int (g i j)) := by
  intro pins s σ H x y v u Q I rx ry h
  obtain ⟨i, j, rfl, rfl, q⟩ := h
  obtain ⟨t, rfl⟩ := rx
  obtain ⟨t', rfl⟩ := ry
  exact rule i j t t' s _ _ ⟨.int (g i j), H, I.tok _, ⟨_, rfl⟩, q⟩
theorem opB0 {f : Value → Value → Sem Value} {g : Int → Int → Bool}
    (rule : ∀ (i j : Int) (t u : Tok) (s : Shared) (Q : Value → Shared → Prop) (E : Value → Shared → Prop), Q (.bool (g i j)) s → wpAny (model X.prog X.w) X.A (f (.int i t) (.int j u)) Q E s) :
    OpR X f (rI0 fun i j => .bl (g i j)) := by
  intro pins s σ H x y v u Q I rx ry h
  obtain ⟨i, j, rfl, rfl, q⟩ := h
  obtain ⟨t, rfl⟩ := rx
  obtain ⟨t', rfl⟩ := ry
  exact rule i j t t' s _ _ ⟨.bl (g i j), H, I, rfl, q⟩

def CDiv (i j : Int) : Prop := 0 < j ∧ j < 1073741824
def CDivN (i j : Int) : Prop := j ≠ 0 ∧ j.natAbs < 1073741824
def CPow (i j : Int) : Prop := 0 ≤ j ∧ j ≤ 1000000 ∧ i.natAbs < 2 ^ 64
def CMul (i j : Int) : Prop := (-(2 ^ 64) < i ∧ i < 2 ^ 64) ∨ (-(2 ^ 64) < j ∧ j < 2 ^ 64)
theorem CMul.ok {i j : Int} (h : CMul i j) : IntMulOk i j := by
  rcases h with ⟨h1, h2⟩ | ⟨h1, h2⟩
  · exact .of_left (intBits_le_64 h1 h2)
  · exact .of_right (intBits_le_64 h1 h2)
theorem two_pow_nn (k : Nat) : (0 : Int) ≤ 2 ^ k := by
  rw [two_pow_cast]
  exact Int.natCast_nonneg _

theorem op_add : OpR X (binaryOp .Add) (rI0 fun i j => .int (i + j)) := opI0 fun _ _ _ _ _ _ _ q => add_int q
theorem op_sub : OpR X (binaryOp .Sub) (rI0 fun i j => .int (i - j)) := opI0 fun _ _ _ _ _ _ _ q => sub_int q
theorem op_mul : OpR X (binaryOp .Mult) (rI CMul fun i j => .int (i * j)) := opI fun _ _ _ _ _ _ _ hc q => mul_int q hc.ok
/-- // by a positive divisor -/
theorem op_fdiv : OpR X (binaryOp .FloorDiv) (rI CDiv fun i j => .int (i / j)) := opI fun i j _ _ _ _ _ hc q => by
  have h1 : (0 : Int) < j := hc.1
  have h2 : j < 1073741824 := hc.2
  exact floordiv_int (by omega) (by rw [Int.fdiv_eq_ediv_of_nonneg i (by omega)]; exact q) (.inl (PyProof.noPylong_small (by omega)))
theorem op_fdivN : OpR X (binaryOp .FloorDiv) (rI CDivN fun i j => .int (i.fdiv j)) := opI fun _ _ _ _ _ _ _ hc q => floordiv_int hc.1 q (.inl (PyProof.noPylong_small hc.2))
/-- % by a positive divisor of any size -/
theorem op_mod : OpR X (binaryOp .Mod) (rI (fun _ j => 0 < j) fun i j => .int (i % j)) := opI fun i j _ _ _ _ _ hc q => by
  have h1 : (0 : Int) < j := hc
  exact mod_int' (by omega) (by rw [Int.fmod_eq_emod_of_nonneg i (by omega)]; exact q)
theorem op_modN : OpR X (binaryOp .Mod) (rI (fun _ j => j ≠ 0) fun i j => .int (i.fmod j)) := opI fun _ _ _ _ _ _ _ hc q => mod_int' hc q
theorem op_pow : OpR X (binaryOp .Pow) (rI CPow fun i j => .int (i ^ j.toNat)) := opI fun _ _ _ _ _ _ _ hc q => pow_int_small hc.1 hc.2.1 hc.2.2 q
theorem op_shl : OpR X (binaryOp .LShift) (rI CPow fun i j => .int (i * 2 ^ j.toNat)) := opI fun _ _ _ _ _ _ _ hc q => lshift_int_small hc.1 hc.2.1 hc.2.2 q
theorem op_shr : OpR X (binaryOp .RShift) (rI (fun _ j => 0 ≤ j) fun i j => .int (i / 2 ^ j.toNat)) := opI fun i j _ _ _ _ _ hc q =>
  rshift_int hc (by rw [Int.fdiv_eq_ediv_of_nonneg i (two_pow_nn _)]; exact q)
theorem op_and : OpR X (binaryOp .BitAnd) (rI0 fun i j => .int (Builtin.bitAnd i j)) := opI0 fun _ _ _ _ _ _ _ q => and_int q
theorem op_or : OpR X (binaryOp .BitOr) (rI0 fun i j => .int (Builtin.bitOr i j)) := opI0 fun _ _ _ _ _ _ _ q => or_int q
theorem op_xor : OpR X (binaryOp .BitXor) (rI0 fun i j => .int (Builtin.bitXor i j)) := opI0 fun _ _ _ _ _ _ _ q => xor_int q

theorem iop_add : OpR X (inplaceOp .Add) (rI0 fun i j => .int (i + j)) := opI0 fun _ _ _ _ _ _ _ q => iadd_int q
theorem iop_sub : OpR X (inplaceOp .Sub) (rI0 fun i j => .int (i - j)) := opI0 fun _ _ _ _ _ _ _ q => isub_int q
theorem iop_mul : OpR X (inplaceOp .Mult) (rI CMul fun i j => .int (i * j)) := opI fun _ _ _ _ _ _ _ hc q => imul_int q hc.ok
theorem iop_fdiv : OpR X (inplaceOp .FloorDiv) (rI CDiv fun i j => .int (i / j)) := opI fun i j _ _ _ _ _ hc q => by
  have h1 : (0 : Int) < j := hc.1
  have h2 : j < 1073741824 := hc.2
  exact ifloordiv_int (by omega) (by rw [Int.fdiv_eq_ediv_of_nonneg i (by omega)]; exact q) (.inl (PyProof.noPylong_small (by omega)))
theorem iop_mod : OpR X (inplaceOp .Mod) (rI (fun _ j => 0 < j) fun i j => .int (i % j)) := opI fun i j _ _ _ _ _ hc q => by
  have h1 : (0 : Int) < j := hc
  exact imod_int (by omega) (by rw [Int.fmod_eq_emod_of_nonneg i (by omega)]; exact q)
theorem iop_shl : OpR X (inplaceOp .LShift) (rI CPow fun i j => .int (i * 2 ^ j.toNat)) := opI fun _ _ _ _ _ _ _ hc q => ilshift_int_small hc.1 hc.2.1 hc.2.2 q
theorem iop_shr : OpR X (inplaceOp .RShift) (rI (fun _ j => 0 ≤ j) fun i j => .int (i / 2 ^ j.toNat)) := opI fun i j _ _ _ _ _ hc q =>
  irshift_int hc (by rw [Int.fdiv_eq_ediv_of_nonneg i (two_pow_nn _)]; exact q)
theorem iop_and : OpR X (inplaceOp .BitAnd) (rI0 fun i j => .int (Builtin.bitAnd i j)) := opI0 fun _ _ _ _ _ _ _ q => iand_int q
theorem iop_or : OpR X (inplaceOp .BitOr) (rI0 fun i j => .int (Builtin.bitOr i j)) := opI0 fun _ _ _ _ _ _ _ q => ior_int q
theorem iop_xor : OpR X (inplaceOp .BitXor) (rI0 fun i j => .int (Builtin.bitXor i j)) := opI0 fun _ _ _ _ _ _ _ q => ixor_int q

theorem unI {f : Value → Sem Value} {g : Int → Int}
    (rule : ∀ (i : Int) (t : Tok) (s : Shared) (Q : Value → Shared → Prop) (E : Value → Shared → Prop), Q (.int (g i) s.toks) { s with toks := s.toks + 1 } → wpAny (model X.prog X.w) X.A (f (.int i t)) Q E s) :
    UnR X f (rU fun i => .int (g i)) := by
  intro pins s σ H x v Q I rx h
  obtain ⟨i, rfl, q⟩ := h
  obtain ⟨t, rfl⟩ := rx
  exact rule i t s _ _ ⟨.int (g i), H, I.tok _, ⟨_, rfl⟩, q⟩
theorem un_neg : UnR X (unaryOp .USub) (rU fun i => .int (-i)) := unI fun _ _ _ _ _ q => neg_int q
theorem un_inv : UnR X (unaryOp .Invert) (rU fun i => .int (Builtin.bitNot i)) := unI fun _ _ _ _ _ q => invert_int q

/-! ### bools among ints: n += (a < b) -/
theorem op_add_ib : OpR X (binaryOp .Add) (fun x y H Q => ∃ i k, x = .int i ∧ y = .bl k ∧ Q (.int (i + b2i k)) H) := by
  intro pins s σ H x y v u Q I rx ry h
  obtain ⟨i, k, rfl, rfl, q⟩ := h
  obtain ⟨t, rfl⟩ := rx
  cases ry
  exact add_int_bool ⟨.int (i + b2i k), H, I.tok _, ⟨_, rfl⟩, q⟩
end

/-! ### comparisons -/
/-- the scalars that == tells apart as data does -/
def scal : V → V → Bool
  | .non, .non => true | .non, .int _ => true | .int _, .non => true | .non, .bl _ => true | .bl _, .non => true | .non, .str _ => true | .str _, .non => true
  | .int _, .int _ => true | .bl _, .bl _ => true | .str _, .str _ => true | .byt _, .byt _ => true
  | .int _, .str _ => true | .str _, .int _ => true | .bl _, .str _ => true | .str _, .bl _ => true
  | _, _ => false
def rEq : R2 := fun x y H Q => scal x y = true ∧ Q (.bl (decide (x = y))) H
def rNe : R2 := fun x y H Q => scal x y = true ∧ Q (.bl (!decide (x = y))) H

theorem dec_int {i j : Int} : decide (V.int i = V.int j) = (i == j) := by
  rw [Bool.eq_iff_iff]
  simp
theorem dec_bl {i j : Bool} : decide (V.bl i = V.bl j) = (i == j) := by
  rw [Bool.eq_iff_iff]
  simp
theorem dec_str {i j : Str} : decide (V.str i = V.str j) = (i == j) := by
  rw [Bool.eq_iff_iff]
  simp
theorem dec_byt {i j : Array UInt8} : decide (V.byt i = V.byt j) = (i.toList == j.toList) := by
  rw [Bool.eq_iff_iff]
  cases i
  cases j
  simp

section
variable {X : Cx} {a b c : Expr} {ta tb tc : TE} {pos : Pos}
theorem fin_bl {pins : List (Addr × Obj)} {σ : St} {H : Hp} {s : Shared} {Q : VK} {k k' : Bool} (I : Inv X pins σ H s) (q : Q (.bl k) H) (e : k = k') : EP X pins σ Q (.bool k') s := by
  subst e
  exact ⟨.bl k, H, I, rfl, q⟩
theorem op_eq : OpR X (compareOp .Eq) rEq := by
  intro pins s σ H x y v u Q I rx ry h
  obtain ⟨hs, q⟩ := h
  cases x with
  | non =>
    cases rx
    cases y with
    | non => cases ry; exact PySem.EqNone.eq_none_none (fin_bl I q (by simp))
    | bl j => cases ry; exact PySem.EqNone.eq_none_bool (fin_bl I q (by simp))
    | int j => obtain ⟨t', rfl⟩ := ry; exact PySem.EqNone.eq_none_int (fin_bl I q (by simp))
    | str j => obtain ⟨t', rfl⟩ := ry; exact PySem.EqNone.eq_none_str (fin_bl I q (by simp))
    | _ => exact absurd (show false = true from hs) Bool.false_ne_true
  | bl i =>
    cases rx
    cases y with
    | non => cases ry; exact PySem.EqNone.eq_bool_none (fin_bl I q (by simp))
    | bl j => cases ry; exact eq_bool (fin_bl I q dec_bl)
    | str j => obtain ⟨t', rfl⟩ := ry; exact PySem.EqMixed.eq_bool_str (fin_bl I q (by simp))
    | _ => exact absurd (show false = true from hs) Bool.false_ne_true
  | int i =>
    obtain ⟨t, rfl⟩ := rx
    cases y with
    | non => cases ry; exact PySem.EqNone.eq_int_none (fin_bl I q (by simp))
    | int j => obtain ⟨t', rfl⟩ := ry; exact eq_int (fin_bl I q dec_int)
    | str j => obtain ⟨t', rfl⟩ := ry; exact PySem.EqMixed.eq_int_str (fin_bl I q (by simp))
    | _ => exact absurd (show false = true from hs) Bool.false_ne_true
  | str i =>
    obtain ⟨t, rfl⟩ := rx
    cases y with
    | non => cases ry; exact PySem.EqNone.eq_str_none (fin_bl I q (by simp))
    | bl j => cases ry; exact PySem.EqMixed.eq_str_bool (fin_bl I q (by simp))
    | int j => obtain ⟨t', rfl⟩ := ry; exact PySem.EqMixed.eq_str_int (fin_bl I q (by simp))
    | str j => obtain ⟨t', rfl⟩ := ry; exact eq_str (fin_bl I q dec_str)
    | _ => exact absurd (show false = true from hs) Bool.false_ne_true
  | byt i =>
    obtain ⟨t, rfl⟩ := rx
    cases y with
    | byt j => obtain ⟨t', rfl⟩ := ry; exact PySem.W.eq_bytes (fin_bl I q dec_byt)
    | _ => exact absurd (show false = true from hs) Bool.false_ne_true
  | _ => cases y <;> exact absurd (show false = true from hs) Bool.false_ne_true
theorem op_ne : OpR X (compareOp .NotEq) rNe := by
  intro pins s σ H x y v u Q I rx ry h
  obtain ⟨hs, q⟩ := h
  cases x with
  | non =>
    cases rx
    cases y with
    | non => cases ry; exact PySem.EqNone.ne_none_none (fin_bl I q (by simp))
    | bl j => cases ry; exact PySem.EqNone.ne_none_bool (fin_bl I q (by simp))
    | int j => obtain ⟨t', rfl⟩ := ry; exact PySem.EqNone.ne_none_int (fin_bl I q (by simp))
    | str j => obtain ⟨t', rfl⟩ := ry; exact PySem.EqNone.ne_none_str (fin_bl I q (by simp))
    | _ => exact absurd (show false = true from hs) Bool.false_ne_true
  | bl i =>
    cases rx
    cases y with
    | non => cases ry; exact PySem.EqNone.ne_bool_none (fin_bl I q (by simp))
    | bl j => cases ry; exact ne_bool (fin_bl I q (congrArg not dec_bl))
    | str j => obtain ⟨t', rfl⟩ := ry; exact PySem.EqMixed.ne_bool_str (fin_bl I q (by simp))
    | _ => exact absurd (show false = true from hs) Bool.false_ne_true
  | int i =>
    obtain ⟨t, rfl⟩ := rx
    cases y with
    | non => cases ry; exact PySem.EqNone.ne_int_none (fin_bl I q (by simp))
    | int j => obtain ⟨t', rfl⟩ := ry; exact ne_int (fin_bl I q (congrArg not dec_int))
    | str j => obtain ⟨t', rfl⟩ := ry; exact PySem.EqMixed.ne_int_str (fin_bl I q (by simp))
    | _ => exact absurd (show false = true from hs) Bool.false_ne_true
  | str i =>
    obtain ⟨t, rfl⟩ := rx
    cases y with
    | non => cases ry; exact PySem.EqNone.ne_str_none (fin_bl I q (by simp))
    | bl j => cases ry; exact PySem.EqMixed.ne_str_bool (fin_bl I q (by simp))
    | int j => obtain ⟨t', rfl⟩ := ry; exact PySem.EqMixed.ne_str_int (fin_bl I q (by simp))
    | str j => obtain ⟨t', rfl⟩ := ry; exact ne_str (fin_bl I q (congrArg not dec_str))
    | _ => exact absurd (show false = true from hs) Bool.false_ne_true
  | byt i =>
    obtain ⟨t, rfl⟩ := rx
    cases y with
    | byt j => obtain ⟨t', rfl⟩ := ry; exact PySem.W.ne_bytes (fin_bl I q (congrArg not dec_byt))
    | _ => exact absurd (show false = true from hs) Bool.false_ne_true
  | _ => cases y <;> exact absurd (show false = true from hs) Bool.false_ne_true

theorem op_lt : OpR X (compareOp .Lt) (rI0 fun i j => .bl (decide (i < j))) := opB0 fun _ _ _ _ _ _ _ q => lt_int q
theorem op_le : OpR X (compareOp .LtE) (rI0 fun i j => .bl (decide (i ≤ j))) := opB0 fun _ _ _ _ _ _ _ q => le_int q
theorem op_gt : OpR X (compareOp .Gt) (rI0 fun i j => .bl (decide (j < i))) := opB0 fun _ _ _ _ _ _ _ q => gt_int q
theorem op_ge : OpR X (compareOp .GtE) (rI0 fun i j => .bl (decide (j ≤ i))) := opB0 fun _ _ _ _ _ _ _ q => ge_int q
theorem op_lt_str : OpR X (compareOp .Lt) (fun x y H Q => ∃ i j, x = .str i ∧ y = .str j ∧ Q (.bl (decide (i.cps.toList < j.cps.toList))) H) := by
  intro pins s σ H x y v u Q I rx ry h
  obtain ⟨i, j, rfl, rfl, q⟩ := h
  obtain ⟨t, rfl⟩ := rx
  obtain ⟨t', rfl⟩ := ry
  exact lt_str (fin_bl I q rfl)
/-- the one string within the other -/
theorem op_in_str : OpR X (compareOp .In) (fun x y H Q => ∃ i j, x = .str i ∧ y = .str j ∧ Q (.bl (!(Builtin.Str.occurrences j i 0 j.length 1).isEmpty)) H) := by
  intro pins s σ H x y v u Q I rx ry h
  obtain ⟨i, j, rfl, rfl, q⟩ := h
  obtain ⟨t, rfl⟩ := rx
  obtain ⟨t', rfl⟩ := ry
  exact in_str (fin_bl I q rfl)

/-- is None, is not None: the right side a value none -/
theorem op_isN : OpR X (compareOp .Is) (fun x y H Q => y = .non ∧ Q (.bl (decide (x = .non))) H) := by
  intro pins s σ H x y v u Q I rx ry h
  obtain ⟨rfl, q⟩ := h
  cases ry
  refine is_none_gen (fin_bl I q ?_)
  cases x <;> first
    | (cases rx; rfl)
    | (obtain ⟨t, rfl⟩ := rx; rfl)
theorem op_notN : OpR X (compareOp .IsNot) (fun x y H Q => y = .non ∧ Q (.bl (!decide (x = .non))) H) := by
  intro pins s σ H x y v u Q I rx ry h
  obtain ⟨rfl, q⟩ := h
  cases ry
  refine isnot_none_gen (fin_bl I q ?_)
  cases x <;> first
    | (cases rx; rfl)
    | (obtain ⟨t, rfl⟩ := rx; rfl)

theorem op_notin_str : OpR X (compareOp .NotIn) (fun x y H Q => ∃ i j, x = .str i ∧ y = .str j ∧ Q (.bl (!(!(Builtin.Str.occurrences j i 0 j.length 1).isEmpty))) H) := by
  intro pins s σ H x y v u Q I rx ry h
  obtain ⟨i, j, rfl, rfl, q⟩ := h
  obtain ⟨t, rfl⟩ := rx
  obtain ⟨t', rfl⟩ := ry
  exact notIn_str (fin_bl I q rfl)
/-- is, is not of two objects that are tracked lists or instances -/
def isObj : HO → Bool
  | .lst _ => true
  | .ins _ _ _ => true
  | _ => false
theorem obj_there {pins : List (Addr × Obj)} {s : Shared} {σ : St} {H : Hp} {a : Addr} {o : HO} (I : Inv X pins σ H s) (h : H a = some o) (p : isObj o = true) : ∃ ob, s.heap.get? a = some ob ∧ ob.cls ≠ .type "tuple" := by
  cases o with
  | lst xs =>
    obtain ⟨_, its, n, _, e⟩ : xs.length ≤ sizeLine ∧ ∃ (its : List Value) (n : Nat), Vals xs its ∧ s.heap.get? a = some { cls := .type "list", data := .seq its.toArray n } := I.hok a _ h
    exact ⟨_, e, (by show Value.type "list" ≠ .type "tuple"; decide +kernel)⟩
  | ins C dx fs =>
    have x := I.hok a _ h
    obtain ⟨_, _, _, e, _⟩ := x
    exact ⟨_, e, (by show Value.ref C ≠ .type "tuple"; exact fun z => by cases z)⟩
  | _ => exact absurd (show false = true from p) Bool.false_ne_true
theorem op_is_ref : OpR X (compareOp .Is) (fun x y H Q => ∃ a b oa ob, x = .ref a ∧ y = .ref b ∧ H a = some oa ∧ isObj oa = true ∧ H b = some ob ∧ isObj ob = true ∧ Q (.bl (decide (a = b))) H) := by
  intro pins s σ H x y v u Q I rx ry h
  obtain ⟨a, b, oa, ob, rfl, rfl, ha, pa, hb, pb, q⟩ := h
  cases rx
  cases ry
  obtain ⟨o1, e1, n1⟩ := obj_there I ha pa
  obtain ⟨o2, e2, _⟩ := obj_there I hb pb
  by_cases z : a = b
  · subst z
    exact wpAny_is_ref_self (fin_bl I q (by simp))
  · exact wpAny_is_ref_other z e1 e2 n1 (fin_bl I q (by simp [z]))
theorem op_isnot_ref : OpR X (compareOp .IsNot) (fun x y H Q => ∃ a b oa ob, x = .ref a ∧ y = .ref b ∧ H a = some oa ∧ isObj oa = true ∧ H b = some ob ∧ isObj ob = true ∧ Q (.bl (!decide (a = b))) H) := by
  intro pins s σ H x y v u Q I rx ry h
  obtain ⟨a, b, oa, ob, rfl, rfl, ha, pa, hb, pb, q⟩ := h
  cases rx
  cases ry
  obtain ⟨o1, e1, n1⟩ := obj_there I ha pa
  obtain ⟨o2, e2, _⟩ := obj_there I hb pb
  by_cases z : a = b
  · subst z
    exact wpAny_isNot_ref_self (fin_bl I q (by simp))
  · exact wpAny_isNot_ref_other z e1 e2 n1 (fin_bl I q (by simp [z]))

/-- two rules for one operation: by cases -/
theorem OpR.or {f : Value → Value → Sem Value} {r r' : R2} (h : OpR X f r) (h' : OpR X f r') : OpR X f (fun x y H Q => r x y H Q ∨ r' x y H Q) := by
  intro pins s σ H x y v u Q I rx ry q
  rcases q with q | q
  · exact h pins s σ H x y v u Q I rx ry q
  · exact h' pins s σ H x y v u Q I rx ry q

theorem nomark (b : Expr) {op : CmpOp} (h : op ≠ .In := by decide) (h2 : op ≠ .NotIn := by decide) : behindInMarks op b = false := by
  have e1 : (op == CmpOp.In) = false := by cases op <;> first | rfl | exact absurd rfl h
  have e2 : (op == CmpOp.NotIn) = false := by cases op <;> first | rfl | exact absurd rfl h2
  cases b <;> simp [behindInMarks, e1, e2]
/-- a comparison as a value; hm: nomark b, or (for in, not in) by with_unfolding_all rfl -/
theorem pe_cmpR {op : CmpOp} {r : R2} (ho : OpR X (compareOp op) r) (ha : PE X a ta) (hb : PE X b tb) (hm : behindInMarks op b = false) : PE X (.Compare a [op] [b] pos) (tOp r ta tb) := by
  intro pins s σ H Q I h
  exact wpAny_Compare1 (binT ha hb I h fun v u s2 x y H2 I2 rx ry q => ho pins s2 σ H2 x y v u Q I2 rx ry q) hm
/-- a reading of a value as a test -/
def tTest (t : TE) : TT := fun σ H Q => t σ H fun x H' => ∃ k, x = .bl k ∧ Q k H'
theorem pt_cmpR {op : CmpOp} {r : R2} (ho : OpR X (compareOp op) r) (ha : PE X a ta) (hb : PE X b tb) (hm : behindInMarks op b = false) : PT X (.Compare a [op] [b] pos) (tTest (tOp r ta tb)) := by
  intro pins s σ H Q I h
  refine wpAny_isTrue_Compare1 (thn (ha pins s σ H _ I h) fun v s1 ⟨x, H1, I1, r1, q1⟩ => thn (hb pins s1 σ H1 _ I1 q1) fun u s2 ⟨y, H2, I2, r2, q2⟩ =>
    thn (ho pins s2 σ H2 x y v u _ I2 r1 r2 q2) fun c s3 ⟨z, H3, I3, r3, k, e, q3⟩ => ?_) hm
  subst e
  cases r3
  exact wpAny_truthy_bool ⟨H3, I3, q3⟩
/-- a op1 b op2 c -/
def tChain (r r' : R2) (ta tb tc : TE) : TE := fun σ H Q => ta σ H fun x H1 => tb σ H1 fun y H2 => r x y H2 fun z H3 => ∃ k, z = .bl k ∧
  (if k = true then tc σ H3 fun w' H4 => r' y w' H4 Q else Q (.bl false) H3)
theorem pe_chain {op op' : CmpOp} {r r' : R2} (ho : OpR X (compareOp op) r) (ho' : OpR X (compareOp op') r') (ha : PE X a ta) (hb : PE X b tb) (hc : PE X c tc)
    (hm : lastMarks [op, op'] [b, c] = false := by with_unfolding_all rfl) : PE X (.Compare a [op, op'] [b, c] pos) (tChain r r' ta tb tc) := by
  intro pins s σ H Q I h
  refine Compare_chain (thn (ha pins s σ H _ I h) fun v s1 ⟨x, H1, I1, r1, q1⟩ => chain_link (thn (hb pins s1 σ H1 _ I1 q1) fun u s2 ⟨y, H2, I2, r2, q2⟩ =>
    thn (ho pins s2 σ H2 x y v u _ I2 r1 r2 q2) fun d s3 ⟨z, H3, I3, r3, k, e, q3⟩ => ?_)) hm
  subst e
  cases r3
  refine wpAny_truthy_bool ?_
  cases k with
  | false => exact ite_ff ⟨.bl false, H3, I3, rfl, q3⟩
  | true => exact ite_tt (chain_last (thn (hc pins s3 σ H3 _ I3 q3) fun w' s4 ⟨z', H4, I4, r4, q4⟩ => ho' pins s4 σ H4 y z' u w' Q I4 r2 r4 q4))
theorem pt_chain {op op' : CmpOp} {r r' : R2} (ho : OpR X (compareOp op) r) (ho' : OpR X (compareOp op') r') (ha : PE X a ta) (hb : PE X b tb) (hc : PE X c tc)
    (hm : lastMarks [op, op'] [b, c] = false := by with_unfolding_all rfl) : PT X (.Compare a [op, op'] [b, c] pos) (tTest (tChain r r' ta tb tc)) := by
  intro pins s σ H Q I h
  refine isTrue_chain (thn (ha pins s σ H _ I h) fun v s1 ⟨x, H1, I1, r1, q1⟩ => test_link (thn (hb pins s1 σ H1 _ I1 q1) fun u s2 ⟨y, H2, I2, r2, q2⟩ =>
    thn (ho pins s2 σ H2 x y v u _ I2 r1 r2 q2) fun d s3 ⟨z, H3, I3, r3, k, e, q3⟩ => ?_)) hm
  subst e
  cases r3
  refine wpAny_truthy_bool ?_
  cases k with
  | false =>
    obtain ⟨k', e', q'⟩ := q3
    cases e'
    exact ite_ff ⟨H3, I3, q'⟩
  | true =>
    refine ite_tt (test_last (thn (hc pins s3 σ H3 _ I3 q3) fun w' s4 ⟨z', H4, I4, r4, q4⟩ => thn (ho' pins s4 σ H4 y z' u w' _ I4 r2 r4 q4) fun d' s5 ⟨z2, H5, I5, r5, k2, e2, q5⟩ => ?_))
    subst e2
    cases r5
    exact wpAny_truthy_bool ⟨H5, I5, q5⟩

/-! ### truth -/
/-- a value's truth by the abstract heap -/
def TruV (K : PySem.W.Frag) (x : V) (H : Hp) (k : Bool) : Prop :=
  match x with
  | .non => k = false
  | .bl b => k = b
  | .int i => k = (i != 0)
  | .str y => y.length ≤ sizeLine ∧ k = ((y.length : Int) != 0)
  | .byt y => y.size ≤ sizeLine ∧ k = ((y.size : Int) != 0)
  | .ref p => (∃ xs, SqL K H p xs ∧ k = !xs.isEmpty) ∨ (∃ xs, SqT K H p xs ∧ k = !xs.isEmpty) ∨ ∃ kvs, H p = some (.dK kvs) ∧ k = !kvs.isEmpty
  | _ => False
theorem isEmpty_kv {κ : Type} {kvs : List (κ × V)} {vs : List (κ × Value)} (r : KV kvs vs) : (!vs.isEmpty) = !kvs.isEmpty := by
  cases r <;> rfl
theorem isEmpty_of {xs : List V} {its : List Value} (r : Vals xs its) : (!its.toArray.isEmpty) = !xs.isEmpty := by
  cases r <;> simp
theorem line63 : (sizeLine : Nat) < 2 ^ 63 := by rw [sizeLine_eq]; decide
theorem tru_ok : TruR X (fun x H Q => ∃ k, TruV X.K x H k ∧ Q k H) := by
  intro pins s σ H x v Q I rx h
  obtain ⟨k, e, q⟩ := h
  have hl := line63
  have hs : sizeLine = 16777216 := sizeLine_eq
  cases x with
  | non =>
    cases rx
    have e' : k = false := e
    subst e'
    exact truthy_none ⟨H, I, q⟩
  | bl b =>
    cases rx
    have e' : k = b := e
    subst e'
    exact wpAny_truthy_bool ⟨H, I, q⟩
  | int i =>
    obtain ⟨t, rfl⟩ := rx
    have e' : k = (i != 0) := e
    subst e'
    exact PySem.P.truthy_int ⟨H, I, q⟩
  | str y =>
    obtain ⟨t, rfl⟩ := rx
    obtain ⟨hy, e'⟩ : y.length ≤ sizeLine ∧ k = ((y.length : Int) != 0) := e
    subst e'
    exact PySem.P.truthy_str (by omega) ⟨H, I.tok _, q⟩
  | byt y =>
    obtain ⟨t, rfl⟩ := rx
    obtain ⟨hy, e'⟩ : y.size ≤ sizeLine ∧ k = ((y.size : Int) != 0) := e
    subst e'
    exact PySem.W.truthy_bytes (by omega) ⟨H, I.tok _, q⟩
  | ref p =>
    cases rx
    have e' : (∃ xs, SqL X.K H p xs ∧ k = !xs.isEmpty) ∨ (∃ xs, SqT X.K H p xs ∧ k = !xs.isEmpty) ∨ ∃ kvs, H p = some (.dK kvs) ∧ k = !kvs.isEmpty := e
    rcases e' with ⟨xs, hx, e'⟩ | ⟨xs, hx, e'⟩ | ⟨kvs, hx, e'⟩
    · subst e'
      obtain ⟨its, r, pl, hz⟩ := I.list hx
      have hlen := r.length
      exact wpAny_truthy_list pl.isList (by simp only [List.size_toArray]; omega) ⟨H, I.tok _, by rw [isEmpty_of r]; exact q⟩
    · subst e'
      obtain ⟨its, r, pl, hz⟩ := I.tuple hx
      have hlen := r.length
      exact truthy_tuple pl (by simp only [List.size_toArray]; omega) ⟨H, I.tok _, by rw [isEmpty_of r]; exact q⟩
    · subst e'
      obtain ⟨hz, hS, vs, r, m⟩ : kvs.length ≤ sizeLine ∧ (p == sysModules) = false ∧ ∃ vs, KV kvs vs ∧ s.heap.DictOf (mixKind X.prog X.w) p vs := I.hok p _ hx
      have hlen : kvs.length = vs.length := Paired.length r
      exact wpAny_truthy_dict hS m (by omega) ⟨H, I.tok _, by rw [isEmpty_kv r]; exact q⟩
  | _ => exact (show False from e).elim
/-- any expression whose test is its value's truth (a name, a call, a subscript, a field ..: he by fun _ => rfl) -/
theorem pt_truth (ha : PE X a ta) (he : ∀ whole, isTrue a X.env whole = (do let v ← whole; standAt a.pos; holding [v] (truthy v))) :
    PT X a (fun σ H Q => ta σ H fun x H' => ∃ k, TruV X.K x H' k ∧ Q k H') := by
  intro pins s σ H Q I h
  exact isTrue_plain (thn (ha pins s σ H _ I h) fun v s1 ⟨x, H1, I1, r1, q1⟩ => tru_ok pins s1 σ H1 x v Q I1 r1 q1) (he _)

/-! ### strs and bytes -/
theorem pe_byt {x : List UInt8} {k : Nat} : PE X (.Constant (.bytes x) k pos) (fun _ H Q => Q (.byt x.toArray) H) := fun _ _ _ H _ I h => PySem.W.Constant_bytes ⟨.byt x.toArray, H, I.tok _, ⟨_, rfl⟩, h⟩
theorem op_add_str : OpR X (binaryOp .Add) (fun x y H Q => ∃ i j, x = .str i ∧ y = .str j ∧ i.length + j.length ≤ sizeLine ∧ Q (.str (i ++ j)) H) := by
  intro pins s σ H x y v u Q I rx ry h
  obtain ⟨i, j, rfl, rfl, hz, q⟩ := h
  obtain ⟨t, rfl⟩ := rx
  obtain ⟨t', rfl⟩ := ry
  exact add_str (fun t' tk => ⟨.str (i ++ j), H, I.tok _, ⟨_, rfl⟩, q⟩) hz
theorem iop_add_str : OpR X (inplaceOp .Add) (fun x y H Q => ∃ i j, x = .str i ∧ y = .str j ∧ i.length + j.length ≤ sizeLine ∧ Q (.str (i ++ j)) H) := by
  intro pins s σ H x y v u Q I rx ry h
  obtain ⟨i, j, rfl, rfl, hz, q⟩ := h
  obtain ⟨t, rfl⟩ := rx
  obtain ⟨t', rfl⟩ := ry
  exact iadd_str (fun t' tk => ⟨.str (i ++ j), H, I.tok _, ⟨_, rfl⟩, q⟩) hz
theorem op_add_byt : OpR X (binaryOp .Add) (fun x y H Q => ∃ i j, x = .byt i ∧ y = .byt j ∧ i.size + j.size ≤ 16777216 ∧ Q (.byt (i ++ j)) H) := by
  intro pins s σ H x y v u Q I rx ry h
  obtain ⟨i, j, rfl, rfl, hz, q⟩ := h
  obtain ⟨t, rfl⟩ := rx
  obtain ⟨t', rfl⟩ := ry
  exact PySem.W.KBy.add_bytes hz (fun t' tk => ⟨.byt (i ++ j), H, I.tok _, ⟨_, rfl⟩, q⟩)

def PlainIxT (b : Expr) : Prop := ∀ o i, subscripted b false o i = operate [o, i] (getItem o i)
/-- s[i], 0 ≤ i < len -/
theorem pe_item_str (ha : PE X a ta) (hb : PE X b tb) (hs : PlainIxT b) :
    PE X (.Subscript a b pos) (tOp (fun x y H Q => ∃ z i c, x = .str z ∧ y = .int i ∧ 0 ≤ i ∧ i < 2 ^ 63 ∧ i < z.length ∧ z.cps[i.toNat]? = some c ∧ Q (.str ⟨#[c]⟩) H) ta tb) := by
  intro pins s σ H Q I h
  refine Subscript_ (binT ha hb I h fun v u s2 x y H2 I2 rx ry q => ?_)
  obtain ⟨z, i, c, rfl, rfl, h0, h63, h1, hc, q⟩ := q
  obtain ⟨t, rfl⟩ := rx
  obtain ⟨t', rfl⟩ := ry
  have e : seqIndex? i z.length = some i.toNat := PySem.StrLaws.seqIndex_nonneg h0 h1
  exact tail_any (typeIs_str s2 z t) slot_str_getitem.lookup (getItem_str (c := c) (by
    have e1 : decide (i < -(2 ^ 63 : Int)) = false := decide_eq_false (by omega)
    have e2 : decide (i ≥ 2 ^ 63) = false := decide_eq_false (by omega)
    rw [e1, e2] <;> rfl) (by rw [e]; exact hc) ⟨.str ⟨#[c]⟩, H2, I2.tok _, ⟨_, rfl⟩, q⟩) (hs _ _)
/-- b[i], 0 ≤ i < len -/
theorem pe_item_byt (ha : PE X a ta) (hb : PE X b tb) (hs : PlainIxT b) :
    PE X (.Subscript a b pos) (tOp (fun x y H Q => ∃ (z : List UInt8) (i : Int), x = .byt z.toArray ∧ y = .int i ∧ z.length ≤ sizeLine ∧ 0 ≤ i ∧ i < z.length ∧ Q (.int ((z.getD i.toNat 0).toNat : Nat)) H) ta tb) := by
  intro pins s σ H Q I h
  refine Subscript_ (binT ha hb I h fun v u s2 x y H2 I2 rx ry q => ?_)
  obtain ⟨z, i, rfl, rfl, hz, h0, h1, q⟩ := q
  obtain ⟨t, rfl⟩ := rx
  obtain ⟨t', rfl⟩ := ry
  have hl : sizeLine = 16777216 := sizeLine_eq
  exact tail_any (PySem.W.typeIs_bytes s2 z.toArray t) PySem.W.FB.slot_bytes_getitem.lookup (PySem.W.getItem_bytes (by omega) h0 h1 ⟨.int ((z.getD i.toNat 0).toNat : Nat), H2, I2.tok _, ⟨_, rfl⟩, q⟩) (hs _ _)

/-! ### scalar builtins, by CallR -/
theorem vals1 {x : V} {us : List Value} (r : Vals [x] us) : ∃ u, us = [u] ∧ RelV x u := by
  cases r with
  | cons r1 r2 => cases r2; exact ⟨_, rfl, r1⟩
theorem vals2 {x y : V} {us : List Value} (r : Vals [x, y] us) : ∃ u w', us = [u, w'] ∧ RelV x u ∧ RelV y w' := by
  cases r with
  | cons r1 r2 =>
    cases r2 with
    | cons r3 r4 => cases r4; exact ⟨_, _, rfl, r1, r3⟩
theorem call_abs : CallR X (.builtin "abs") (fun xs H Q => ∃ i, xs = [.int i] ∧ Q (.int (if i < 0 then -i else i)) H) := by
  intro pins s σ H xs us Q I r h
  obtain ⟨i, rfl, q⟩ := h
  obtain ⟨u, rfl, t, rfl⟩ := vals1 r
  exact call_abs_int fun u tk => ⟨.int (if i < 0 then -i else i), H, I.tok _, ⟨_, rfl⟩, q⟩
theorem call_max2 (hc : X.calm = true) : CallR X (.builtin "max") (fun xs H Q => ∃ i j, xs = [.int i, .int j] ∧ Q (.int (if j > i then j else i)) H) := by
  intro pins s σ H xs us Q I r h
  obtain ⟨i, j, rfl, q⟩ := h
  obtain ⟨u, w', rfl, ⟨t, rfl⟩, ⟨t', rfl⟩⟩ := vals2 r
  refine max_two_ints (I.ok.hd hc) fun h' tk k => ⟨_, H, I.kept k, ?_, q⟩
  by_cases hj : j > i
  · rw [if_pos hj, if_pos hj]; exact ⟨_, rfl⟩
  · rw [if_neg hj, if_neg hj]; exact ⟨_, rfl⟩
theorem call_min2 (hc : X.calm = true) : CallR X (.builtin "min") (fun xs H Q => ∃ i j, xs = [.int i, .int j] ∧ Q (.int (if j < i then j else i)) H) := by
  intro pins s σ H xs us Q I r h
  obtain ⟨i, j, rfl, q⟩ := h
  obtain ⟨u, w', rfl, ⟨t, rfl⟩, ⟨t', rfl⟩⟩ := vals2 r
  refine min_two_ints (I.ok.hd hc) fun h' tk k => ⟨_, H, I.kept k, ?_, q⟩
  by_cases hj : j < i
  · rw [if_pos hj, if_pos hj]; exact ⟨_, rfl⟩
  · rw [if_neg hj, if_neg hj]; exact ⟨_, rfl⟩
theorem call_int1 : CallR X (.type "int") (fun xs H Q => (∃ i, xs = [.int i] ∧ Q (.int i) H) ∨ ∃ k, xs = [.bl k] ∧ Q (.int (if k then 1 else 0)) H) := by
  intro pins s σ H xs us Q I r h
  rcases h with ⟨i, rfl, q⟩ | ⟨k, rfl, q⟩
  · obtain ⟨u, rfl, t, rfl⟩ := vals1 r
    exact call_int_int ⟨.int i, H, I, ⟨_, rfl⟩, q⟩
  · obtain ⟨u, rfl, r1⟩ := vals1 r
    cases r1
    exact call_int_bool ⟨.int (if k then 1 else 0), H, I.tok _, ⟨_, rfl⟩, q⟩
theorem call_bool1 : CallR X (.type "bool") (fun xs H Q => (∃ i, xs = [.int i] ∧ Q (.bl (i != 0)) H) ∨ ∃ k, xs = [.bl k] ∧ Q (.bl k) H) := by
  intro pins s σ H xs us Q I r h
  rcases h with ⟨i, rfl, q⟩ | ⟨k, rfl, q⟩
  · obtain ⟨u, rfl, t, rfl⟩ := vals1 r
    exact call_bool_int ⟨.bl (i != 0), H, I, rfl, q⟩
  · obtain ⟨u, rfl, r1⟩ := vals1 r
    cases r1
    exact call_bool_bool ⟨.bl k, H, I, rfl, q⟩
theorem call_str_int : CallR X (.type "str") (fun xs H Q => ∃ i, xs = [.int i] ∧ i.natAbs.log2 < 1920 ∧ Q (.str (toString i)) H) := by
  intro pins s σ H xs us Q I r h
  obtain ⟨i, rfl, hz, q⟩ := h
  obtain ⟨u, rfl, t, rfl⟩ := vals1 r
  exact PySem.P.str_of_int hz ⟨.str _, H, I.tok _, ⟨_, rfl⟩, q⟩
theorem call_ord : CallR X (.builtin "ord") (fun xs H Q => ∃ x, xs = [.str x] ∧ x.length = 1 ∧ Q (.int (x.cps.getD 0 0 : Nat)) H) := by
  intro pins s σ H xs us Q I r h
  obtain ⟨x, rfl, hz, q⟩ := h
  obtain ⟨u, rfl, t, rfl⟩ := vals1 r
  exact ord_of_one hz ⟨.int _, H, I.tok _, ⟨_, rfl⟩, q⟩
theorem call_chr : CallR X (.builtin "chr") (fun xs H Q => ∃ i, xs = [.int i] ∧ 0 ≤ i ∧ i ≤ 1114111 ∧ Q (.str ⟨#[i.toNat]⟩) H) := by
  intro pins s σ H xs us Q I r h
  obtain ⟨i, rfl, h0, h1, q⟩ := h
  obtain ⟨u, rfl, t, rfl⟩ := vals1 r
  exact chr_of_range h0 h1 ⟨.str _, H, I.tok _, ⟨_, rfl⟩, q⟩
/-- len of a str, a bytes, a list, a tuple -/
def LenV (K : PySem.W.Frag) (x : V) (H : Hp) (n : Nat) : Prop :=
  match x with
  | .str y => y.length ≤ sizeLine ∧ n = y.length
  | .byt y => y.size ≤ sizeLine ∧ n = y.size
  | .ref p => (∃ xs, SqL K H p xs ∧ n = xs.length) ∨ ∃ xs, SqT K H p xs ∧ n = xs.length
  | _ => False
theorem call_len : CallR X (.builtin "len") (fun xs H Q => ∃ x n, xs = [x] ∧ LenV X.K x H n ∧ Q (.int n) H) := by
  intro pins s σ H xs us Q I r h
  obtain ⟨x, n, rfl, e, q⟩ := h
  obtain ⟨u, rfl, rx⟩ := vals1 r
  have hl := line63
  have hs : sizeLine = 16777216 := sizeLine_eq
  cases x with
  | str y =>
    obtain ⟨t, rfl⟩ := rx
    obtain ⟨hy, e'⟩ : y.length ≤ sizeLine ∧ n = y.length := e
    subst e'
    exact len_str (by omega) ⟨.int _, H, I.tok _, ⟨_, rfl⟩, q⟩
  | byt y =>
    obtain ⟨t, rfl⟩ := rx
    obtain ⟨hy, e'⟩ : y.size ≤ sizeLine ∧ n = y.size := e
    subst e'
    exact PySem.W.len_bytes (by omega) ⟨.int _, H, I.tok _, ⟨_, rfl⟩, q⟩
  | ref p =>
    cases rx
    have e' : (∃ xs, SqL X.K H p xs ∧ n = xs.length) ∨ ∃ xs, SqT X.K H p xs ∧ n = xs.length := e
    rcases e' with ⟨xs, hx, e'⟩ | ⟨xs, hx, e'⟩
    · subst e'
      obtain ⟨its, r', pl, hz⟩ := I.list hx
      have hlen := r'.length
      exact Calls.call_len_list pl.isList (by simp only [List.size_toArray]; omega) ⟨.int xs.length, H, I.tok _, ⟨_, by simp only [List.size_toArray]; rw [hlen]⟩, q⟩
    · subst e'
      obtain ⟨its, r', pl, hz⟩ := I.tuple hx
      have hlen := r'.length
      exact len_tuple pl (by simp only [List.size_toArray]; omega) ⟨.int xs.length, H, I.tok _, ⟨_, by simp only [List.size_toArray]; rw [hlen]⟩, q⟩
  | _ => exact (show False from e).elim
/-- divmod: a new tuple -/
theorem call_divmod : CallR X (.builtin "divmod") (fun xs H Q => ∃ i j, xs = [.int i, .int j] ∧ CDiv i j ∧ ∀ p, H p = none → Q (.ref p) (upd H p (.tup [.int (i / j), .int (i % j)]))) := by
  intro pins s σ H xs us Q I r h
  obtain ⟨i, j, rfl, ⟨h1, h2⟩, q⟩ := h
  obtain ⟨u, w', rfl, ⟨t, rfl⟩, ⟨t', rfl⟩⟩ := vals2 r
  refine divmod_int (by omega) ?_ (.inl (PyProof.noPylong_small (by omega)))
  rw [Int.fdiv_eq_ediv_of_nonneg i (by omega), Int.fmod_eq_emod_of_nonneg i (by omega)]
  have hn : H s.heap.objs.size = none := I.hok.fresh (Nat.le_refl _)
  refine ⟨.ref s.heap.objs.size, _, ?_, rfl, q _ hn⟩
  refine I.laid (fun b o e => Heap.get?_push_of_some _ e) (Nat.le_refl _) ⟨by simp only [List.length_cons, List.length_nil]; rw [sizeLine_eq]; decide, [.int (i / j) s.toks, .int (i % j) (s.toks + 1)], .cons ⟨_, rfl⟩ (.cons ⟨_, rfl⟩ .nil), ?_⟩
  exact ⟨_, Heap.get?_push_size s.heap rfl, rfl, 0, rfl⟩
end
end L2

namespace L2
open PySem PySem.Spec PyProof.Rows

/-! ### an instance, its attributes a map -/
structure ObjM (h : Heap) (x dx C : Addr) (mA : Str → Option Value) : Prop where
  obj : h.get? x = some (PySem.W.instObj C dx)
  ns : h.Ns1 dx mA
  ne : dx ≠ x

theorem lookIn_ns {h : Heap} {dx : Addr} {mA : Str → Option Value} (n : h.Ns1 dx mA) : ∃ od, h.get? dx = some od ∧ ∀ name, PySem.W.lookIn name od = some (mA name) := by
  obtain ⟨o, es, ep, ho, hd, hk, _, hm⟩ := n
  refine ⟨o, ho, fun name => ?_⟩
  have e := hm name
  unfold nsFind findBy at e
  rw [← Array.find?_toList] at e
  unfold PySem.W.lookIn
  rw [hd]
  dsimp only
  split
  · rename_i y q
    rw [q] at e
    exact congrArg some e
  · rename_i q
    rw [q] at e
    have a : es.toList.any (·.refKey) = false := by
      rw [List.any_eq_false]
      intro y hy
      obtain ⟨z, t, hkey⟩ := hk y (Array.mem_toList_iff.mp hy)
      simp [DictEntry.refKey, hkey]
    have a' : ¬ es.toList.any (·.refKey) = true := by rw [a]; exact Bool.false_ne_true
    rw [if_neg a']
    exact congrArg some e

theorem ObjM.look {h : Heap} {x dx C : Addr} {mA : Str → Option Value} (I : ObjM h x dx C mA) : ∃ od, PySem.W.InstAt h x (PySem.W.instObj C dx) C (some od) ∧ ∀ name, PySem.W.lookIn name od = some (mA name) :=
  let ⟨od, ho, hl⟩ := lookIn_ns I.ns
  ⟨od, ⟨I.obj, rfl, rfl, ho⟩, hl⟩

section
variable {prog : Program} {w : World} {A : Around} {E : Value → Shared → Prop} {s : Shared} {K : PySem.W.Frag} {x dx C f : Addr} {mA : Str → Option Value} {name : Str} {v : Value}

theorem get_map {expr : Bool} {Q : Value → Shared → Prop} (X : K.In s.heap) (I : ObjM s.heap x dx C mA) (hg : PySem.W.plainGet K C name = true) (hh : PySem.W.hasDictIn K C = true)
    (ha : PySem.W.findIn K (.ref C) name = some none) (hv : mA name = some v) (hv' : PySem.W.handedIn v = true) (h : Q v { s with toks := s.toks + 1 }) :
    wpAny (model prog w) A (getAttr (.ref x) name expr) Q E s := by
  obtain ⟨od, J, hl⟩ := I.look
  exact PySem.W.get_value X J (PySem.W.plainGet_of hg).1 (PySem.W.findObj_own hh ha rfl (by rw [hl, hv])) hv' h

theorem get_const {expr : Bool} {a : Value} {Q : Value → Shared → Prop} (X : K.In s.heap) (I : ObjM s.heap x dx C mA) (hg : PySem.W.plainGet K C name = true) (hh : PySem.W.hasDictIn K C = true)
    (ha : PySem.W.findIn K (.ref C) name = some (some a)) (hn : PySem.W.specialIn K a "__get__" = some none) (hc : PySem.W.copiedNames.contains name = false) (hv : mA name = none) (hv' : PySem.W.handedIn a = true)
    (h : Q a { s with toks := s.toks + 1 }) : wpAny (model prog w) A (getAttr (.ref x) name expr) Q E s := by
  obtain ⟨od, J, hl⟩ := I.look
  exact PySem.W.get_value X J (PySem.W.plainGet_of hg).1 (PySem.W.findObj_cls hh ha hn hv' hc (by rw [hl, hv])) hv' h

theorem get_meth {pl : Sem Bool} {Q : Value × List Value → Shared → Prop} (X : K.In s.heap) (I : ObjM s.heap x dx C mA) (hg : PySem.W.plainGet K C name = true)
    (hf : PySem.W.findIn K (.ref C) name = some (some (.ref f))) (ht : PySem.W.isFn K (.ref f) = true) (hv : mA name = none) (h : Q (.ref f, [.ref x]) s) :
    wpAny (model prog w) A (getMethod (.ref x) name pl) Q E s := by
  obtain ⟨od, J, hl⟩ := I.look
  exact PySem.W.method_fn X J (PySem.W.plainGet_of hg).1 (PySem.W.plainGet_of hg).2 hf (beq_iff_eq.mp ht) (by show (PySem.W.lookIn name od).map (·.isSome) = some false; rw [hl, hv]; rfl) h

theorem set_map {ns : List Str} {Q : Unit → Shared → Prop} (X : K.In s.heap) (I : ObjM s.heap x dx C mA)
    (hs : PySem.W.findIn K (.ref C) "__setattr__" = some (some (.builtin "object.__setattr__"))) (hp : PySem.W.plainOver K C = true) (ht : PySem.W.takerIn K C name = some none) (hh : PySem.W.hasDictIn K C = true)
    (hw : PySem.Within mA ns) (hsz : ns.length ≤ sizeLine)
    (h : ∀ h', ObjM h' x dx C (fun y => if y = name then some v else mA y) → Heap.SameBut dx s.heap h' → Q () { s with heap := h', toks := s.toks + 2 }) :
    wpAny (model prog w) A (setAttr (.ref x) name v) Q E s := by
  obtain ⟨od, J, hl⟩ := I.look
  refine PySem.W.set_plain X J hs (PySem.W.osa_open (s := { s with toks := s.toks + 1 }) (r := none) X J hp ht fun b => ?_)
  obtain ⟨cd, hc, hd'⟩ := PySem.W.any_some hh
  have hx : s.heap.get? x = some ⟨.ref C, some dx, .plain, #[]⟩ := I.obj
  refine wpAny_bind (wpAny_pure (wpAny_bind (wpAny_bind (wpAny_loadPart hx (wpAny_bind (PySem.W.Looks.here (s := { s with toks := s.toks + 1 }) (PySem.W.looks_clsIn X hc) ?_))))))
  rw [hd']
  refine wpAny_pure (a := some dx) (wpAny_bind (wpAny_pure (wpAny_bind ?_)))
  refine wpAny_nsSet1 (s := { s with toks := s.toks + 1 }) I.ns fun h' hn2 hs2 => ?_
  obtain ⟨oD, esD, epD, hoD, hdD, hcD⟩ := hn2.count (PySem.Within.cons name v hw)
  refine wpAny_bind (wpAny_lookBehind hoD (by rw [hdD]; exact pastItsLine_dict (Nat.le_trans hcD (by rw [List.length_cons]; omega))) ?_)
  exact wpAny_pure (h _ ⟨(hs2.2 _ (Ne.symm I.ne)).trans I.obj, hn2, I.ne⟩ hs2)

/-- C(..): the dict at the heap's end, the instance behind it; then its __init__ -/
theorem make_map {R : Result → Shared → Prop} {vs : List Value} {kw : List (Str × Value)} (X : K.In s.heap) (hm : PySem.W.makesIn K C = true)
    (hi : PySem.W.findIn K (.ref C) "__init__" = some (some (.ref f))) (hf : PySem.W.typeIn K (.ref f) = some (.type "function"))
    (h : codeAny (model prog w) (A.under (.builtin "type.__call__" ⟨.ref C :: vs, kw⟩)) (.call (.ref f) ⟨.ref (s.heap.objs.size + 1) :: vs, kw⟩) (PySem.W.InitBack (s.heap.objs.size + 1) R)
      { s with heap := (s.heap.push PySem.W.emptyDict).push (PySem.W.instObj C s.heap.objs.size) }) :
    codeAny (model prog w) A (.call (.ref C) ⟨vs, kw⟩) R s := by
  obtain ⟨hh, g, d, t, os⟩ := s
  exact PySem.W.make_core (PySem.W.makes_of X hm) (PySem.W.looks_findIn X hi) (fun self => PySem.W.bind_fn X self hf) (.inl rfl) h
/-- C() where there is no __init__ but object's -/
theorem make_map0 {R : Result → Shared → Prop} (X : K.In s.heap) (hm : PySem.W.makesIn K C = true)
    (hi : PySem.W.findIn K (.ref C) "__init__" = some (some (.builtin "object.__init__")))
    (hb : ∀ self, PySem.W.Looks (model prog w) s.heap (bindSpecial (.builtin "object.__init__") self) (.builtin "object.__init__", [self]))
    (h : codeAny (model prog w) (A.under (.builtin "type.__call__" ⟨[.ref C], []⟩)) (.call (.builtin "object.__init__") ⟨[.ref (s.heap.objs.size + 1)], []⟩) (PySem.W.InitBack (s.heap.objs.size + 1) R)
      { s with heap := (s.heap.push PySem.W.emptyDict).push (PySem.W.instObj C s.heap.objs.size) }) :
    codeAny (model prog w) A (.call (.ref C) ⟨[], []⟩) R s := by
  obtain ⟨hh, g, d, t, os⟩ := s
  exact PySem.W.make_core (PySem.W.makes_of X hm) (PySem.W.looks_findIn X hi) hb (.inr ⟨rfl, rfl⟩) h
end

/-! ### the attributes as a list of pairs -/
def putF (f : Str) (v : V) : List (Str × V) → List (Str × V)
  | [] => [(f, v)]
  | (g, x) :: r => if g = f then (g, v) :: r else (g, x) :: putF f v r
theorem lookup_putF (f g : Str) (v : V) : ∀ fs : List (Str × V), (putF f v fs).lookup g = if g = f then some v else fs.lookup g
  | [] => by
    show List.lookup g [(f, v)] = _
    by_cases h : g = f
    · have hb : (g == f) = true := beq_iff_eq.mpr h
      simp only [List.lookup, hb, if_pos h]
    · have hb : (g == f) = false := beq_eq_false_iff_ne.mpr h
      simp only [List.lookup, hb, if_neg h]
  | (k, x) :: r => by
    have ih := lookup_putF f g v r
    rw [show putF f v ((k, x) :: r) = (if k = f then (k, v) :: r else (k, x) :: putF f v r) from rfl]
    by_cases hk : k = f
    · rw [if_pos hk]
      by_cases h : g = k
      · have hb : (g == k) = true := beq_iff_eq.mpr h
        simp only [List.lookup, hb, if_pos (h.trans hk)]
      · have hb : (g == k) = false := beq_eq_false_iff_ne.mpr h
        simp only [List.lookup, hb, if_neg (fun e : g = f => h (e.trans hk.symm))]
    · rw [if_neg hk]
      by_cases h : g = k
      · have hb : (g == k) = true := beq_iff_eq.mpr h
        simp only [List.lookup, hb, if_neg (fun e : g = f => hk (h.symm.trans e))]
      · have hb : (g == k) = false := beq_eq_false_iff_ne.mpr h
        simp only [List.lookup, hb]
        exact ih
theorem keys_putF (f : Str) (v : V) : ∀ fs : List (Str × V), f ∈ (putF f v fs).map (·.1) ∧ ∀ g, g ∈ fs.map (·.1) → g ∈ (putF f v fs).map (·.1)
  | [] => ⟨by simp [putF], fun g h => by simp at h⟩
  | (k, x) :: r => by
    obtain ⟨i1, i2⟩ := keys_putF f v r
    rw [show putF f v ((k, x) :: r) = (if k = f then (k, v) :: r else (k, x) :: putF f v r) from rfl]
    by_cases hk : k = f
    · rw [if_pos hk]
      subst hk
      exact ⟨by simp, fun g h => by simpa using h⟩
    · rw [if_neg hk]
      refine ⟨?_, fun g h => ?_⟩
      · rw [List.map_cons]
        exact List.mem_cons_of_mem _ i1
      · rw [List.map_cons] at h ⊢
        rcases List.mem_cons.mp h with e | e
        · exact List.mem_cons.mpr (.inl e)
        · exact List.mem_cons_of_mem _ (i2 g e)
theorem length_putF (f : Str) (v : V) : ∀ fs : List (Str × V), (putF f v fs).length ≤ fs.length + 1
  | [] => by simp [putF]
  | (k, x) :: r => by
    have ih := length_putF f v r
    rw [show putF f v ((k, x) :: r) = (if k = f then (k, v) :: r else (k, x) :: putF f v r) from rfl]
    by_cases hk : k = f
    · rw [if_pos hk, List.length_cons, List.length_cons]; omega
    · rw [if_neg hk, List.length_cons, List.length_cons]; omega

theorem RelO.some_of {v : V} {o : Option Value} (r : RelO (some v) o) : ∃ u, o = some u ∧ RelV v u := by
  cases o with
  | none => exact (show False from r).elim
  | some u => exact ⟨u, rfl, r⟩
theorem RelO.none_of {o : Option Value} (r : RelO none o) : o = none := by
  cases o with
  | none => rfl
  | some u => exact (show False from r).elim
theorem handed_of {v : V} {u : Value} (r : RelV v u) : PySem.W.handedIn u = true := by
  cases v with
  | non => cases (show u = Value.none from r); rfl
  | bl b => cases (show u = Value.bool b from r); rfl
  | int i => obtain ⟨t, e⟩ := (show ∃ t, u = Value.int i t from r); cases e; rfl
  | str x => obtain ⟨t, e⟩ := (show ∃ t, u = Value.str x t from r); cases e; rfl
  | byt b => obtain ⟨t, e⟩ := (show ∃ t, u = Value.bytes b t from r); cases e; rfl
  | flt b => obtain ⟨t, e⟩ := (show ∃ t, u = Value.float b t from r); cases e; rfl
  | ref a => cases (show u = Value.ref a from r); rfl
  | ty n => cases (show u = Value.type n from r); rfl

section
variable {P : Program} {w : World} {H H' : Hp} {h h' : Heap} {a C dx : Addr} {fs fs' : List (Str × V)}
theorem ins_get (hok : HOk P w H h) (e : H a = some (.ins C dx fs)) : ∃ mA, ObjM h a dx C mA ∧ (∀ f, RelO (fs.lookup f) (mA f)) ∧ PySem.Within mA (fs.map (·.1)) ∧ fs.length ≤ 1000 ∧ H dx = some (.own a) := by
  obtain ⟨d, z, ne, ob, mA, n, r, q⟩ := (show ObjOk P w H h a (.ins C dx fs) from hok a _ e)
  exact ⟨mA, ⟨ob, n, ne⟩, r, q, z, d⟩
end

/-! ### what of the text a class must have -/
structure Cls (K : PySem.W.Frag) (C : Addr) : Prop where
  pg : PySem.W.plainGet K C Str.empty = true
  hd : PySem.W.hasDictIn K C = true
  po : PySem.W.plainOver K C = true
  sa : PySem.W.findIn K (.ref C) "__setattr__" = some (some (.builtin "object.__setattr__"))
theorem Cls.get {K : PySem.W.Frag} {C : Addr} (c : Cls K C) (f : Str) : PySem.W.plainGet K C f = true := c.pg
/-- no class of it has the name -/
def NoAttr (K : PySem.W.Frag) (C : Addr) (f : Str) : Prop := PySem.W.findIn K (.ref C) f = some none
theorem NoAttr.taker {K : PySem.W.Frag} {C : Addr} {f : Str} (n : NoAttr K C f) : PySem.W.takerIn K C f = some none := by
  unfold PySem.W.takerIn
  rw [show PySem.W.findIn K (.ref C) f = some none from n]
  rfl
/-- a constant of the class -/
structure Con (K : PySem.W.Frag) (C : Addr) (f : Str) (v : V) (u : Value) : Prop where
  at_ : PySem.W.findIn K (.ref C) f = some (some u)
  rel : RelV v u
  get : PySem.W.specialIn K u "__get__" = some none
  cp : PySem.W.copiedNames.contains f = false
/-- a method: a plain def of the class or of one above it -/
structure Meth (K : PySem.W.Frag) (C : Addr) (m : Str) (f : Addr) : Prop where
  at_ : PySem.W.findIn K (.ref C) m = some (some (.ref f))
  fn : PySem.W.isFn K (.ref f) = true
  kp : PySem.W.keepIn K (.ref f) = true

section
variable {X : Cx} {pins : List (Addr × Obj)} {σ : St} {H : Hp} {s : Shared} {a C dx : Addr} {fs : List (Str × V)} {f : Str} {v : V} {A : Around} {E : Value → Shared → Prop}

theorem getattr_ok {b : Bool} {Q : Value → Shared → Prop} (I : Inv X pins σ H s) (e : H a = some (.ins C dx fs)) (c : Cls X.K C) (n : NoAttr X.K C f) (l : fs.lookup f = some v)
    (h : ∀ u s', Inv X pins σ H s' → RelV v u → Q u s') : wpAny (model X.prog X.w) A (getAttr (.ref a) f b) Q E s := by
  obtain ⟨mA, O, r, _, _, _⟩ := ins_get I.hok e
  obtain ⟨u, hu, ru⟩ := RelO.some_of (v := v) (o := mA f) (by rw [← l]; exact r f)
  exact get_map I.kIn O (c.get f) c.hd n hu (handed_of ru) (h u _ (I.tok _) ru)

theorem getcon_ok {b : Bool} {u : Value} {Q : Value → Shared → Prop} (I : Inv X pins σ H s) (e : H a = some (.ins C dx fs)) (c : Cls X.K C) (k : Con X.K C f v u) (l : fs.lookup f = none)
    (h : ∀ s', Inv X pins σ H s' → Q u s') : wpAny (model X.prog X.w) A (getAttr (.ref a) f b) Q E s := by
  obtain ⟨mA, O, r, _, _, _⟩ := ins_get I.hok e
  have hn : mA f = none := RelO.none_of (by rw [← l]; exact r f)
  exact get_const I.kIn O (c.get f) c.hd k.at_ k.get k.cp hn (handed_of k.rel) (h _ (I.tok _))

theorem getmeth_ok {m : Str} {g : Addr} {pl : Sem Bool} {Q : Value × List Value → Shared → Prop} (I : Inv X pins σ H s) (e : H a = some (.ins C dx fs)) (c : Cls X.K C) (k : Meth X.K C m g) (l : fs.lookup m = none)
    (h : Q (.ref g, [.ref a]) s) : wpAny (model X.prog X.w) A (getMethod (.ref a) m pl) Q E s := by
  obtain ⟨mA, O, r, _, _, _⟩ := ins_get I.hok e
  have hn : mA m = none := RelO.none_of (by rw [← l]; exact r m)
  exact get_meth I.kIn O (c.get m) k.at_ k.fn hn h

theorem setattr_ok {y : V} {u : Value} {Q : Unit → Shared → Prop} (I : Inv X pins σ H s) (e : H a = some (.ins C dx fs)) (c : Cls X.K C) (n : NoAttr X.K C f) (hl : fs.length < 1000) (ry : RelV y u)
    (h : ∀ s', Inv X pins σ (upd H a (.ins C dx (putF f y fs))) s' → Q () s') : wpAny (model X.prog X.w) A (setAttr (.ref a) f u) Q E s := by
  obtain ⟨mA, O, r, wi, _, ho⟩ := ins_get I.hok e
  have hz : (fs.map (·.1)).length ≤ sizeLine := by rw [List.length_map, sizeLine_eq]; omega
  refine set_map I.kIn O c.sa c.po n.taker c.hd wi hz fun h' O' sb => h _ ?_
  have hd : ∃ o, h'.get? dx = some o := let ⟨o, _, _, e', _⟩ := O'.ns; ⟨o, e'⟩
  refine I.write (x := a) (e := dx) (by rw [e]; exact True.intro) (.inr ho) (fun b q hb z => (sb.2 b hb).trans z) hd ?_
  refine ⟨by rw [upd_ne O.ne]; exact ho, ?_, O.ne, O'.obj, _, O'.ns, fun g => ?_, fun g hg => ?_⟩
  · have := length_putF f y fs; omega
  · show RelO ((putF f y fs).lookup g) (if g = f then some u else mA g)
    rw [lookup_putF]
    by_cases q : g = f
    · rw [if_pos q, if_pos q]; exact ry
    · rw [if_neg q, if_neg q]; exact r g
  · by_cases q : g = f
    · rw [q]; exact (keys_putF f y fs).1
    · refine (keys_putF f y fs).2 g (wi g fun z => hg ?_)
      show (if g = f then some u else mA g) = none
      rw [if_neg q]; exact z

/-- a new instance, tracked, without attributes -/
theorem Inv.made (I : Inv X pins σ H s) : Inv X pins σ (upd (upd H s.heap.objs.size (.own (s.heap.objs.size + 1))) (s.heap.objs.size + 1) (.ins C s.heap.objs.size []))
    { s with heap := (s.heap.push PySem.W.emptyDict).push (PySem.W.instObj C s.heap.objs.size) } := by
  have e1 : (s.heap.push PySem.W.emptyDict).get? s.heap.objs.size = some PySem.W.emptyDict := Heap.get?_push_size s.heap rfl
  have e2 : ((s.heap.push PySem.W.emptyDict).push (PySem.W.instObj C s.heap.objs.size)).get? (s.heap.objs.size + 1) = some (PySem.W.instObj C s.heap.objs.size) := by
    have := Heap.get?_push_size (s.heap.push PySem.W.emptyDict) (o := PySem.W.instObj C s.heap.objs.size) rfl
    rwa [Heap.size_push] at this
  have e3 : (s.heap.push PySem.W.emptyDict).Ns s.heap.objs.size (fun _ => none) := ⟨PySem.W.emptyDict, #[], _, e1, rfl, (fun e he => absurd he (by simp)), fun _ => rfl⟩
  have I1 := I.laid (a := s.heap.objs.size) (o := .own (s.heap.objs.size + 1)) (h' := s.heap.push PySem.W.emptyDict) (t' := s.toks) (fun b u q => Heap.get?_push_of_some _ q) (Nat.le_refl _) ⟨_, e1⟩
  refine I1.laid (a := s.heap.objs.size + 1) (o := .ins C s.heap.objs.size []) (t' := s.toks) (fun b u q => Heap.get?_push_of_some _ q) (Nat.le_of_eq (Heap.size_push _ _)) ?_
  have ne : s.heap.objs.size ≠ s.heap.objs.size + 1 := Nat.ne_of_lt (Nat.lt_succ_self _)
  refine ⟨by rw [upd_ne ne, upd_same], Nat.zero_le _, ne, e2, fun _ => none, (Heap.Ns1.of_empty e3).at fun o q => Heap.get?_push_of_some _ q, fun _ => True.intro, fun y hy => absurd rfl hy⟩

/-- e.f where nothing but the object is asked: through attributeBase (super) and the last hold -/
theorem attr_of {prog : Program} {w : World} {env : Env} {e : Expr} {f : Str} {pos : Pos} {s : Shared} {Q : Value → Shared → Prop} (hb : attributeBase e f env (eval e env) = eval e env)
    (h : wpAny (model prog w) A (eval e env) (fun o s₁ => wpAny (model prog w) A (getAttr o f true) Q E s₁) E s) : wpAny (model prog w) A (eval (.Attribute e f pos) env) Q E s :=
  Attribute_any_ h (by rw [arm_eval_Attribute, hb])
end

/-! ### readings and rules -/
/-- e.f, an attribute of the instance -/
def tFld (K : PySem.W.Frag) (ta : TE) (f : Str) : TE := fun σ H Q => ta σ H fun x H1 => ∃ a C dx fs v, x = .ref a ∧ H1 a = some (.ins C dx fs) ∧ Cls K C ∧ NoAttr K C f ∧ fs.lookup f = some v ∧ Q v H1
/-- e.f, a constant of the class -/
def tCon (K : PySem.W.Frag) (ta : TE) (f : Str) : TE := fun σ H Q => ta σ H fun x H1 => ∃ a C dx fs v u, x = .ref a ∧ H1 a = some (.ins C dx fs) ∧ Cls K C ∧ Con K C f v u ∧ fs.lookup f = none ∧ Q v H1
/-- e.f = value -/
def sFld (K : PySem.W.Frag) (ta tv : TE) (f : Str) : TS := fun D σ H => tv σ H fun y H1 => ta σ H1 fun x H2 => ∃ a C dx fs, x = .ref a ∧ H2 a = some (.ins C dx fs) ∧ Cls K C ∧ NoAttr K C f ∧ fs.length < 1000 ∧
  D.nx σ (upd H2 a (.ins C dx (putF f y fs)))
/-- an augmented operator on two values -/
def InOp (X : Cx) (op : Operator) (rd : V → V → Hp → VK → Prop) : Prop :=
  ∀ (pins : List (Addr × Obj)) (s : Shared) (σ : St) (H : Hp) (x y : V) (u v : Value) (Q : VK), Inv X pins σ H s → RelV x u → RelV y v → rd x y H Q → wpAny (model X.prog X.w) X.A (inplaceOp op u v) (EP X pins σ Q) X.xe s
/-- e.f op= value -/
def sFldAug (K : PySem.W.Frag) (ta tv : TE) (rd : V → V → Hp → VK → Prop) (f : Str) : TS := fun D σ H => ta σ H fun x H1 => ∃ a C dx fs v, x = .ref a ∧ H1 a = some (.ins C dx fs) ∧ Cls K C ∧ NoAttr K C f ∧ fs.lookup f = some v ∧
  tv σ H1 fun y H2 => rd v y H2 fun z H3 => ∃ dx' fs', H3 a = some (.ins C dx' fs') ∧ fs'.length < 1000 ∧ D.nx σ (upd H3 a (.ins C dx' (putF f z fs')))

section
variable {X : Cx} {o e value : Expr} {f : Str} {pos pos' tpos : Pos} {ta tv : TE}
theorem pe_fld (he : PE X e ta) (hb : attributeBase e f X.env (eval e X.env) = eval e X.env) : PE X (.Attribute e f pos) (tFld X.K ta f) := by
  intro pins s σ H Q I h
  refine attr_of hb (thn (he pins s σ H _ I h) fun u s1 ⟨x, H1, I1, rx, a, C, dx, fs, v, ex, ea, c, n, l, q⟩ => ?_)
  subst ex
  obtain rfl : u = Value.ref a := rx
  exact getattr_ok I1 ea c n l fun u' s2 I2 ru => ⟨v, H1, I2, ru, q⟩
theorem pe_con (he : PE X e ta) (hb : attributeBase e f X.env (eval e X.env) = eval e X.env) : PE X (.Attribute e f pos) (tCon X.K ta f) := by
  intro pins s σ H Q I h
  refine attr_of hb (thn (he pins s σ H _ I h) fun u s1 ⟨x, H1, I1, rx, a, C, dx, fs, v, u0, ex, ea, c, k, l, q⟩ => ?_)
  subst ex
  obtain rfl : u = Value.ref a := rx
  exact getcon_ok I1 ea c k l fun s2 I2 => ⟨v, H1, I2, k.rel, q⟩
theorem ps_fld (ha : PE X o ta) (hv : PE X value tv) (hs : swapsWith value (some (.Attribute o f pos')) pos.line X.env = pure false) : PS X (.Assign [.Attribute o f pos'] value pos) (sFld X.K ta tv f) := by
  intro pins s σ H D I h
  refine plainObj_wpAny_Assign_Attribute (thn (hv pins s σ H _ I h) fun u s1 ⟨y, H1, I1, ry, q⟩ => thn (ha pins s1 σ H1 _ I1 q) fun ov s2 ⟨x, H2, I2, rx, a, C, dx, fs, ex, ea, c, n, l, q2⟩ => ?_) hs
  subst ex
  obtain rfl : ov = Value.ref a := rx
  exact setattr_ok I2 ea c n l ry fun s3 I3 => ⟨σ, _, I3, q2⟩
theorem ps_fldaug {op : Operator} {rd : V → V → Hp → VK → Prop} (ha : PE X o ta) (hv : PE X value tv) (hop : InOp X op rd) : PS X (.AugAssign (.Attribute o f tpos) op value pos) (sFldAug X.K ta tv rd f) := by
  intro pins s σ H D I h
  refine wpAny_AugAssign_AttributeAny (thn (ha pins s σ H _ I h) fun ov s1 ⟨x, H1, I1, rx, a, C, dx, fs, v, ex, ea, c, n, l, q⟩ => ?_)
  subst ex
  obtain rfl : ov = Value.ref a := rx
  refine getattr_ok I1 ea c n l fun u s2 I2 ru => thn (hv pins s2 σ H1 _ I2 q) fun w3 s3 ⟨y, H2, I3, ry, q3⟩ => thn (hop pins s3 σ H2 v y u w3 _ I3 ru ry q3) fun w4 s4 ⟨z, H3, I4, rz, dx', fs', ea', l', q4⟩ => ?_
  exact setattr_ok I4 ea' c n l' rz fun s5 I5 => ⟨σ, _, I5, q4⟩
def rAdd : V → V → Hp → VK → Prop := fun x y H Q => ∃ i j, x = .int i ∧ y = .int j ∧ Q (.int (i + j)) H
def rSub : V → V → Hp → VK → Prop := fun x y H Q => ∃ i j, x = .int i ∧ y = .int j ∧ Q (.int (i - j)) H
theorem in_add : InOp X .Add rAdd := by
  rintro pins s σ H x y u v Q I rx ry ⟨i, j, rfl, rfl, q⟩
  obtain ⟨t, rfl⟩ := (show ∃ t, u = Value.int i t from rx)
  obtain ⟨t', rfl⟩ := (show ∃ t', v = Value.int j t' from ry)
  exact PyProof.Rows.iadd_int ⟨.int (i + j), H, I.tok _, ⟨_, rfl⟩, q⟩
theorem in_sub : InOp X .Sub rSub := by
  rintro pins s σ H x y u v Q I rx ry ⟨i, j, rfl, rfl, q⟩
  obtain ⟨t, rfl⟩ := (show ∃ t, u = Value.int i t from rx)
  obtain ⟨t', rfl⟩ := (show ∃ t', v = Value.int j t' from ry)
  exact PyProof.Rows.isub_int ⟨.int (i - j), H, I.tok _, ⟨_, rfl⟩, q⟩

/-- what is between an instance and its method: the tree of a method call -/
theorem methcall_of {pl : Sem Bool} {m : Str} {apos : Pos} {args : List Expr} {pins : List (Addr × Obj)} {s : Shared} {σ : St} {H : Hp} {Q : Value → Shared → Prop} {te : TE} (he : PE X e te) (I : Inv X pins σ H s)
    (h : te σ H fun x H1 => ∃ a C dx fs g, x = .ref a ∧ H1 a = some (.ins C dx fs) ∧ Cls X.K C ∧ Meth X.K C m g ∧ fs.lookup m = none ∧
      ∀ s1, Inv X pins σ H1 s1 → wpAny (model X.prog X.w) X.A (callWith pos (.ref g) [.ref a] (backTo pos (starEach args X.env)) (backToKw pos (keywordEach [] X.env))) Q X.xe s1)
    (ht : eval (.Call (.Attribute e m apos) args [] pos) X.env = (do
      let ov ← eval e X.env
      standAt apos.atName
      let (f, first) ← holding [ov] (getMethod ov m pl)
      callWith pos f first (backTo pos (starEach args X.env)) (backToKw pos (keywordEach [] X.env)))) :
    wpAny (model X.prog X.w) X.A (eval (.Call (.Attribute e m apos) args [] pos) X.env) Q X.xe s := by
  refine PySem.W.methodCall_KW (pl := pl) (thn (he pins s σ H _ I h) fun u s1 ⟨x, H1, I1, rx, a, C, dx, fs, g, ex, ea, c, k, l, q⟩ => ?_) ht
  subst ex
  obtain rfl : u = Value.ref a := rx
  exact getmeth_ok I1 ea c k l (q s1 I1)
end

/-! ### isinstance -/
section
variable {X : Cx} {pins : List (Addr × Obj)} {σ : St} {H : Hp} {s : Shared} {A : Around} {E : Value → Shared → Prop} {Q : Value → Shared → Prop} {c : Value} {b : Bool}
/-- the type of a value, as the fragment's deciders take it; for an instance its class -/
inductive TyOf (K : PySem.W.Frag) (H : Hp) : V → Value → Prop where
  | non : TyOf K H .non (.type "NoneType")
  | bl (x : Bool) : TyOf K H (.bl x) (.type "bool")
  | int (i : Int) : TyOf K H (.int i) (.type "int")
  | str (x : Str) : TyOf K H (.str x) (.type "str")
  | flt (x : UInt64) : TyOf K H (.flt x) (.type "float")
  | lst {a : Addr} {xs : List V} (e : H a = some (.lst xs)) : TyOf K H (.ref a) (.type "list")
  | frz {a : Addr} {o : Obj} {xs : List V} (e : H a = some (.frz o (.lst xs))) : TyOf K H (.ref a) (.type "list")
  | tup {a : Addr} {xs : List V} (e : H a = some (.tup xs)) : TyOf K H (.ref a) (.type "tuple")
  | dK {a : Addr} {kvs : List (Key × V)} (e : H a = some (.dK kvs)) : TyOf K H (.ref a) (.type "dict")
  | dT {a : Addr} {kvs : List (List Key × V)} (e : H a = some (.dT kvs)) : TyOf K H (.ref a) (.type "dict")
  | ins {a C dx : Addr} {fs : List (Str × V)} (e : H a = some (.ins C dx fs)) (cl : Cls K C) (ha : PySem.W.findIn K (.ref C) "__class__" = some (some (.builtin "object.__class__")))
      (hn : PySem.W.specialIn K (.builtin "object.__class__") "__get__" = some (some (.builtin "getset_descriptor.__get__"))) (htk : PySem.W.takesIn K (.builtin "object.__class__") = some true)
      (hm : PySem.W.mroIn K C (.type "object") = some true) : TyOf K H (.ref a) (.ref C)
/-- isinstance(x, c) for one class c, a built-in or an own one: kitOne's answer -/
theorem isinst_ok {x : V} {u t : Value} (I : Inv X pins σ H s) (rx : RelV x u) (ty : TyOf X.K H x t) (e : PySem.W.kitOne X.K t c = some b) (h : ∀ tk, Q (.bool b) { s with toks := tk }) :
    wpAny (model X.prog X.w) A (call (.builtin "isinstance") [u, c]) Q E s := by
  cases ty with
  | non => cases (show u = Value.none from rx); exact PySem.W.kia_one PySem.W.kitx_none I.kIn True.intro e (fun z => nomatch z) h
  | bl y => cases (show u = Value.bool y from rx); exact PySem.W.kia_one PySem.W.kitx_bool I.kIn True.intro e (fun z => nomatch z) h
  | int i => obtain ⟨t, q⟩ := (show ∃ t, u = Value.int i t from rx); cases q; exact PySem.W.kia_one PySem.W.kitx_int I.kIn True.intro e (fun z => nomatch z) h
  | str y => obtain ⟨t, q⟩ := (show ∃ t, u = Value.str y t from rx); cases q; exact PySem.W.kia_one PySem.W.kitx_str I.kIn True.intro e (fun z => nomatch z) h
  | flt y => obtain ⟨t, q⟩ := (show ∃ t, u = Value.float y t from rx); cases q; exact PySem.W.kia_one PySem.W.kitx_float I.kIn True.intro e (fun z => nomatch z) h
  | @lst a xs ea =>
    cases (show u = Value.ref a from rx)
    obtain ⟨_, _, n, _, h1⟩ := (show ObjOk X.prog X.w H s.heap a (.lst xs) from I.hok a _ ea)
    exact PySem.W.kia_one PySem.W.kitx_list I.kIn ⟨_, h1, rfl⟩ e (fun z => nomatch z) h
  | @frz a ob xs ea =>
    cases (show u = Value.ref a from rx)
    obtain ⟨_, _, _, n, _, h1⟩ := (show ObjOk X.prog X.w H s.heap a (.frz ob (.lst xs)) from I.hok a _ ea)
    exact PySem.W.kia_one PySem.W.kitx_list I.kIn ⟨_, h1, rfl⟩ e (fun z => nomatch z) h
  | @tup a xs ea =>
    cases (show u = Value.ref a from rx)
    obtain ⟨_, _, _, p⟩ := (show ObjOk X.prog X.w H s.heap a (.tup xs) from I.hok a _ ea)
    obtain ⟨o, h1, h2, _⟩ := p
    exact PySem.W.kia_one PySem.W.kitx_tuple I.kIn ⟨o, h1, h2⟩ e (fun z => nomatch z) h
  | @dK a kvs ea =>
    cases (show u = Value.ref a from rx)
    obtain ⟨_, _, vs, _, p⟩ := (show ObjOk X.prog X.w H s.heap a (.dK kvs) from I.hok a _ ea)
    obtain ⟨o, es, ep, h1, h2, _⟩ := p
    exact PySem.W.kia_one PySem.W.kitx_dict I.kIn ⟨o, h1, h2.1⟩ e (fun z => nomatch z) h
  | @dT a kvs ea =>
    cases (show u = Value.ref a from rx)
    obtain ⟨_, _, xs, _, o, es, ep, h1, h2, _⟩ := (show ObjOk X.prog X.w H s.heap a (.dT kvs) from I.hok a _ ea)
    exact PySem.W.kia_one PySem.W.kitx_dict I.kIn ⟨o, h1, h2.1⟩ e (fun z => nomatch z) h
  | @ins a C dx fs ea cl ha hn htk hm =>
    cases (show u = Value.ref a from rx)
    obtain ⟨mA, O, _⟩ := ins_get I.hok ea
    obtain ⟨od, J, _⟩ := O.look
    exact PySem.W.kia_one (PySem.W.kitx_own (cl.get _) cl.hd ha hn htk hm) I.kIn J e (fun z => nomatch z) h
end
end L2

namespace L2
open PySem PySem.Spec PyProof.Rows

/-! ### room -/
structure Room (k : Nat) (A : Around) : Prop where
  hd : A.handled = none
  dp : A.depth + 3 * k + 5 < recursionLimit
  un : A.units + 16 * k + 200 < cLine
theorem Room.mono {j k : Nat} {A : Around} (r : Room k A) (h : j ≤ k) : Room j A := ⟨r.hd, by have := r.dp; omega, by have := r.un; omega⟩
theorem Room.deeper {k : Nat} {A : Around} (r : Room (k + 1) A) (env : Env) : Room k (A.deeper env) :=
  ⟨r.hd, by have := r.dp; show A.depth + 1 + 3 * k + 5 < _; omega, by have := r.un; show A.units + 3 + 16 * k + 200 < _; omega⟩
theorem Room.in1 {k : Nat} {A : Around} (r : Room (k + 1) A) : Room k A.in1 :=
  ⟨r.hd, by have := r.dp; show A.depth + 3 * k + 5 < _; omega, by have := r.un; show A.units + 1 + 16 * k + 200 < _; omega⟩
theorem make_depth {A : Around} {C : Addr} {us : List Value} {kw : List (Str × Value)} : (A.under (.builtin "type.__call__" ⟨.ref C :: us, kw⟩)).depth = A.depth + 1 := by
  first | rfl | simp [Around.under, Code.weight, Code.isCreation, Code.isGuard, Code.isCaller, Code.frames, Code.isFrame, guardIds]
theorem make_units {A : Around} {C : Addr} {us : List Value} {kw : List (Str × Value)} : (A.under (.builtin "type.__call__" ⟨.ref C :: us, kw⟩)).units = A.units + 1 := by
  first | rfl | simp [Around.under, Code.cUnits, Code.frames, Code.isFrame]
theorem Room.make {k : Nat} {A : Around} (r : Room (k + 1) A) (C : Addr) (us : List Value) (kw : List (Str × Value)) : Room k (A.under (.builtin "type.__call__" ⟨.ref C :: us, kw⟩)) :=
  ⟨r.hd, by have := r.dp; rw [make_depth]; omega, by have := r.un; rw [make_units]; omega⟩
theorem Room.depth {k : Nat} {A : Around} (r : Room k A) : A.depth < recursionLimit := by have := r.dp; omega
theorem Room.units {k : Nat} {A : Around} (r : Room k A) : A.units + 64 < cLine := by have := r.un; omega
theorem Room.units0 {k : Nat} {A : Around} (r : Room k A) : A.units < cLine := by have := r.un; omega

/-! ### argument lists and displays -/
def tNil : TA := fun _ H Q => Q [] H
def tCons (ta : TE) (tr : TA) : TA := fun σ H Q => ta σ H fun x H1 => tr σ H1 fun xs H2 => Q (x :: xs) H2
section
variable {X : Cx} {e : Expr} {es : List Expr} {te : TE} {t : TA} {pos : Pos}
theorem pa_nil : PA X [] tNil := fun _ _ _ _ H Q I h => Calls.spliced_nil ⟨[], H, I, .nil, h⟩
theorem pa_cons (ha : PE X e te) (hr : PA X es t) (hs : starEach (e :: es) X.env = (false, eval e X.env) :: starEach es X.env := by rfl) : PA X (e :: es) (tCons te t) := by
  intro pos pins s σ H Q I h
  rw [hs]
  show wpAny _ _ (spliced ((false, eval e X.env) :: backTo pos (starEach es X.env))) _ _ s
  refine Calls.spliced_cons (thn (ha pins s σ H _ I h) fun u s1 ⟨x, H1, I1, r1, q1⟩ => ?_)
  exact thn (hr pos pins s1 σ H1 _ I1 q1) fun us s2 ⟨xs, H2, I2, r2, q2⟩ => ⟨x :: xs, H2, I2, .cons r1 r2, q2⟩

/-- a tuple, a list of written items -/
def tTup (t : TA) : TE := fun σ H Q => t σ H fun xs H1 => xs.length ≤ sizeLine ∧ ∀ p, H1 p = none → Q (.ref p) (upd H1 p (.tup xs))
def tLst (t : TA) : TE := fun σ H Q => t σ H fun xs H1 => xs.length ≤ sizeLine ∧ ∀ p, H1 p = none → Q (.ref p) (upd H1 p (.lst xs))
theorem pe_tup {x1} (h : PA X es t) : PE X (.Tuple es x1 pos) (tTup t) := by
  intro pins s σ H Q I hq
  refine wpAny_Tuple_spliced (thn (h pos pins s σ H _ I hq) fun us s1 ⟨xs, H1, I1, r, z, q⟩ => ⟨by rw [← r.length]; exact z, ?_⟩)
  have hf : H1 s1.heap.objs.size = none := I1.hok.fresh (Nat.le_refl _)
  refine ⟨.ref s1.heap.objs.size, upd H1 s1.heap.objs.size (.tup xs), I1.laid (t' := s1.toks) (fun b u e => Heap.get?_push_of_some _ e) (Nat.le_refl _) ?_, rfl, q _ hf⟩
  exact ⟨z, us, r, ⟨_, Heap.get?_push_size _ rfl, rfl, _, rfl⟩⟩
theorem pe_lst (h : PA X es t) : PE X (.List es pos) (tLst t) := by
  intro pins s σ H Q I hq
  refine wpAny_List_spliced (thn (h pos pins s σ H _ I hq) fun us s1 ⟨xs, H1, I1, r, z, q⟩ => ⟨by rw [← r.length]; exact z, ?_⟩)
  have hf : H1 s1.heap.objs.size = none := I1.hok.fresh (Nat.le_refl _)
  refine ⟨.ref s1.heap.objs.size, upd H1 s1.heap.objs.size (.lst xs), I1.laid (t' := s1.toks) (fun b u e => Heap.get?_push_of_some _ e) (Nat.le_refl _) ?_, rfl, q _ hf⟩
  exact ⟨z, us, 0, r, Heap.get?_push_size _ rfl⟩
end

/-! ### what a def promises -/
/-- a def's promise: the bound arguments in the parameters' order, the heap, the wanted end, the wanted exception -/
abbrev Sp := List V → Hp → VK → XK → Prop
/-- how an exception lies behind a call (file 08 gives it): the callers' frames, abstract heap and state ahead of the call, the wish, the exception, the state -/
abbrev CXT := List Env → Hp → Shared → XK → Value → Shared → Prop

/-- the state at a call -/
structure Env0 (P : Program) (w : World) (K : PySem.W.Frag) (mg : Str → Option Value) (base : Heap) (A : Around) (outer : List Env) (s : Shared) (H : Hp) : Prop where
  frames : A.frames = some outer
  mod : Mod K mg base
  bs : ∀ b o, base.get? b = some o → s.heap.get? b = some o ∧ H b = none
  bsz : base.objs.size ≤ s.heap.objs.size
  funs : s.heap.FunFrames base outer
  frf : ∀ b ∈ frs outer, H b = none
  hok : HOk P w H s.heap
  bare : AllBare s.gens
/-- a call's end -/
def CE (outer : List Env) (P : Program) (w : World) (H : Hp) (s : Shared) (Q : VK) (u : Value) (s' : Shared) : Prop :=
  ∃ v H', s'.os = s.os ∧ AllBare s'.gens ∧ Un (frs outer) [] H H' s.heap s'.heap ∧ HOk P w H' s'.heap ∧ RelV v u ∧ Q v H'
def CR (CX : CXT) (outer : List Env) (P : Program) (w : World) (H : Hp) (s : Shared) (Q : VK) (E : XK) (r : Result) (s' : Shared) : Prop :=
  match r with
  | .ok (.ret u) => CE outer P w H s Q u s'
  | .ok _ => False
  | .error e => CX outer H s E e s'
structure FnOk (P : Program) (w : World) (K : PySem.W.Frag) (mg : Str → Option Value) (base : Heap) (CX : CXT) (k : Nat) (f : Addr) (fd : FuncData) (ps : List Str) (sp : Sp) : Prop where
  len : ∀ vs H Q E, sp vs H Q E → vs.length = ps.length
  run : ∀ (A : Around) (outer : List Env) (s : Shared) (H : Hp) (args : Args) (us : List Value) (vs : List V) (Q : VK) (E : XK), Room k A → Env0 P w K mg base A outer s H → BindsTo s fd args (ps.zip us) → Vals vs us → sp vs H Q E →
    codeAny (model P w) A (.call (.ref f) args) (CR CX outer P w H s Q E) s
theorem FnOk.mono {P : Program} {w : World} {K : PySem.W.Frag} {mg : Str → Option Value} {base : Heap} {CX : CXT} {j k : Nat} {f : Addr} {fd : FuncData} {ps : List Str} {sp : Sp} (F : FnOk P w K mg base CX j f fd ps sp) (h : j ≤ k) :
    FnOk P w K mg base CX k f fd ps sp := ⟨F.len, fun A outer s H args us vs Q E hr => F.run A outer s H args us vs Q E (hr.mono h)⟩
/-- a weaker promise -/
theorem FnOk.imp {P : Program} {w : World} {K : PySem.W.Frag} {mg : Str → Option Value} {base : Heap} {CX : CXT} {k : Nat} {f : Addr} {fd : FuncData} {ps : List Str} {sp sp' : Sp} (F : FnOk P w K mg base CX k f fd ps sp)
    (h : ∀ vs H Q E, sp' vs H Q E → sp vs H Q E) : FnOk P w K mg base CX k f fd ps sp' :=
  ⟨fun vs H Q E q => F.len vs H Q E (h _ _ _ _ q), fun A outer s H args us vs Q E hr he hb hv hs => F.run A outer s H args us vs Q E hr he hb hv (h _ _ _ _ hs)⟩

theorem Env0.make {P : Program} {w : World} {K : PySem.W.Frag} {mg : Str → Option Value} {base : Heap} {A : Around} {outer : List Env} {s : Shared} {H : Hp} (e : Env0 P w K mg base A outer s H) (C : Addr) (us : List Value) (kw : List (Str × Value)) :
    Env0 P w K mg base (A.under (.builtin "type.__call__" ⟨.ref C :: us, kw⟩)) outer s H := ⟨by first | exact e.frames | (simpa [Around.under, Code.envs, Code.isFrame, pushEnvs] using e.frames), e.mod, e.bs, e.bsz, e.funs, e.frf, e.hok, e.bare⟩
theorem Env0.in1 {P : Program} {w : World} {K : PySem.W.Frag} {mg : Str → Option Value} {base : Heap} {A : Around} {outer : List Env} {s : Shared} {H : Hp} (e : Env0 P w K mg base A outer s H) :
    Env0 P w K mg base A.in1 outer s H := ⟨e.frames, e.mod, e.bs, e.bsz, e.funs, e.frf, e.hok, e.bare⟩

section
variable {X : Cx} {pins : List (Addr × Obj)} {σ : St} {H : Hp} {s s' : Shared}
/-- from a body: what a callee wants -/
theorem Inv.env0 (I : Inv X pins σ H s) : Env0 X.prog X.w X.K X.mg X.base X.A X.stack s H :=
  ⟨I.ok.frames, I.ok.mod, I.bs, Nat.le_trans I.ok.bsz I.sz, I.stack, I.stkFree, I.hok, I.bare⟩
/-- behind a call -/
theorem Inv.after {Q : VK} {u : Value} (I : Inv X pins σ H s) (h : CE X.stack X.prog X.w H s Q u s') : EP X pins σ Q u s' := by
  obtain ⟨v, H', os, bare, un, hok, r, q⟩ := h
  obtain ⟨hh, g, d, t, os'⟩ := s'
  obtain rfl : os' = s.os := os
  exact ⟨v, H', I.call (h' := hh) (g' := g) (d' := d) (t' := t) (ch := []) un hok bare (fun b z => absurd z (by simp)), r, q⟩
end

/-! ### calls -/
/-- f(..): the written arguments, then the defaults dvs; E: what is wanted of an exception -/
def tCall (sp : Sp) (dvs : List V) (E : XK) (t : TA) : TE := fun σ H Q => t σ H fun vs H1 => sp (vs ++ dvs) H1 Q E
/-- o.m(..) of an instance of the class at C -/
def tMeth (C : Addr) (m : Str) (sp : Sp) (dvs : List V) (E : XK) (ta : TE) (t : TA) : TE := fun σ H Q => ta σ H fun x H1 => ∃ a dx fs, x = .ref a ∧ H1 a = some (.ins C dx fs) ∧ fs.lookup m = none ∧
  t σ H1 fun vs H2 => sp (x :: (vs ++ dvs)) H2 Q E
/-- C(..): a new instance and its dict, then __init__ -/
def tMake (C : Addr) (sp : Sp) (dvs : List V) (E : XK) (t : TA) : TE := fun σ H Q => t σ H fun vs H1 => ∀ x dx, H1 x = none → H1 dx = none → dx ≠ x →
  sp (.ref x :: (vs ++ dvs)) (upd (upd H1 dx (.own x)) x (.ins C dx [])) (fun v H2 => v = .non ∧ Q (.ref x) H2) E

/-- how the parameters are bound: us the positional arguments, kw the keywords' values by name, ds the defaults that fill up -/
def Binds (K : PySem.W.Frag) (fd : FuncData) (ps : List Str) (ds : List Value) : Prop :=
  ∀ (s : Shared) (us : List Value), K.In s.heap → (us ++ ds).length = ps.length → BindsTo s fd ⟨us, []⟩ (ps.zip (us ++ ds))
/-- every parameter is given -/
theorem Binds.all {K : PySem.W.Frag} {fd : FuncData} {ps : List Str} (h : ∀ us : List Value, us.length = ps.length → bindArgs fd ⟨us, []⟩ = pure (ps.zip us)) : Binds K fd ps [] := fun s us _ hl => by
  rw [List.append_nil] at hl ⊢
  exact .of_eq (h us hl)

/-- an exception of a callee reaches what this body wants of exceptions -/
def Passes (CX : CXT) (X : Cx) (E : XK) : Prop := ∀ (pins : List (Addr × Obj)) (σ : St) (H : Hp) (s : Shared) (e : Value) (s' : Shared), Inv X pins σ H s → CX X.stack H s E e s' → X.xe e s'

section
variable {X : Cx} {CX : CXT} {k : Nat} {f C : Addr} {fd : FuncData} {ps : List Str} {sp : Sp} {dvs : List V} {ds : List Value} {E : XK} {x m : Str} {p pos apos : Pos} {e o : Expr} {es : List Expr} {ta : TE} {t : TA}

/-- the callee runs -/
theorem run_fn {pins : List (Addr × Obj)} {σ : St} {H : Hp} {s : Shared} {Q : VK} {us : List Value} {vs : List V} (F : FnOk X.prog X.w X.K X.mg X.base CX k f fd ps sp) (hr : Room k X.A) (hb : Binds X.K fd ps ds) (hd : Vals dvs ds) (hx : Passes CX X E)
    (I : Inv X pins σ H s) (r : Vals vs us) (h : sp (vs ++ dvs) H Q E) : wpAny (model X.prog X.w) X.A (call (.ref f) us) (EP X pins σ Q) X.xe s := by
  have r2 : Vals (vs ++ dvs) (us ++ ds) := r.append hd
  have hl : (us ++ ds).length = ps.length := by rw [← r2.length]; exact F.len _ _ _ _ h
  refine wpAny_call (codeAny_mono (F.run X.A X.stack s H ⟨us, []⟩ (us ++ ds) (vs ++ dvs) Q E hr I.env0 (hb s us I.kIn hl) r2 h) fun r s' hq => ?_)
  cases r with
  | error e => exact hx pins σ H s e s' I hq
  | ok fl =>
    cases fl with
    | ret u => exact I.after hq
    | next => exact False.elim hq
    | brk => exact False.elim hq
    | cont => exact False.elim hq

theorem pe_call (F : FnOk X.prog X.w X.K X.mg X.base CX k f fd ps sp) (hr : Room k X.A) (hg : Gl X x) (hm : X.mg x = some (.ref f)) (hk : PySem.W.keepIn X.K (.ref f) = true) (hb : Binds X.K fd ps ds) (hd : Vals dvs ds) (hx : Passes CX X E)
    (ha : PA X (e :: es) t) (hdb : (x == ("__debug__" : Str)) = false := by decide) (he : starEach (e :: es) X.env = (false, eval e X.env) :: starEach es X.env := by rfl) (hpl : (backTo pos (starEach es X.env)).any (·.1) = false := by rfl) :
    PE X (.Call (.Name x p) (e :: es) [] pos) (tCall sp dvs E t) := by
  intro pins s σ H Q I h
  refine wpAny_Call_Name_kw (ld_glob I hg hm ?_ hdb)
  refine PySem.W.callWith_K (h₀ := X.base) I.ok.mod.kin hk (thn (ha pos pins s σ H _ I h) fun us s1 ⟨vs, H1, I1, r, q⟩ => ⟨I1.kIn, ?_⟩) he hpl
  exact run_fn F hr hb hd hx I1 r q
theorem pe_call0 (F : FnOk X.prog X.w X.K X.mg X.base CX k f fd ps sp) (hr : Room k X.A) (hg : Gl X x) (hm : X.mg x = some (.ref f)) (hk : PySem.W.keepIn X.K (.ref f) = true) (hb : Binds X.K fd ps ds) (hd : Vals dvs ds) (hx : Passes CX X E)
    (hdb : (x == ("__debug__" : Str)) = false := by decide) : PE X (.Call (.Name x p) [] [] pos) (tCall sp dvs E tNil) := by
  intro pins s σ H Q I h
  refine wpAny_Call_Name_kw (ld_glob I hg hm ?_ hdb)
  exact PySem.W.callWith_K0 I.kIn hk (run_fn (us := []) F hr hb hd hx I .nil h)

/-- o.m(e, ..) -/
theorem pe_meth {pl : Sem Bool} (he : PE X o ta) (c : Cls X.K C) (hm : Meth X.K C m f) (F : FnOk X.prog X.w X.K X.mg X.base CX k f fd ps sp) (hr : Room k X.A) (hb : Binds X.K fd ps ds) (hd : Vals dvs ds) (hx : Passes CX X E) (ha : PA X (e :: es) t)
    (hst : starEach (e :: es) X.env = (false, eval e X.env) :: starEach es X.env := by rfl) (hpl : (backTo pos (starEach es X.env)).any (·.1) = false := by rfl)
    (ht : eval (.Call (.Attribute o m apos) (e :: es) [] pos) X.env = (do
      let ov ← eval o X.env
      standAt apos.atName
      let (f, first) ← holding [ov] (getMethod ov m pl)
      callWith pos f first (backTo pos (starEach (e :: es) X.env)) (backToKw pos (keywordEach [] X.env))) := by rfl) :
    PE X (.Call (.Attribute o m apos) (e :: es) [] pos) (tMeth C m sp dvs E ta t) := by
  intro pins s σ H Q I h
  refine PySem.W.methodCall_KW (pl := pl) (thn (he pins s σ H _ I h) fun u s1 ⟨x, H1, I1, rx, a, dx, fs, ex, ea, l, q⟩ => ?_) ht
  subst ex
  obtain rfl : u = Value.ref a := rx
  refine getmeth_ok I1 ea c hm l ?_
  refine PySem.W.callWith_K (first := [.ref a]) (h₀ := X.base) I.ok.mod.kin hm.kp (thn (ha pos pins s1 σ H1 _ I1 q) fun us s2 ⟨vs, H2, I2, r, q2⟩ => ⟨I2.kIn, ?_⟩) hst hpl
  exact run_fn (us := .ref a :: us) (vs := .ref a :: vs) F hr hb hd hx I2 (.cons rfl r) q2
/-- o.m() -/
theorem pe_meth0 {pl : Sem Bool} (he : PE X o ta) (c : Cls X.K C) (hm : Meth X.K C m f) (F : FnOk X.prog X.w X.K X.mg X.base CX k f fd ps sp) (hr : Room k X.A) (hb : Binds X.K fd ps ds) (hd : Vals dvs ds) (hx : Passes CX X E)
    (ht : eval (.Call (.Attribute o m apos) [] [] pos) X.env = (do
      let ov ← eval o X.env
      standAt apos.atName
      let (f, first) ← holding [ov] (getMethod ov m pl)
      callWith pos f first (backTo pos (starEach [] X.env)) (backToKw pos (keywordEach [] X.env))) := by rfl) :
    PE X (.Call (.Attribute o m apos) [] [] pos) (tMeth C m sp dvs E ta tNil) := by
  intro pins s σ H Q I h
  refine PySem.W.methodCall_KW (pl := pl) (thn (he pins s σ H _ I h) fun u s1 ⟨x, H1, I1, rx, a, dx, fs, ex, ea, l, q⟩ => ?_) ht
  subst ex
  obtain rfl : u = Value.ref a := rx
  refine getmeth_ok I1 ea c hm l ?_
  exact PySem.W.callWith_K0 (first := [.ref a]) I1.kIn hm.kp (run_fn (us := [.ref a]) (vs := [.ref a]) F hr hb hd hx I1 (.cons rfl .nil) q)

/-- what a class must have to be made -/
structure Mk (K : PySem.W.Frag) (C f : Addr) : Prop where
  makes : PySem.W.makesIn K C = true
  init : PySem.W.findIn K (.ref C) "__init__" = some (some (.ref f))
  fn : PySem.W.isFn K (.ref f) = true
  kp : PySem.W.keepIn K (.ref C) = true

theorem run_make {pins : List (Addr × Obj)} {σ : St} {H : Hp} {s : Shared} {Q : VK} {us : List Value} {vs : List V} (M : Mk X.K C f) (F : FnOk X.prog X.w X.K X.mg X.base CX k f fd ps sp) (hr : Room (k + 1) X.A) (hb : Binds X.K fd ps ds) (hd : Vals dvs ds)
    (hx : Passes CX X E) (I : Inv X pins σ H s) (r : Vals vs us)
    (h : ∀ x dx, H x = none → H dx = none → dx ≠ x → sp (.ref x :: (vs ++ dvs)) (upd (upd H dx (.own x)) x (.ins C dx [])) (fun v H2 => v = .non ∧ Q (.ref x) H2) E) :
    wpAny (model X.prog X.w) X.A (call (.ref C) us) (EP X pins σ Q) X.xe s := by
  have hq := h (s.heap.objs.size + 1) s.heap.objs.size (I.hok.fresh (Nat.le_succ _)) (I.hok.fresh (Nat.le_refl _)) (Nat.ne_of_lt (Nat.lt_succ_self _))
  have I2 := Inv.made (C := C) I
  have r2 : Vals (V.ref (s.heap.objs.size + 1) :: (vs ++ dvs)) (Value.ref (s.heap.objs.size + 1) :: (us ++ ds)) := .cons rfl (r.append hd)
  have hl : (Value.ref (s.heap.objs.size + 1) :: us ++ ds).length = ps.length := by
    have e := r2.length
    rw [F.len _ _ _ _ hq] at e
    exact e.symm
  refine wpAny_call (make_map (f := f) I.kIn M.makes M.init (beq_iff_eq.mp M.fn) (codeAny_mono (F.run _ X.stack _ _ ⟨Value.ref (s.heap.objs.size + 1) :: us, []⟩ (Value.ref (s.heap.objs.size + 1) :: (us ++ ds)) _ _ E (hr.make C us [])
    (I2.env0.make C us []) (hb _ (Value.ref (s.heap.objs.size + 1) :: us) I2.kIn hl) r2 hq) fun r s' hq' => ?_))
  cases r with
  | error e => exact hx pins σ _ _ e s' I2 hq'
  | ok fl =>
    cases fl with
    | ret u =>
      obtain ⟨v, H', I3, rv, ev, q3⟩ := I2.after hq'
      subst ev
      exact ⟨rv, ⟨V.ref (s.heap.objs.size + 1), H', I3, rfl, q3⟩⟩
    | next => exact False.elim hq'
    | brk => exact False.elim hq'
    | cont => exact False.elim hq'
theorem pe_make (M : Mk X.K C f) (F : FnOk X.prog X.w X.K X.mg X.base CX k f fd ps sp) (hr : Room (k + 1) X.A) (hg : Gl X x) (hm : X.mg x = some (.ref C)) (hb : Binds X.K fd ps ds) (hd : Vals dvs ds) (hx : Passes CX X E)
    (ha : PA X (e :: es) t) (hdb : (x == ("__debug__" : Str)) = false := by decide) (he : starEach (e :: es) X.env = (false, eval e X.env) :: starEach es X.env := by rfl) (hpl : (backTo pos (starEach es X.env)).any (·.1) = false := by rfl) :
    PE X (.Call (.Name x p) (e :: es) [] pos) (tMake C sp dvs E t) := by
  intro pins s σ H Q I h
  refine wpAny_Call_Name_kw (ld_glob I hg hm ?_ hdb)
  refine PySem.W.callWith_K (h₀ := X.base) I.ok.mod.kin M.kp (thn (ha pos pins s σ H _ I h) fun us s1 ⟨vs, H1, I1, r, q⟩ => ⟨I1.kIn, ?_⟩) he hpl
  exact run_make M F hr hb hd hx I1 r q
theorem pe_make0 (M : Mk X.K C f) (F : FnOk X.prog X.w X.K X.mg X.base CX k f fd ps sp) (hr : Room (k + 1) X.A) (hg : Gl X x) (hm : X.mg x = some (.ref C)) (hb : Binds X.K fd ps ds) (hd : Vals dvs ds) (hx : Passes CX X E)
    (hdb : (x == ("__debug__" : Str)) = false := by decide) : PE X (.Call (.Name x p) [] [] pos) (tMake C sp dvs E tNil) := by
  intro pins s σ H Q I h
  refine wpAny_Call_Name_kw (ld_glob I hg hm ?_ hdb)
  exact PySem.W.callWith_K0 I.kIn M.kp (run_make (us := []) M F hr hb hd hx I .nil h)
end

/-! ### keywords -/
/-- the values of the keywords, from the left -/
def PK (X : Cx) (kws : List Keyword) (t : TA) : Prop :=
  ∀ (pos : Pos) (pins : List (Addr × Obj)) (s : Shared) (σ : St) (H : Hp) (Q : List V → Hp → Prop), Inv X pins σ H s → t σ H Q → wpAny (model X.prog X.w) X.A (evalAll ((backToKw pos (keywordEach kws X.env)).map (·.2))) (AP X pins σ Q) X.xe s
section
variable {X : Cx} {CX : CXT} {k : Nat} {f C : Addr} {fd : FuncData} {ps ks : List Str} {sp : Sp} {E : XK} {x m : Str} {p pos apos kpos : Pos} {e o : Expr} {es : List Expr} {kws : List Keyword} {te ta : TE} {t tk : TA} {nm : Option Str}
theorem pk_nil : PK X [] tNil := fun _ _ _ _ H Q I h => wpAny_evalAll_nil ⟨[], H, I, .nil, h⟩
theorem pk_cons (ha : PE X e te) (hr : PK X kws t) : PK X (⟨nm, e, kpos⟩ :: kws) (tCons te t) := by
  intro pos pins s σ H Q I h
  show wpAny _ _ (evalAll ((do let v ← eval e X.env; standAt pos; pure v) :: (backToKw pos (keywordEach kws X.env)).map (·.2))) _ _ s
  refine wpAny_evalAll_cons (wpAny_bind (thn (ha pins s σ H _ I h) fun u s1 ⟨x, H1, I1, r1, q1⟩ => wpAny_bind (wpAny_standAt (wpAny_pure ?_))))
  exact thn (hr pos pins s1 σ H1 _ I1 q1) fun us s2 ⟨xs, H2, I2, r2, q2⟩ => ⟨x :: xs, H2, I2, .cons r1 r2, q2⟩

/-- how a call with keywords binds: g puts the positional values us and the keywords' values ws (names ks) in the parameters' order, defaults among them -/
structure KBinds (K : PySem.W.Frag) (fd : FuncData) (ps ks : List Str) (g : List Value → List Value → List Value) (gV : List V → List V → List V) : Prop where
  to : ∀ (s : Shared) (us ws : List Value), K.In s.heap → (g us ws).length = ps.length → BindsTo s fd ⟨us, ks.zip ws⟩ (ps.zip (g us ws))
  rel : ∀ {vs : List V} {us : List Value} {zs : List V} {ws : List Value}, Vals vs us → Vals zs ws → Vals (gV vs zs) (g us ws)
def tCallK (sp : Sp) (gV : List V → List V → List V) (E : XK) (t tk : TA) : TE := fun σ H Q => t σ H fun vs H1 => tk σ H1 fun zs H2 => sp (gV vs zs) H2 Q E
variable {g : List Value → List Value → List Value} {gV : List V → List V → List V}
theorem run_fnk {pins : List (Addr × Obj)} {σ : St} {H : Hp} {s : Shared} {Q : VK} {us ws : List Value} {vs zs : List V} (F : FnOk X.prog X.w X.K X.mg X.base CX k f fd ps sp) (hr : Room k X.A) (hb : KBinds X.K fd ps ks g gV) (hx : Passes CX X E)
    (I : Inv X pins σ H s) (r : Vals vs us) (rz : Vals zs ws) (h : sp (gV vs zs) H Q E) : wpAny (model X.prog X.w) X.A (call (.ref f) us (ks.zip ws)) (EP X pins σ Q) X.xe s := by
  have r2 := hb.rel r rz
  have hl : (g us ws).length = ps.length := by rw [← r2.length]; exact F.len _ _ _ _ h
  refine wpAny_call (codeAny_mono (F.run X.A X.stack s H ⟨us, ks.zip ws⟩ (g us ws) (gV vs zs) Q E hr I.env0 (hb.to s us ws I.kIn hl) r2 h) fun r s' hq => ?_)
  cases r with
  | error e => exact hx pins σ H s e s' I hq
  | ok fl =>
    cases fl with
    | ret u => exact I.after hq
    | next => exact False.elim hq
    | brk => exact False.elim hq
    | cont => exact False.elim hq
/-- f(e, .., k = v, ..) -/
theorem pe_callK (F : FnOk X.prog X.w X.K X.mg X.base CX k f fd ps sp) (hr : Room k X.A) (hg : Gl X x) (hm : X.mg x = some (.ref f)) (hk : PySem.W.keepIn X.K (.ref f) = true) (hb : KBinds X.K fd ps ks g gV) (hx : Passes CX X E)
    (ha : PA X (e :: es) t) (hkw : PK X kws tk) (hall : (backToKw pos (keywordEach kws X.env)).all (·.1.isSome) = true := by rfl) (hks : (backToKw pos (keywordEach kws X.env)).filterMap (·.1) = ks := by rfl)
    (hdb : (x == ("__debug__" : Str)) = false := by decide) (he : starEach (e :: es) X.env = (false, eval e X.env) :: starEach es X.env := by rfl)
    (hpl : ((backTo pos (starEach (e :: es) X.env)).any (·.1) || (backToKw pos (keywordEach kws X.env)).any (·.1.isNone)) = false := by rfl) :
    PE X (.Call (.Name x p) (e :: es) kws pos) (tCallK sp gV E t tk) := by
  intro pins s σ H Q I h
  refine wpAny_Call_Name_kw (ld_glob I hg hm ?_ hdb)
  refine PySem.W.callWith_KW (h₀ := X.base) I.ok.mod.kin hk hall (thn (ha pos pins s σ H _ I h) fun us s1 ⟨vs, H1, I1, r, q⟩ => ?_) hpl he
  refine thn (hkw pos pins s1 σ H1 _ I1 q) fun ws s2 ⟨zs, H2, I2, rz, q2⟩ => ⟨I2.kIn, ?_⟩
  rw [hks]
  exact run_fnk F hr hb hx I2 r rz q2
end

/-! ### a def's body keeps its promise -/
/-- names: the parameters first -/
structure FnScope (N P : List Str) (sc : Scope) : Prop where
  kind : sc.kind = .function
  co : sc.isCoroutine = false
  gen : sc.isGenerator = false
  nd : N.Nodup
  pre : N.take P.length = P
  par : ∀ x ∈ P, sc.names.lookup x = some .local ∨ sc.names.lookup x = some .cell
  nofree : ∀ y ∈ sc.names, y.2 ≠ .free

theorem bindL_out {kindOf : Str → Option NameKind} {x : Str} : ∀ {binds : List (Str × Value)} {m : Str → Option Value}, (∀ v, (x, v) ∉ binds) → bindL kindOf binds m x = m x
  | [], _, _ => rfl
  | (n, v) :: r, m, h => by
    unfold bindL
    rw [bindL_out fun w hw => h w (List.mem_cons_of_mem _ hw)]
    split
    · have : x ≠ n := by rintro rfl; exact h v List.mem_cons_self
      simp [this]
    · rfl
theorem bindC_out {kindOf : Str → Option NameKind} {x : Str} : ∀ {binds : List (Str × Value)} {m : Str → Option Value}, (∀ v, (x, v) ∉ binds) → bindC kindOf binds m x = m x
  | [], _, _ => rfl
  | (n, v) :: r, m, h => by
    unfold bindC
    rw [bindC_out fun w hw => h w (List.mem_cons_of_mem _ hw)]
    split
    · rfl
    · have : x ≠ n := by rintro rfl; exact h v List.mem_cons_self
      simp [this]
theorem bindL_get {kindOf : Str → Option NameKind} {x : Str} {v : Value} : ∀ {P : List Str} {vs : List Value} {i : Nat} {m : Str → Option Value}, P.Nodup → P[i]? = some x → vs[i]? = some v → kindOf x = some .local →
    bindL kindOf (P.zip vs) m x = some v
  | [], _, _, _, _, h, _, _ => by simp at h
  | _ :: _, [], _, _, _, _, h, _ => by simp at h
  | p :: P, w :: vs, 0, m, nd, h1, h2, hk => by
    simp at h1 h2; subst h1; subst h2
    show bindL kindOf ((p, w) :: P.zip vs) m p = _
    unfold bindL
    rw [bindL_out fun v hv => (List.nodup_cons.mp nd).1 (List.of_mem_zip hv).1, if_pos hk]
    simp
  | p :: P, w :: vs, i + 1, m, nd, h1, h2, hk => by
    show bindL kindOf ((p, w) :: P.zip vs) m x = _
    unfold bindL
    exact bindL_get (i := i) (List.nodup_cons.mp nd).2 (by simpa using h1) (by simpa using h2) hk
theorem bindC_get {kindOf : Str → Option NameKind} {x : Str} {v : Value} : ∀ {P : List Str} {vs : List Value} {i : Nat} {m : Str → Option Value}, P.Nodup → P[i]? = some x → vs[i]? = some v → kindOf x ≠ some .local →
    bindC kindOf (P.zip vs) m x = some v
  | [], _, _, _, _, h, _, _ => by simp at h
  | _ :: _, [], _, _, _, _, h, _ => by simp at h
  | p :: P, w :: vs, 0, m, nd, h1, h2, hk => by
    simp at h1 h2; subst h1; subst h2
    show bindC kindOf ((p, w) :: P.zip vs) m p = _
    unfold bindC
    rw [bindC_out fun v hv => (List.nodup_cons.mp nd).1 (List.of_mem_zip hv).1, if_neg hk]
    simp
  | p :: P, w :: vs, i + 1, m, nd, h1, h2, hk => by
    show bindC kindOf ((p, w) :: P.zip vs) m x = _
    unfold bindC
    exact bindC_get (i := i) (List.nodup_cons.mp nd).2 (by simpa using h1) (by simpa using h2) hk

/-- the names' values at the entry -/
def start (N : List Str) (vs : List V) : St := vs.map some ++ List.replicate (N.length - vs.length) none

/-- the context of a def's body, at its entry; an exception leaves the frame, then lies as CX says -/
def cxOf (CX : CXT) (P : Program) (w : World) (K : PySem.W.Frag) (mg : Str → Option Value) (base : Heap) (N : List Str) (qual : Str) (scope : Scope) (f : Addr) (cd : Value) (A : Around) (outer : List Env) (s : Shared) (H : Hp) (E : XK) : Cx where
  prog := P
  w := w
  K := K
  mg := mg
  base := base
  A := A.deeper (envOfC qual scope s.heap.objs.size f cd)
  N := N
  s₀ := s
  H₀ := H
  env := envOfC qual scope s.heap.objs.size f cd
  outer := outer
  stack := envOfC qual scope s.heap.objs.size f cd :: outer
  ex := []
  calm := true
  fn := fun _ => true
  pn := []
  xe := fun e s' => wpAny (model P w) (A.deeper (envOfC qual scope s.heap.objs.size f cd)) (leaving (envOfC qual scope s.heap.objs.size f cd) e) (fun _ s'' => CX outer H s E e s'') (fun e' s'' => CX outer H s E e' s'') s'

theorem cell_has {sc : Scope} {n : Nat} {x : Str} (h : sc.names.lookup x = some .cell) : ∃ c, (cellsFrom n sc.names []).lookup x = some c := by
  have q := PySem.W.cellsFrom_some sc.names n [] (.inl h)
  exact Option.isSome_iff_exists.mp q

theorem inv_start {CX : CXT} {P : Program} {w : World} {K : PySem.W.Frag} {mg : Str → Option Value} {base : Heap} {N ps : List Str} {qual : Str} {scope : Scope} {f : Addr} {cd : Value} {A : Around} {outer : List Env} {s s1 : Shared} {H : Hp} {E : XK} {us : List Value} {vs : List V}
    (S : FnScope N ps scope) (hd : A.handled = none) (e0 : Env0 P w K mg base A outer s H) (hl : vs.length = ps.length) (r : Vals vs us)
    (x : InCallC s s.heap.objs.size (bindL (envOfC qual scope s.heap.objs.size f cd).kindOf (ps.zip us) fun _ => none) (cellsFrom (s.heap.objs.size + 1) scope.names []) (bindC (envOfC qual scope s.heap.objs.size f cd).kindOf (ps.zip us) fun _ => none) s1) :
    Inv (cxOf CX P w K mg base N qual scope f cd A outer s H E) [] (start N vs) H s1 := by
  have hpl : ps.length ≤ N.length := by have := congrArg List.length S.pre; rw [List.length_take] at this; omega
  obtain ⟨h1, tk, rfl, hk⟩ := x.done
  have noA : ∀ b : Addr, b ∉ (cxOf CX P w K mg base N qual scope f cd A outer s H E).ex := fun b z => absurd (show b ∈ ([] : List Addr) from z) (by simp)
  refine ⟨⟨e0.mod, S.kind, rfl, rfl, Nat.le_refl _, fun y z c h1 h2 => ?_, fun y hy => ?_, fun y c _ h => ?_, fun _ => hd, Around.frames_deeper e0.frames, .inr ⟨rfl, rfl⟩, fun b z => absurd z (noA b), e0.bs, e0.bsz, fun b _ _ => noA b, fun b z => absurd z (noA b), e0.funs, e0.frf⟩,
    rfl, e0.bare, Un.kept hk, ⟨_, x.toInCall.ns, fun i y v h1 h2 h3 => ?_⟩, fun y c h => ⟨_, x.cell y c h⟩, e0.hok.fresh (Nat.le_refl _), fun y c h => ?_, fun p hp => absurd (show p ∈ ([] : List (Addr × Obj)) from hp) (by simp), e0.hok.kept hk, ?_⟩
  · exact name_of_addr x.apart (PySem.mem_of_lookup h1) (PySem.mem_of_lookup h2)
  · have hy : scope.names.lookup y = some .cell ∨ scope.names.lookup y = some .free := hy
    rcases hy with hy | hy
    · exact cell_has hy
    · exact absurd rfl (S.nofree _ (PySem.mem_of_lookup hy))
  · exact Nat.le_of_lt (x.above y c (PySem.mem_of_lookup h))
  · have hi : i < vs.length := by
      unfold start at h2
      by_cases hi : i < vs.length
      · exact hi
      · rw [List.getElem?_append_right (by simpa using hi)] at h2
        rw [List.getElem?_replicate] at h2
        split at h2 <;> cases h2
    have ha : vs[i]? = some v := by
      unfold start at h2
      rw [List.getElem?_append_left (by simpa using hi), List.getElem?_map] at h2
      cases e : vs[i]? with
      | none => rw [e] at h2; cases h2
      | some a => rw [e] at h2; cases h2; rfl
    obtain ⟨u, hu, rv⟩ := r.get ha
    have hp : ps[i]? = some y := by
      rw [← S.pre, List.getElem?_take_of_lt (by omega)]; exact h1
    have ndP : ps.Nodup := by rw [← S.pre]; exact S.nd.sublist (List.take_sublist _ _)
    refine ⟨u, rv, ?_⟩
    rcases S.par y (List.mem_of_getElem? hp) with k | k
    · exact .inl ⟨k, bindL_get ndP hp hu k⟩
    · obtain ⟨c, e⟩ := cell_has (n := s.heap.objs.size + 1) k
      refine .inr ⟨.inl k, c, e, ?_⟩
      have q := x.cell y c e
      rw [bindC_get ndP hp hu (by show scope.names.lookup y ≠ _; rw [k]; decide)] at q
      exact q
  · exact e0.hok.fresh (Nat.le_of_lt (x.above y c (PySem.mem_of_lookup h)))
  · unfold start
    show _ = N.length
    rw [List.length_append, List.length_map, List.length_replicate]
    omega

/-- THE RULE: a def (or a method) of the text, by its body. The body's reading t is chosen for each entry; it is run at the parameters' values -/
theorem fn_of {CX : CXT} {P : Program} {w : World} {K : PySem.W.Frag} {mg : Str → Option Value} {base : Heap} {k : Nat} {f : Addr} {name qual : Str} {params : Arguments} {body : List Stmt} {scope : Scope} {dV kV doc pm cdv ct oc : Value} {an od : Option Addr}
    {osl : Array (Option Value)} {N ps : List Str} {sp : Sp} (lk : K.lookup f = some ⟨oc, od, .func (PySem.W.fnOf name qual params body scope dV kV doc pm an cdv ct), osl⟩) (hcd : PySem.W.codeIn K cdv qual = true) (S : FnScope N ps scope)
    (len : ∀ vs H Q E, sp vs H Q E → vs.length = ps.length)
    (hbody : ∀ (A : Around) (outer : List Env) (s : Shared) (H : Hp) (vs : List V) (Q : VK) (E : XK), Room k (A.deeper (envOfC qual scope s.heap.objs.size f cdv)) → sp vs H Q E →
      ∃ t, PSs (cxOf CX P w K mg base N qual scope f cdv A outer s H E) body t ∧ t { nx := fun _ H' => Q .non H', rt := Q } (start N vs) H) :
    FnOk P w K mg base CX (k + 1) f (PySem.W.fnOf name qual params body scope dV kV doc pm an cdv ct) ps sp := by
  refine ⟨len, fun A outer s H args us vs Q E hr e0 hb r hsp => ?_⟩
  have hl := len _ _ _ _ hsp
  have KX : K.In s.heap := e0.mod.kin.keeps fun b o e => (e0.bs b o e).1
  have lim : s.heap.NoLimit := e0.mod.nolimit.keeps fun b o e => (e0.bs b o e).1
  have hkind : ∀ y ∈ ps.zip us, scope.names.lookup y.1 = some .local ∨ (scope.names.lookup y.1 = some .cell ∧ ((cellsFrom (s.heap.objs.size + 1) scope.names []).lookup y.1).isSome = true) := fun ⟨n, v⟩ hy => by
    rcases S.par n (List.of_mem_zip hy).1 with q | q
    · exact .inl q
    · exact .inr ⟨q, PySem.W.cellsFrom_some _ _ _ (.inl q)⟩
  refine codeAny_call_function hr.depth (KX _ _ lk) rfl S.co S.gen rfl (PySem.W.codeRec_of KX hcd) (hb _ _ _ _ ?_)
  refine wpAny_newFunctionEnv_cells S.kind hkind fun env he s1 x => ?_
  subst he
  refine ⟨lim.keeps x.toInCall.keep, codeAny_func ?_⟩
  obtain ⟨t, ht, hq⟩ := hbody A outer s H vs Q E (hr.deeper _) hsp
  have I : Inv (cxOf CX P w K mg base N qual scope f cdv A outer s H E) [] (start N vs) H s1 := inv_start S hr.hd e0 hl r x
  refine wpAny_mono (ht [] s1 (start N vs) H _ I hq) (fun fl s' hs => ?_) fun e s' hs => hs
  have fin : ∀ {σ' : St} {H' : Hp} {v : V} {u : Value}, Inv (cxOf CX P w K mg base N qual scope f cdv A outer s H E) [] σ' H' s' → RelV v u → Q v H' → CE outer P w H s Q u s' :=
    fun {σ' H' v u} J rv q => ⟨v, H', J.os, J.bare, J.base, J.hok, rv, q⟩
  cases fl with
  | ret u =>
    obtain ⟨v, σ', H', J, rv, q⟩ := hs
    exact fin J rv q
  | next =>
    obtain ⟨σ', H', J, q⟩ := hs
    exact fin (v := V.non) (u := Value.none) J rfl q
  | brk =>
    obtain ⟨_, _, _, q⟩ := hs
    exact False.elim q
  | cont =>
    obtain ⟨_, _, _, q⟩ := hs
    exact False.elim q
end L2

namespace L2
open PySem PySem.Spec PyProof.Rows
section
variable {X : Cx} {x : Str} {p pos : Pos} {e : Expr} {es : List Expr} {t : TA} {id T : String} {r : List V → Hp → VK → Prop}

def tCB (r : List V → Hp → VK → Prop) (t : TA) : TE := fun σ H Q => t σ H fun vs H1 => r vs H1 Q
/-- f(e, ..), f a built-in function -/
theorem pe_callB (hc : CallR X (.builtin id) r) (hg : Gl X x) (hm : X.mg x = none) (hv : bootBuiltins x = some (.builtin id)) (ha : PA X (e :: es) t) (hn : x ≠ "__name__" := by decide) (hdb : (x == ("__debug__" : Str)) = false := by decide)
    (he : starEach (e :: es) X.env = (false, eval e X.env) :: starEach es X.env := by rfl) (hpl : (backTo pos (starEach es X.env)).any (·.1) = false := by rfl) : PE X (.Call (.Name x p) (e :: es) [] pos) (tCB r t) := by
  intro pins s σ H Q I h
  refine wpAny_Call_Name_kw (ld_blt I hg hm hv ?_ hn hdb)
  exact PyProof.Rows.callWith_builtin1 (thn (ha pos pins s σ H _ I h) fun us s1 ⟨vs, H1, I1, r1, q1⟩ => hc pins s1 σ H1 vs us Q I1 r1 q1) he hpl
/-- T(e, ..), T a built-in type -/
theorem pe_callTy (hc : CallR X (.type T) r) (hg : Gl X x) (hm : X.mg x = none) (hv : bootBuiltins x = some (.type T)) (ha : PA X (e :: es) t) (hn : x ≠ "__name__" := by decide) (hdb : (x == ("__debug__" : Str)) = false := by decide)
    (he : starEach (e :: es) X.env = (false, eval e X.env) :: starEach es X.env := by rfl) (hpl : (backTo pos (starEach es X.env)).any (·.1) = false := by rfl) : PE X (.Call (.Name x p) (e :: es) [] pos) (tCB r t) := by
  intro pins s σ H Q I h
  refine wpAny_Call_Name_kw (ld_blt I hg hm hv ?_ hn hdb)
  exact PyProof.Rows.callWith_type1 (thn (ha pos pins s σ H _ I h) fun us s1 ⟨vs, H1, I1, r1, q1⟩ => hc pins s1 σ H1 vs us Q I1 r1 q1) he hpl
/-- T() -/
theorem pe_callTy0 (hc : CallR X (.type T) r) (hg : Gl X x) (hm : X.mg x = none) (hv : bootBuiltins x = some (.type T)) (hn : x ≠ "__name__" := by decide) (hdb : (x == ("__debug__" : Str)) = false := by decide) :
    PE X (.Call (.Name x p) [] [] pos) (tCB r tNil) := by
  intro pins s σ H Q I h
  refine wpAny_Call_Name_kw (ld_blt I hg hm hv ?_ hn hdb)
  exact PyProof.Rows.callWith_type0 (hc pins s σ H [] [] Q I .nil h)
end
end L2

namespace HT
open PySem PyProof.Rows

/-- t < u of tuples of ints -/
def lexLt : List Int → List Int → Bool
  | [], [] => false
  | [], _ :: _ => true
  | _ :: _, [] => false
  | x :: xs, y :: ys => if x = y then lexLt xs ys else decide (x < y)
theorem lexLt_cons (x y : Int) (xs ys : List Int) : lexLt (x :: xs) (y :: ys) = if x = y then lexLt xs ys else decide (x < y) := rfl
theorem lexLt_nil_nil : lexLt [] [] = false := rfl
theorem lexLt_nil_cons (y : Int) (ys : List Int) : lexLt [] (y :: ys) = true := rfl
theorem lexLt_cons_nil (x : Int) (xs : List Int) : lexLt (x :: xs) [] = false := rfl

theorem eqAt_int (A : Around) (s : Shared) (a : Int) (t : Tok) (c : Int) (u : Tok) : ∃ e, SeqAt.EqAt A s (.int a t) (.int c u) e ∧ (e = true ↔ a = c) :=
  ⟨(a == c), SeqAt.EqAt.int_int a t c u, by simp⟩
theorem rcLt_int (A : Around) (s : Shared) (a : Int) (t : Tok) (c : Int) (u : Tok) (prog : Program) (w : World) (E : Value → Shared → Prop) (Q : Value → Shared → Prop) (h : Q (.bool (decide (a < c))) s) :
    wpAny (model prog w) A (richCompare .Lt (.int a t) (.int c u)) Q E s :=
  (PyProof.Rows.lt_int h : wpAny (model prog w) A (compareOp .Lt (.int a t) (.int c u)) Q E s)

section
open PySem.SeqAt
open PySem.AutoSeq1 (wpAny_loadPart')
open PySem.MeetsSeq PySem.MeetsSeq2 PySem.MeetsSeq3

theorem tuple_lt_ints (l b : Addr) (items items2 : Array Value) (n n2 : Nat) (dd dd2 : Option Addr) (sl sl2 : Array (Option Value)) (ns ms : List Int) (hi : IntsAre items.toList ns) (hj : IntsAre items2.toList ms) :
    Meets (Builtin.«tuple.__lt__» ⟨[.ref l, .ref b], []⟩)
      (fun _ R s => s.heap.get? l = some { cls := .type "tuple", dict := dd, data := .seq items n, slots := sl } ∧ s.heap.get? b = some { cls := .type "tuple", dict := dd2, data := .seq items2 n2, slots := sl2 } ∧
        R (.ok (.ret (.bool (lexLt ns ms)))) s) :=
  .of_wp fun prog w A R s h => by
    obtain ⟨hp, g, d, tk, os⟩ := s; obtain ⟨hl, hb, h⟩ := h
    have f2 := AutoSeq1.sub_tuple_tuple
    have z1 : items.size = ns.length := by rw [← hi.length]; simp
    have z2 : items2.size = ms.length := by rw [← hj.length]; simp
    wp_walk using wpAny_loadPart' hl, wpAny_loadPart' hb, wpAny_forIn_list _ (fun rest b s' => b.1 = none ∧ s' = ⟨hp, g, d, tk, os⟩ ∧ ∃ (vs ws : List Value) (ns' ms' : List Int), rest = vs.zip ws ∧
      IntsAre vs ns' ∧ IntsAre ws ms' ∧ ns'.length + items2.size = ms'.length + items.size ∧ R (.ok (.ret (.bool (lexLt ns' ms')))) ⟨hp, g, d, tk, os⟩) _
    case turn =>
      rintro ⟨y, x⟩ rest b s' ⟨hb', rfl, vs, ws, ns', ms', hz, hvi, hwi, hlen, hR⟩
      cases hvi with
      | nil => rw [List.zip_nil_left] at hz; cases hz
      | cons a t hvi' =>
        cases hwi with
        | nil => rw [List.zip_nil_right] at hz; cases hz
        | cons c u hwi' =>
          rw [List.zip_cons_cons] at hz
          injection hz with hyx hrest
          injection hyx with hy hx
          subst hy hx
          rw [lexLt_cons] at hR
          simp only [List.length_cons] at hlen
          obtain ⟨e, he, hiff⟩ := eqAt_int A.in1 ⟨hp, g, d, tk, os⟩ a t c u
          refine wpAny_bind (he prog w _ _ ?_)
          cases e with
          | true =>
            rw [if_pos (hiff.mp rfl)] at hR
            wp_walk
            exact ⟨rfl, rfl, _, _, _, _, hrest, hvi', hwi', by omega, hR⟩
          | false =>
            rw [if_neg (fun q => absurd (hiff.mpr q) Bool.false_ne_true)] at hR
            have hri := rcLt_int A.in1 ⟨hp, g, d, tk, os⟩ a t c u prog w
            wp_walk using hri
            exact ⟨_, rfl, by simpa using hR⟩
    case fin =>
      rintro ⟨b1, b2⟩ s' ⟨hb', rfl, vs, ws, ns', ms', hz, hvi, hwi, hlen, hR⟩
      simp only at hb'
      subst hb'
      have hv : lexLt ns' ms' = decide (items.size < items2.size) := by
        cases hvi with
        | nil =>
          cases hwi with
          | nil =>
            simp only [List.length_nil] at hlen
            rw [lexLt_nil_nil]
            exact (decide_eq_false (by omega)).symm
          | cons c u hw =>
            simp only [List.length_nil, List.length_cons] at hlen
            rw [lexLt_nil_cons]
            exact (decide_eq_true (by omega)).symm
        | cons a t hv =>
          cases hwi with
          | nil =>
            simp only [List.length_nil, List.length_cons] at hlen
            rw [lexLt_cons_nil]
            exact (decide_eq_false (by omega)).symm
          | cons c u hw =>
            rw [List.zip_cons_cons] at hz
            cases hz
      rw [hv] at hR
      wp_walk
      exact ⟨_, rfl, by simpa [Builtin.Tuple.tupleCompareSizes] using hR⟩
    case h =>
      exact ⟨rfl, rfl, items.toList, items2.toList, ns, ms, rfl, hi, hj, by omega, h⟩
end

section
variable {prog : Program} {w : World} {A : Around} {E : Value → Shared → Prop} {s : Shared}

theorem lt_tupInts {l b : Addr} {items items2 : Array Value} {ns ms : List Int} {Q : Value → Shared → Prop} (hl : IsTup s.heap l items) (hb : IsTup s.heap b items2) (hi : IntsAre items.toList ns) (hj : IntsAre items2.toList ms)
    (hu : A.units < cLine) (h : Q (.bool (lexLt ns ms)) s) : wpAny (model prog w) A (compareOp .Lt (.ref l) (.ref b)) Q E s := by
  obtain ⟨⟨cls, dd, data, sl⟩, ho, hc, n, hd⟩ := id hl
  obtain ⟨⟨cls2, dd2, data2, sl2⟩, ho2, hc2, n2, hd2⟩ := id hb
  simp only at hc hd hc2 hd2
  subst hc hd hc2 hd2
  exact richCompare_meets_room (op := .Lt) ⟨_, ho, rfl⟩ ⟨_, ho2, rfl⟩ PySem.F.slot_tuple_lt PySem.F.entry_tuple_lt (PySem.F.args_tuple_lt_2 _ _) (tuple_lt_ints l b items items2 n n2 dd dd2 sl sl2 ns ms hi hj)
    ⟨ho, ho2, show Value.bool (lexLt ns ms) ≠ Value.notImplemented ∧ Q (.bool (lexLt ns ms)) s from ⟨(fun x => nomatch x), h⟩⟩ hu

/-- t + u, t not empty -/
theorem cat_tup {t b : Addr} {vs ws : List Value} {Q : Value → Shared → Prop} (ht : IsTup s.heap t vs.toArray) (hb : IsTup s.heap b ws.toArray) (hv : vs ≠ [])
    (h1 : ws = [] → Q (.ref t) s) (h2 : ws ≠ [] → Q (.ref s.heap.objs.size) { s with heap := s.heap.push { cls := .type "tuple", data := .seq (vs ++ ws).toArray } })
    (hsz : vs.length + ws.length ≤ sizeLine) : wpAny (model prog w) A (binaryOp .Add (.ref t) (.ref b)) Q E s := by
  obtain ⟨⟨cls, dd, data, sl⟩, ho, hc, n, hd⟩ := id ht
  obtain ⟨⟨cls2, dd2, data2, sl2⟩, ho2, hc2, n2, hd2⟩ := id hb
  simp only at hc hd hc2 hd2
  subst hc hd hc2 hd2
  have e : vs.toArray ++ ws.toArray = (vs ++ ws).toArray := by simp
  by_cases hw : ws = []
  · exact concat_meets ⟨_, ho, rfl⟩ ⟨_, ho2, rfl⟩ noFill_tuple_add seq_tuple_add PySem.F.slot_tuple_add PySem.F.entry_tuple_add (PySem.F.args_tuple_add_2 _ _)
      (tuple_addW1 t b vs.toArray ws.toArray n n2 dd dd2 sl sl2 (by simpa using hv) (by simp [hw])) ⟨ho, ho2, h1 hw⟩
  · refine concat_meets ⟨_, ho, rfl⟩ ⟨_, ho2, rfl⟩ noFill_tuple_add seq_tuple_add PySem.F.slot_tuple_add PySem.F.entry_tuple_add (PySem.F.args_tuple_add_2 _ _)
      (tuple_addW2 t b vs.toArray ws.toArray n n2 dd dd2 sl sl2 (by simpa using hv) (by simpa using hw) (by rw [List.size_toArray, List.size_toArray]; exact hsz)) ⟨ho, ho2, ?_⟩
    rw [e]
    exact h2 hw

/-! ### t[a:b], not the whole -/
/-- a slice's bound as a place among n (d where it is left out) -/
def sIx (n d : Nat) : Option Int → Nat
  | none => d
  | some v => if v < 0 then (v + (n : Int)).toNat else min v.toNat n
theorem sIx_none (n d : Nat) : sIx n d none = d := rfl
theorem sIx_nat (n d k : Nat) : sIx n d (some (k : Int)) = min k n := by
  show (if (k : Int) < 0 then ((k : Int) + (n : Int)).toNat else min (k : Int).toNat n) = min k n
  rw [if_neg (by omega), Int.toNat_natCast]
theorem sIx_le (n d : Nat) (hd : d ≤ n) (o : Option Int) : sIx n d o ≤ n := by
  cases o with
  | none => exact hd
  | some v =>
    show (if v < 0 then (v + (n : Int)).toNat else min v.toNat n) ≤ n
    by_cases hv : v < 0
    · rw [if_pos hv]; omega
    · rw [if_neg hv]; exact Nat.min_le_right _ _
theorem clip_eq (v : Int) (n d : Nat) : (if v < 0 then max (v + (n : Int)) 0 else min v (n : Int)) = ((sIx n d (some v) : Nat) : Int) := by
  show (if v < 0 then max (v + (n : Int)) 0 else min v (n : Int)) = (((if v < 0 then (v + (n : Int)).toNat else min v.toNat n) : Nat) : Int)
  by_cases hv : v < 0
  · simp only [if_pos hv]; omega
  · simp only [if_neg hv]; omega
theorem adjust_gen (lo hi : Option Int) (n : Nat) : Builtin.Slice.sliceAdjust lo hi 1 (n : Int) = (((sIx n 0 lo : Nat) : Int), ((sIx n n hi : Nat) : Int)) := by
  have h1 : ¬ ((1 : Int) < 0) := by omega
  unfold Builtin.Slice.sliceAdjust
  simp only [h1, if_false]
  refine Prod.ext ?_ ?_
  · cases lo with
    | none => rfl
    | some v => exact clip_eq v n 0
  · cases hi with
    | none => rfl
    | some v => exact clip_eq v n n
theorem places_gen (i j : Nat) : Builtin.Slice.slicePlaces (i : Int) (j : Int) 1 = j - i := by
  unfold Builtin.Slice.slicePlaces
  have h1 : (1 : Int) > 0 := by omega
  simp only [h1, if_true, Int.ediv_one]
  split <;> omega
theorem slicePart_ {v : Value} {o : Option Int} {Q : Option Int → Shared → Prop} (p : IsPart v o) (h : Q o s) : wpAny (model prog w) A (Builtin.Slice.slicePartIndex v) Q E s := by
  cases p with
  | none => exact slicePart_none h
  | int i t => exact slicePart_int h
theorem sliceApplied_gen {sl : Addr} {vl vu : Value} {lo hi : Option Int} {n : Nat} {Q : Int × Int × Nat → Shared → Prop} (hs : s.heap.IsSliceOf sl vl vu .none) (pl : IsPart vl lo) (pu : IsPart vu hi)
    (h : Q (((sIx n 0 lo : Nat) : Int), 1, sIx n n hi - sIx n 0 lo) s) : wpAny (model prog w) A (Builtin.Slice.sliceApplied (.ref sl) (pure (n : Int))) Q E s := by
  obtain ⟨os, hos, hcs, hds⟩ := id hs
  unfold Builtin.Slice.sliceApplied Builtin.Slice.sliceFields
  refine wpAny_bind (wpAny_bind (wpAny_field hos hds (x := vl) rfl (wpAny_bind (wpAny_field hos hds (x := vu) rfl (wpAny_bind (wpAny_field hos hds (x := .none) rfl (wpAny_pure ?_)))))))
  refine wpAny_bind (slicePart_none ?_)
  show wpAny _ _ (if ((1 : Int) == 0) = true then _ else _) _ _ s
  rw [if_neg (by decide)]
  refine wpAny_bind (slicePart_ pl (wpAny_bind (slicePart_ pu (wpAny_bind (wpAny_pure ?_)))))
  show wpAny _ _ (match Builtin.Slice.sliceAdjust lo hi 1 (n : Int) with | (lo, hi) => pure (lo, (1 : Int), Builtin.Slice.slicePlaces lo hi 1)) _ _ s
  rw [adjust_gen lo hi n]
  show wpAny _ _ (pure (((sIx n 0 lo : Nat) : Int), (1 : Int), Builtin.Slice.slicePlaces ((sIx n 0 lo : Nat) : Int) ((sIx n n hi : Nat) : Int) 1)) _ _ s
  rw [places_gen]
  exact wpAny_pure h
theorem pick_gen (xs : Array Value) (i k : Nat) : ((List.range k).filterMap fun (m : Nat) => xs[((i : Int) + (m : Int) * 1).toNat]?).toArray = ((xs.toList.drop i).take k).toArray := by
  have e : (fun (m : Nat) => xs[((i : Int) + (m : Int) * 1).toNat]?) = fun m => xs[i + m]? := by
    funext m
    have : ((i : Int) + (m : Int) * 1).toNat = i + m := by omega
    rw [this]
  rw [e]
  have := pick_run xs i k
  rw [List.filterMap_map] at this
  have e2 : ((fun x => xs[x]?) ∘ fun x => i + x) = fun m => xs[i + m]? := rfl
  rw [e2] at this
  rw [this]

theorem getItem_tuple_cut {t sl : Addr} {items : Array Value} {vl vu : Value} {lo hi : Option Int} {Q : Value → Shared → Prop} (ht : IsTup s.heap t items) (hs : s.heap.IsSliceOf sl vl vu .none) (pl : IsPart vl lo) (pu : IsPart vu hi)
    (hw : ¬ (sIx items.size 0 lo = 0 ∧ sIx items.size items.size hi = items.size))
    (h : Q (.ref s.heap.objs.size) { s with heap := s.heap.push { cls := .type "tuple", data := .seq ((items.toList.drop (sIx items.size 0 lo)).take (sIx items.size items.size hi - sIx items.size 0 lo)).toArray } })
    (hsz : items.size ≤ sizeLine) : wpAny (model prog w) A (getItem (.ref t) (.ref sl)) Q E s := by
  have htake : sizeOk (.seq ((items.toList.drop (sIx items.size 0 lo)).take (sIx items.size items.size hi - sIx items.size 0 lo)).toArray) := by
    show ((items.toList.drop (sIx items.size 0 lo)).take (sIx items.size items.size hi - sIx items.size 0 lo)).toArray.size ≤ sizeLine
    rw [List.size_toArray, List.length_take, List.length_drop, Array.length_toList]
    omega
  have hj : sIx items.size items.size hi ≤ items.size := sIx_le _ _ (Nat.le_refl _) hi
  obtain ⟨os, hos, hcs, hds⟩ := id hs
  have hTs : s.TypeIs (.ref sl) "slice" := ⟨os, hos, hcs⟩
  unfold getItem
  try with_reducible refine wpAny_holding ?_
  first | refine wpAny_bind (wpAny_pure ?_) | skip
  refine wpAny_bind (wpAny_sequenceKey ht.typeIs (by decide) ?_)
  refine wpAny_bind (wpAny_callSpecial?_slot (name := Str.ofString "__getitem__") ht.typeIs PyProof.Rows.slot_tuple_getitem
    (wpAny_call_entry PyProof.Rows.slot_tuple_getitem ht.typeIs entry_tuple_getitem ?_ (args_tuple_getitem _ _)))
  show wpAny _ _ (Builtin.Tuple.tupleItemsOf (.ref t) >>= _) _ _ s
  refine wpAny_bind (tupleItemsOf_ ht ?_)
  refine wpAny_bind (wpAny_typeOf hTs ?_)
  rw [if_pos (by decide)]
  refine wpAny_bind (sliceApplied_gen hs pl pu ?_)
  have hno : ¬ ((((sIx items.size 0 lo : Nat) : Int) == 0 && (1 : Int) == 1 && (sIx items.size items.size hi - sIx items.size 0 lo) == items.size) = true) := by
    intro q
    rw [Bool.and_eq_true, Bool.and_eq_true] at q
    have q1 : ((sIx items.size 0 lo : Nat) : Int) = 0 := eq_of_beq q.1.1
    have q2 : sIx items.size items.size hi - sIx items.size 0 lo = items.size := eq_of_beq q.2
    exact hw ⟨by omega, by omega⟩
  show wpAny _ _ (if (((sIx items.size 0 lo : Nat) : Int) == 0 && (1 : Int) == 1 && (sIx items.size items.size hi - sIx items.size 0 lo) == items.size) = true then _ else _) _ _ s
  rw [if_neg hno, pick_gen]
  first
    | exact wpAny_bind (m := Builtin.Tuple.tupleExact _) (wpAny_newObj_type (wpAny_pure ⟨_, rfl, wpAny_pure h⟩) htake)
    | exact wpAny_bind (m := Builtin.Tuple.tupleExact _) (wpAny_newObj_type (wpAny_bind (wpAny_pure (wpAny_pure ⟨_, rfl, wpAny_pure h⟩))) htake)
    | exact wpAny_bind (wpAny_bind (m := Builtin.Tuple.tupleExact _) (wpAny_newObj_type (wpAny_pure (wpAny_pure ⟨_, rfl, wpAny_pure h⟩)) htake))
    | exact wpAny_bind (wpAny_bind (m := Builtin.Tuple.tupleExact _) (wpAny_newObj_type (wpAny_pure ⟨_, rfl, wpAny_pure h⟩) htake))
end
end HT

namespace L2
open PySem PySem.Spec PyProof.Rows

/-! ### the parts of a slice -/
abbrev TO := St → Hp → (Option Int → Hp → Prop) → Prop
/-- a slice's part (left out, or an int) -/
def PO (X : Cx) (e : Option Expr) (t : TO) : Prop :=
  ∀ (pins : List (Addr × Obj)) (s : Shared) (σ : St) (H : Hp) (Q : Option Int → Hp → Prop), Inv X pins σ H s → t σ H Q →
    wpAny (model X.prog X.w) X.A (evalPart e X.env) (fun u s' => ∃ o H', Inv X pins σ H' s' ∧ IsPart u o ∧ Q o H') X.xe s
def tNoPart : TO := fun _ H Q => Q none H
def tPart (t : TE) : TO := fun σ H Q => t σ H fun x H1 => ∃ i, x = .int i ∧ Q (some i) H1

theorem intsAre_of {ns : List Int} : ∀ {us : List Value}, Vals (ns.map V.int) us → IntsAre us ns := by
  induction ns with
  | nil => intro us r; rw [List.map_nil] at r; cases r; exact .nil
  | cons n ns ih =>
    intro us r
    rw [List.map_cons] at r
    cases r with
    | cons r1 r2 =>
      obtain ⟨t, e⟩ := r1
      subst e
      exact .cons n t (ih r2)

section
variable {X : Cx} {e : Expr} {te : TE} {lo hi : Option Expr} {tl th : TO} {pos p2 : Pos}

theorem po_none : PO X none tNoPart := by
  intro pins s σ H Q I h
  rw [evalPart_none]
  exact wpAny_pure ⟨none, H, I, .none, h⟩
theorem po_some (h : PE X e te) : PO X (some e) (tPart te) := by
  intro pins s σ H Q I hw
  rw [evalPart_some]
  refine thn (h pins s σ H _ I hw) fun u s1 ⟨x, H1, I1, r1, q1⟩ => ?_
  obtain ⟨i, rfl, q⟩ := q1
  obtain ⟨t, rfl⟩ := r1
  exact ⟨some i, H1, I1, .int i t, q⟩

/-- what a slice of a value is, by values: the slice object stands at sl -/
def SlR (X : Cx) (r : V → Option Int → Option Int → Hp → VK → Prop) : Prop :=
  ∀ (pins : List (Addr × Obj)) (s : Shared) (σ : St) (H : Hp) (x : V) (v vl vu : Value) (lo hi : Option Int) (sl : Addr) (Q : VK), Inv X pins σ H s → RelV x v → s.heap.IsSliceOf sl vl vu .none → IsPart vl lo → IsPart vu hi → r x lo hi H Q →
    ∃ T id, typeLookup (.type T) "__getitem__" = pure (some (.builtin id)) ∧ s.TypeIs v T ∧ wpAny (model X.prog X.w) X.A (getItem v (.ref sl)) (EP X pins σ Q) X.xe s
theorem SlR.or {r r' : V → Option Int → Option Int → Hp → VK → Prop} (h : SlR X r) (h' : SlR X r') : SlR X (fun x lo hi H Q => r x lo hi H Q ∨ r' x lo hi H Q) := by
  intro pins s σ H x v vl vu lo hi sl Q I rx hs pl pu q
  rcases q with q | q
  · exact h pins s σ H x v vl vu lo hi sl Q I rx hs pl pu q
  · exact h' pins s σ H x v vl vu lo hi sl Q I rx hs pl pu q
def tSl (r : V → Option Int → Option Int → Hp → VK → Prop) (te : TE) (tl th : TO) : TE := fun σ H Q => te σ H fun x H1 => tl σ H1 fun l H2 => th σ H2 fun u H3 => r x l u H3 Q
/-- a[lo:hi], any a -/
theorem pe_slice {r : V → Option Int → Option Int → Hp → VK → Prop} (hr : SlR X r) (he : PE X e te) (hl : PO X lo tl) (hu : PO X hi th) : PE X (.Subscript e (.Slice lo hi none p2) pos) (tSl r te tl th) := by
  intro pins s σ H Q I h
  refine Subscript_ (thn (he pins s σ H _ I h) fun v s1 ⟨x, H1, I1, r1, q1⟩ => ?_)
  refine wpAny_Slice (thn (hl pins s1 σ H1 _ I1 q1) fun vl s2 ⟨l, H2, I2, pl, q2⟩ => thn (hu pins s2 σ H2 _ I2 q2) fun vu s3 ⟨u, H3, I3, pu, q3⟩ => ?_)
  rw [evalPart_none]
  refine wpAny_pure ?_
  have I4 : Inv X pins σ H3 { s3 with heap := s3.heap.push { cls := .type "slice", data := .fields #[vl, vu, .none] } } := I3.kept (t' := s3.toks) fun b ob q => Heap.get?_push_of_some _ q
  obtain ⟨T, id, hT, ht, hg⟩ := hr pins { s3 with heap := s3.heap.push { cls := .type "slice", data := .fields #[vl, vu, .none] } } σ H3 x v vl vu l u s3.heap.objs.size Q I4 r1 (Heap.IsSliceOf.new ..) pl pu q3
  show wpAny (model X.prog X.w) X.A (subscriptTail e (.Slice lo hi none p2) v (.ref s3.heap.objs.size)) (EP X pins σ Q) X.xe { s3 with heap := s3.heap.push { cls := .type "slice", data := .fields #[vl, vu, .none] } }
  exact tail_any (ops := [.ref s3.heap.objs.size, v]) ht hT hg (by with_unfolding_all rfl)

/-- the items of xs[lo:hi] -/
def cutV (xs : List V) (lo hi : Option Int) : List V := (xs.drop (HT.sIx xs.length 0 lo)).take (HT.sIx xs.length xs.length hi - HT.sIx xs.length 0 lo)
theorem cutV_length (xs : List V) (lo hi : Option Int) : (cutV xs lo hi).length ≤ xs.length := by
  unfold cutV
  rw [List.length_take, List.length_drop]
  omega
/-- t[lo:hi], not the whole of it (the whole would be t itself) -/
def rSlT (K : PySem.W.Frag) : V → Option Int → Option Int → Hp → VK → Prop := fun x lo hi H Q => ∃ a xs, x = .ref a ∧ SqT K H a xs ∧
  ¬ (HT.sIx xs.length 0 lo = 0 ∧ HT.sIx xs.length xs.length hi = xs.length) ∧ ∀ p, H p = none → Q (.ref p) (upd H p (.tup (cutV xs lo hi)))
theorem sl_tup : SlR X (rSlT X.K) := by
  intro pins s σ H x v vl vu lo hi sl Q I rx hs pl pu h
  obtain ⟨a, xs, rfl, hx, hw, q⟩ := h
  cases rx
  obtain ⟨its, r, ht, hz⟩ := I.tuple hx
  have hlen : its.toArray.size = xs.length := by rw [List.size_toArray]; exact r.length.symm
  refine ⟨"tuple", _, PyProof.Rows.slot_tuple_getitem.lookup, ht.typeIs, ?_⟩
  refine HT.getItem_tuple_cut ht hs pl pu (by rw [hlen]; exact hw) ?_ (by rw [hlen]; exact hz)
  rw [hlen]
  refine ⟨.ref s.heap.objs.size, _, I.laid (t' := s.toks) (o := .tup (cutV xs lo hi)) (fun b ob q => Heap.get?_push_of_some _ q) (Nat.le_refl _) ?_, rfl, q _ (I.hok.fresh (Nat.le_refl _))⟩
  exact ⟨Nat.le_trans (cutV_length xs lo hi) hz, _, (r.drop (HT.sIx xs.length 0 lo)).take (HT.sIx xs.length xs.length hi - HT.sIx xs.length 0 lo), IsTup.new _ _⟩

/-! ### t < u, t + u -/
def rLtT (K : PySem.W.Frag) : R2 := fun x y H Q => ∃ a b ns ms, x = .ref a ∧ y = .ref b ∧ SqT K H a (ns.map V.int) ∧ SqT K H b (ms.map V.int) ∧ Q (.bl (HT.lexLt ns ms)) H
theorem op_ltT (hu : X.A.units < cLine) : OpR X (compareOp .Lt) (rLtT X.K) := by
  intro pins s σ H x y v u Q I rx ry h
  obtain ⟨a, b, ns, ms, rfl, rfl, ha, hb, q⟩ := h
  cases rx
  cases ry
  obtain ⟨its, r1, p1, _⟩ := I.tuple ha
  obtain ⟨its2, r2, p2, _⟩ := I.tuple hb
  have i1 : IntsAre its.toArray.toList ns := intsAre_of r1
  have i2 : IntsAre its2.toArray.toList ms := intsAre_of r2
  exact HT.lt_tupInts p1 p2 i1 i2 hu ⟨.bl (HT.lexLt ns ms), H, I, rfl, q⟩
/-- t + u, t not empty: u empty gives t itself -/
def rCatT (K : PySem.W.Frag) : R2 := fun x y H Q => ∃ a b xs ys, x = .ref a ∧ y = .ref b ∧ SqT K H a xs ∧ SqT K H b ys ∧ xs ≠ [] ∧ xs.length + ys.length ≤ sizeLine ∧
  (ys = [] → Q (.ref a) H) ∧ (ys ≠ [] → ∀ p, H p = none → Q (.ref p) (upd H p (.tup (xs ++ ys))))
theorem Vals.nil_iff {xs : List V} {us : List Value} (r : Vals xs us) : us = [] ↔ xs = [] := by
  cases r with
  | nil => simp
  | cons _ _ => simp
theorem op_catT : OpR X (binaryOp .Add) (rCatT X.K) := by
  intro pins s σ H x y v u Q I rx ry h
  obtain ⟨a, b, xs, ys, rfl, rfl, ha, hb, hx, hz, q1, q2⟩ := h
  cases rx
  cases ry
  obtain ⟨its, r1, p1, _⟩ := I.tuple ha
  obtain ⟨its2, r2, p2, _⟩ := I.tuple hb
  refine HT.cat_tup p1 p2 (fun z => hx (r1.nil_iff.mp z)) (fun z => ⟨.ref a, H, I, rfl, q1 (r2.nil_iff.mp z)⟩) (fun z => ?_) (by rw [← r1.length, ← r2.length]; exact hz)
  refine ⟨.ref s.heap.objs.size, _, I.laid (t' := s.toks) (o := .tup (xs ++ ys)) (fun b ob q => Heap.get?_push_of_some _ q) (Nat.le_refl _) ?_, rfl, q2 (fun w => z (r2.nil_iff.mpr w)) _ (I.hok.fresh (Nat.le_refl _))⟩
  exact ⟨by rw [List.length_append]; exact hz, _, r1.append r2, IsTup.new _ _⟩
/-- tuple(t) -/
theorem call_tupleT : CallR X (.type "tuple") (fun xs H Q => ∃ a ys, xs = [.ref a] ∧ SqT X.K H a ys ∧ Q (.ref a) H) := by
  intro pins s σ H xs us Q I r h
  obtain ⟨a, ys, rfl, ha, q⟩ := h
  obtain ⟨u, rfl, ru⟩ := vals1 r
  cases ru
  obtain ⟨its, _, p1, _⟩ := I.tuple ha
  exact call_tuple_same (items := its.toArray) p1 ⟨.ref a, H, I, rfl, q⟩
end
end L2

namespace L2
open PySem PySem.Spec PyProof.Rows

/-! ### places -/
/-- the place that an index of any sign means -/
def ixN (n : Nat) (i : Int) : Option Nat := if 0 ≤ i then (if i < n then some i.toNat else none) else if -(n : Int) ≤ i then some (i + n).toNat else none
def atI {α : Type} (xs : List α) (i : Int) : Option α := (ixN xs.length i).bind fun j => xs[j]?
theorem ixN_seq {n : Nat} {i : Int} {j : Nat} (h : ixN n i = some j) : seqIndex? i n = some j ∧ j < n ∧ -(n : Int) ≤ i ∧ i < n := by
  unfold ixN at h
  by_cases h0 : 0 ≤ i
  · rw [if_pos h0] at h
    by_cases h1 : i < n
    · rw [if_pos h1] at h
      have e : i.toNat = j := Option.some.inj h
      exact ⟨by rw [seqIndex_of h0 h1, e], by omega, by omega, h1⟩
    · rw [if_neg h1] at h; cases h
  · rw [if_neg h0] at h
    by_cases h1 : -(n : Int) ≤ i
    · rw [if_pos h1] at h
      have e : (i + n).toNat = j := Option.some.inj h
      exact ⟨by rw [seqIndex_neg (by omega) h1, e], by omega, h1, by omega⟩
    · rw [if_neg h1] at h; cases h
theorem atI_get {α : Type} {xs : List α} {i : Int} {v : α} (h : atI xs i = some v) : ∃ j, seqIndex? i xs.length = some j ∧ xs[j]? = some v ∧ j < xs.length ∧ -(xs.length : Int) ≤ i ∧ i < xs.length := by
  unfold atI at h
  cases e : ixN xs.length i with
  | none => rw [e] at h; cases h
  | some j =>
    rw [e] at h
    obtain ⟨h1, h2, h3, h4⟩ := ixN_seq e
    exact ⟨j, h1, h, h2, h3, h4⟩
theorem atI_nat {α : Type} {xs : List α} {j : Nat} {v : α} (h : xs[j]? = some v) : atI xs (j : Int) = some v := by
  have hj : j < xs.length := (List.getElem?_eq_some_iff.mp h).1
  have e : ixN xs.length (j : Int) = some j := by
    unfold ixN
    rw [if_pos (by omega), if_pos (by omega)]; simp
  unfold atI; rw [e]; exact h
theorem atI_last {α : Type} (xs : List α) (v : α) : atI (xs ++ [v]) (-1) = some v := by
  have hl : (xs ++ [v]).length = xs.length + 1 := by simp
  have e : ixN (xs ++ [v]).length (-1) = some xs.length := by
    unfold ixN
    rw [hl, if_neg (by decide), if_pos (by omega)]
    congr 1
    omega
  unfold atI
  rw [e]
  show (xs ++ [v])[xs.length]? = some v
  simp

/-! ### what may be subscripted -/
/-- what stands as an index of a plain subscript -/
def PlainIx (b : Expr) : Prop := ∀ o i, subscripted b false o i = operate [o, i] (getItem o i)
/-- a subscript by values -/
def IxR (X : Cx) (r : R2) : Prop :=
  ∀ (value slice : Expr) (pins : List (Addr × Obj)) (s : Shared) (σ : St) (H : Hp) (x y : V) (v u : Value) (Q : VK), Inv X pins σ H s → RelV x v → RelV y u → r x y H Q →
    subscripted slice false v u = operate [v, u] (getItem v u) → wpAny (model X.prog X.w) X.A (subscriptTail value slice v u) (EP X pins σ Q) X.xe s
/-- a call of a builtin's method by values: the receiver, the arguments -/
def MtR (X : Cx) (id : String) (r : V → List V → Hp → VK → Prop) : Prop :=
  ∀ (pins : List (Addr × Obj)) (s : Shared) (σ : St) (H : Hp) (x : V) (xs : List V) (v : Value) (us : List Value) (Q : VK), Inv X pins σ H s → RelV x v → Vals xs us → r x xs H Q →
    wpAny (model X.prog X.w) X.A (call (.builtin id) (v :: us)) (EP X pins σ Q) X.xe s
section
variable {X : Cx} {a b : Expr} {ta tb : TE} {pos : Pos}
theorem IxR.or {r r' : R2} (h : IxR X r) (h' : IxR X r') : IxR X (fun x y H Q => r x y H Q ∨ r' x y H Q) := by
  intro value slice pins s σ H x y v u Q I rx ry q hs
  rcases q with q | q
  · exact h value slice pins s σ H x y v u Q I rx ry q hs
  · exact h' value slice pins s σ H x y v u Q I rx ry q hs
theorem MtR.or {id : String} {r r' : V → List V → Hp → VK → Prop} (h : MtR X id r) (h' : MtR X id r') : MtR X id (fun x xs H Q => r x xs H Q ∨ r' x xs H Q) := by
  intro pins s σ H x xs v us Q I rx rs q
  rcases q with q | q
  · exact h pins s σ H x xs v us Q I rx rs q
  · exact h' pins s σ H x xs v us Q I rx rs q
/-- a[b] -/
theorem pe_ix {r : R2} (hr : IxR X r) (ha : PE X a ta) (hb : PE X b tb) (hs : PlainIx b) : PE X (.Subscript a b pos) (tOp r ta tb) := by
  intro pins s σ H Q I h
  exact Subscript_ (binT ha hb I h fun v u s2 x y H2 I2 rx ry q => hr a b pins s2 σ H2 x y v u Q I2 rx ry q (hs _ _))

def rIxL (K : PySem.W.Frag) : R2 := fun x y H Q => ∃ p xs i v, x = .ref p ∧ y = .int i ∧ SqL K H p xs ∧ atI xs i = some v ∧ Q v H
def rIxT (K : PySem.W.Frag) : R2 := fun x y H Q => ∃ p xs i v, x = .ref p ∧ y = .int i ∧ SqT K H p xs ∧ atI xs i = some v ∧ Q v H
def rIxS : R2 := fun x y H Q => ∃ z i c, x = .str z ∧ y = .int i ∧ z.length ≤ sizeLine ∧ atI z.cps.toList i = some c ∧ Q (.str ⟨#[c]⟩) H
theorem ix_list : IxR X (rIxL X.K) := by
  intro value slice pins s σ H x y v u Q I rx ry h hs
  obtain ⟨p, xs, i, z, rfl, rfl, hq, he, q⟩ := h
  cases rx
  obtain ⟨t, rfl⟩ := ry
  obtain ⟨its, r, pl, hz⟩ := I.list hq
  obtain ⟨j, h1, h2, h3, h4, h5⟩ := atI_get he
  obtain ⟨w, ew, rw'⟩ := r.get h2
  have hl := r.length
  have hn := line63
  have fin : EP X pins σ Q w s := ⟨z, H, I, rw', q⟩
  by_cases h0 : 0 ≤ i
  · have hj : i.toNat = j := by
      rw [seqIndex_of h0 h5] at h1
      exact Option.some.inj h1
    exact item_listR pl.isList h0 (by omega) (by rw [hj]; simpa using ew) fin hs
  · have hj : (i + (its.toArray.size : Int)).toNat = j := by
      rw [seqIndex_neg (by omega) h4] at h1
      rw [List.size_toArray, ← hl]
      exact Option.some.inj h1
    exact subscriptTail_builtinR (x := w) pl.isList.typeIs slot_list_getitem.lookup
      (wpAny_getItem_list_neg (Q := fun r s' => r = w ∧ EP X pins σ Q r s') pl.isList (by omega) (by rw [List.size_toArray] <;> omega) (by omega) (by rw [hj]; simpa using ew) ⟨rfl, fin⟩) hs
theorem ix_tup : IxR X (rIxT X.K) := by
  intro value slice pins s σ H x y v u Q I rx ry h hs
  obtain ⟨p, xs, i, z, rfl, rfl, hq, he, q⟩ := h
  cases rx
  obtain ⟨t, rfl⟩ := ry
  obtain ⟨its, r, pl, hz⟩ := I.tuple hq
  obtain ⟨j, h1, h2, h3, h4, h5⟩ := atI_get he
  obtain ⟨w, ew, rw'⟩ := r.get h2
  have hl := r.length
  have hn := line63
  have fin : EP X pins σ Q w s := ⟨z, H, I, rw', q⟩
  exact subscriptTail_builtinR (x := w) pl.typeIs slot_tuple_getitem.lookup
    (getItem_tuple (j := j) (Q := fun r s' => r = w ∧ EP X pins σ Q r s') pl (by omega) (by omega) (by rw [List.size_toArray, ← hl]; exact h1) (by simpa using ew) ⟨rfl, fin⟩) hs
theorem ix_str : IxR X rIxS := by
  intro value slice pins s σ H x y v u Q I rx ry h hs
  obtain ⟨z, i, c, rfl, rfl, hz, he, q⟩ := h
  obtain ⟨t, rfl⟩ := rx
  obtain ⟨t', rfl⟩ := ry
  obtain ⟨j, h1, h2, h3, h4, h5⟩ := atI_get he
  have hl : z.cps.toList.length = z.length := by simp [Str.length]
  rw [hl] at h1 h4 h5
  have hn := line63
  exact tail_any (typeIs_str s z t) slot_str_getitem.lookup (getItem_str (c := c) (by
    have e1 : decide (i < -(2 ^ 63 : Int)) = false := decide_eq_false (by omega)
    have e2 : decide (i ≥ 2 ^ 63) = false := decide_eq_false (by omega)
    rw [e1, e2, Bool.or_false]) (by rw [h1]; simpa using h2) ⟨.str ⟨#[c]⟩, H, I.tok _, ⟨_, rfl⟩, q⟩) hs
/-- list, tuple or str -/
def rIx (K : PySem.W.Frag) : R2 := fun x y H Q => rIxL K x y H Q ∨ rIxT K x y H Q ∨ rIxS x y H Q
theorem ix_seq : IxR X (rIx X.K) := ix_list.or (ix_tup.or ix_str)

/-! ### xs[i] = v, any sign -/
/-- the list's object behind a store -/
theorem mapSeq_set (its : List Value) (n j : Nat) (u : Value) : Obj.mapSeq (·.setIfInBounds j u) { cls := .type "list", data := .seq its.toArray n } = { cls := .type "list", data := .seq (its.set j u).toArray n } := by
  simp [Obj.mapSeq]
theorem Inv.lst {pins : List (Addr × Obj)} {σ : St} {H : Hp} {s : Shared} {p : Addr} {xs : List V} (I : Inv X pins σ H s) (h : H p = some (.lst xs)) :
    ∃ (its : List Value) (n : Nat), Vals xs its ∧ s.heap.get? p = some { cls := .type "list", data := .seq its.toArray n } ∧ xs.length ≤ sizeLine := by
  obtain ⟨z, its, n, r, e⟩ := I.hok p _ h
  exact ⟨its, n, r, e, z⟩
/-- the list at p is written by an update of its object -/
theorem Inv.lstUpd {pins : List (Addr × Obj)} {σ : St} {H : Hp} {s : Shared} {p : Addr} {xs ys : List V} {its its' : List Value} {n n' : Nat} {f : Obj → Obj} (I : Inv X pins σ H s) (h : H p = some (.lst xs))
    (ho : s.heap.get? p = some { cls := .type "list", data := .seq its.toArray n }) (hf : f { cls := .type "list", data := .seq its.toArray n } = { cls := .type "list", data := .seq its'.toArray n' }) (r : Vals ys its') (hz : ys.length ≤ sizeLine) (t : Nat) :
    Inv X pins σ (upd H p (.lst ys)) { s with heap := s.heap.update p f, toks := t } := by
  have e : (s.heap.update p f).get? p = some { cls := .type "list", data := .seq its'.toArray n' } := by
    rw [Heap.get?_update_self f ho (by rw [hf] <;> rfl), hf]
  refine I.write (x := p) (e := p) (by rw [h]; trivial) (.inl rfl) (fun b u hb q => (Heap.get?_update_other _ _ (Ne.symm hb)).trans q) ⟨_, e⟩ ?_
  exact ⟨hz, its', n', r, e⟩
def rSetL : V → V → V → Hp → (Hp → Prop) → Prop := fun o i v H Q => ∃ p xs k j, o = .ref p ∧ i = .int k ∧ H p = some (.lst xs) ∧ ixN xs.length k = some j ∧ Q (upd H p (.lst (xs.set j v)))
theorem set_list : PSet X rSetL := by
  intro pins s σ H o i v ov iv u Q I ro ri rv h
  obtain ⟨p, xs, k, j, rfl, rfl, hp, hj, q⟩ := h
  cases ro
  obtain ⟨t, rfl⟩ := ri
  obtain ⟨its, n, r, ho, hz⟩ := I.lst hp
  obtain ⟨h1, h2, h3, h4⟩ := ixN_seq hj
  have hl := r.length
  have hn := line63
  have I' : Inv X pins σ (upd H p (.lst (xs.set j v))) { s with heap := s.heap.update p (Obj.mapSeq (·.setIfInBounds j u)) } :=
    I.lstUpd hp ho (mapSeq_set its n j u) (r.set rv j) (by rw [List.length_set]; exact hz) s.toks
  by_cases h0 : 0 ≤ k
  · have hk : k.toNat = j := by
      rw [seqIndex_of h0 h4] at h1
      exact Option.some.inj h1
    exact PySem.W.ki_setAt ho h0 (by omega) (by rw [List.size_toArray, ← hl]; exact h4) (by rw [hk]; exact ⟨_, I', q⟩)
  · have hk : (k + (its.toArray.size : Int)).toNat = j := by
      rw [seqIndex_neg (by omega) h3] at h1
      rw [List.size_toArray, ← hl]
      exact Option.some.inj h1
    exact PySem.W.ki_setBack ho (by omega) (by rw [List.size_toArray, ← hl]; exact h3) (by omega) (by rw [hk]; exact ⟨_, I', q⟩)

/-! ### slices -/
theorem slice_bounds (lo hi : Option Int) (n : Nat) : (sliceBounds lo hi none n).1 = ((HT.sIx n 0 lo : Nat) : Int) ∧ (sliceBounds lo hi none n).2.1 = ((HT.sIx n n hi : Nat) : Int) ∧ (sliceBounds lo hi none n).2.2 = 1 := by
  refine ⟨?_, ?_, rfl⟩
  · cases lo with
    | none => simp [sliceBounds, HT.sIx]
    | some i =>
      simp only [sliceBounds, HT.sIx, Option.getD_none, show (1 : Int) > 0 by decide, if_true]
      by_cases h : i < 0
      · simp only [h, if_true] <;> omega
      · simp only [h, if_false] <;> omega
  · cases hi with
    | none => simp [sliceBounds, HT.sIx]
    | some i =>
      simp only [sliceBounds, HT.sIx, Option.getD_none, show (1 : Int) > 0 by decide, if_true]
      by_cases h : i < 0
      · simp only [h, if_true] <;> omega
      · simp only [h, if_false] <;> omega
theorem slicePick_cut (its : List Value) (lo hi : Option Int) : slicePick its.toArray lo hi none = ((its.drop (HT.sIx its.length 0 lo)).take (HT.sIx its.length its.length hi - HT.sIx its.length 0 lo)).toArray := by
  obtain ⟨h1, h2, h3⟩ := slice_bounds lo hi its.toArray.size
  unfold slicePick
  rw [h1, h2, h3]
  simp only [sliceRange_one, pick_run, List.size_toArray] <;> rfl
/-- xs[lo:hi] of a list: a new list -/
def rSlL (K : PySem.W.Frag) : V → Option Int → Option Int → Hp → VK → Prop := fun x lo hi H Q => ∃ a xs, x = .ref a ∧ SqL K H a xs ∧ ∀ p, H p = none → Q (.ref p) (upd H p (.lst (cutV xs lo hi)))
theorem sl_list : SlR X (rSlL X.K) := by
  intro pins s σ H x v vl vu lo hi sl Q I rx hs pl pu h
  obtain ⟨a, xs, rfl, hx, q⟩ := h
  cases rx
  obtain ⟨its, r, ht, hz⟩ := I.list hx
  have hlen := r.length
  refine ⟨"list", _, slot_list_getitem.lookup, ht.isList.typeIs, ?_⟩
  refine wpAny_getItem_list_slice ht.isList hs pl pu .none (by simp) ?_ (by rw [List.size_toArray] <;> omega)
  rw [slicePick_cut, ← hlen]
  refine ⟨.ref s.heap.objs.size, _, I.laid (t' := s.toks) (o := .lst (cutV xs lo hi)) (fun b ob q => Heap.get?_push_of_some _ q) (Nat.le_refl _) ?_, rfl, q _ (I.hok.fresh (Nat.le_refl _))⟩
  exact ⟨Nat.le_trans (cutV_length xs lo hi) hz, _, 0, (r.drop (HT.sIx xs.length 0 lo)).take (HT.sIx xs.length xs.length hi - HT.sIx xs.length 0 lo), Heap.get?_push_size _ rfl⟩

/-! ### in, not in: flat items -/
def flatV : V → Bool
  | .non => true
  | .bl _ => true
  | .int _ => true
  | .str _ => true
  | _ => false
/-- == of flat values -/
def eqV : V → V → Bool
  | .non, .non => true
  | .bl a, .bl b => a == b
  | .bl a, .int b => (if a then 1 else 0) == b
  | .int a, .bl b => a == (if b then 1 else 0)
  | .int a, .int b => a == b
  | .str a, .str b => a == b
  | _, _ => false
theorem eqAt_V {A : Around} {s : Shared} {y x : V} {u v : Value} (ry : RelV y u) (rx : RelV x v) (fy : flatV y = true) (fx : flatV x = true) : SeqAt.EqAt A s u v (eqV y x) := by
  cases y with
  | non =>
    cases ry
    cases x with
    | non => cases rx; exact SeqAt.EqAt.same _
    | bl b => cases rx; exact SeqAt.EqAt.none_bool b
    | int b => obtain ⟨t, rfl⟩ := rx; exact SeqAt.EqAt.none_int b t
    | str b => obtain ⟨t, rfl⟩ := rx; exact SeqAt.EqAt.none_str b t
    | _ => exact absurd (show false = true from fx) Bool.false_ne_true
  | bl a =>
    cases ry
    cases x with
    | non => cases rx; exact SeqAt.EqAt.bool_none a
    | bl b => cases rx; exact SeqAt.EqAt.bool_bool a b
    | int b => obtain ⟨t, rfl⟩ := rx; exact SeqAt.EqAt.bool_int a b t
    | str b => obtain ⟨t, rfl⟩ := rx; exact SeqAt.EqAt.bool_str a b t
    | _ => exact absurd (show false = true from fx) Bool.false_ne_true
  | int a =>
    obtain ⟨t', rfl⟩ := ry
    cases x with
    | non => cases rx; exact SeqAt.EqAt.int_none a t'
    | bl b => cases rx; exact SeqAt.EqAt.int_bool a t' b
    | int b => obtain ⟨t, rfl⟩ := rx; exact SeqAt.EqAt.int_int a t' b t
    | str b => obtain ⟨t, rfl⟩ := rx; exact SeqAt.EqAt.int_str a t' b t
    | _ => exact absurd (show false = true from fx) Bool.false_ne_true
  | str a =>
    obtain ⟨t', rfl⟩ := ry
    cases x with
    | non => cases rx; exact SeqAt.EqAt.str_none a t'
    | bl b => cases rx; exact SeqAt.EqAt.str_bool a t' b
    | int b => obtain ⟨t, rfl⟩ := rx; exact SeqAt.EqAt.str_int a t' b t
    | str b => obtain ⟨t, rfl⟩ := rx; exact SeqAt.EqAt.str_str a t' b t
    | _ => exact absurd (show false = true from fx) Bool.false_ne_true
  | _ => exact absurd (show false = true from fy) Bool.false_ne_true
/-- the items' answers, read off the values (a value's own answer does not lean on its token) -/
def eqU (x : V) (u : Value) : Bool := match u with
  | .none => eqV .non x
  | .bool b => eqV (.bl b) x
  | .int i _ => eqV (.int i) x
  | .str z _ => eqV (.str z) x
  | _ => false
theorem eqU_of {x y : V} {u : Value} (r : RelV y u) (f : flatV y = true) : eqU x u = eqV y x := by
  cases y with
  | non => cases r; rfl
  | bl b => cases r; rfl
  | int i => obtain ⟨t, rfl⟩ := r; rfl
  | str z => obtain ⟨t, rfl⟩ := r; rfl
  | _ => exact absurd (show false = true from f) Bool.false_ne_true
theorem any_eqU {x : V} : ∀ {xs : List V} {us : List Value}, Vals xs us → xs.all flatV = true → us.any (eqU x) = xs.any fun y => eqV y x
  | _, _, .nil, _ => rfl
  | y :: xs, u :: us, .cons r t, f => by
    rw [List.all_cons, Bool.and_eq_true] at f
    rw [List.any_cons, List.any_cons, eqU_of r f.1, any_eqU t f.2]
theorem mem_eqAt {A : Around} {s : Shared} {x : V} {v : Value} (rx : RelV x v) (fx : flatV x = true) : ∀ {xs : List V} {us : List Value}, Vals xs us → xs.all flatV = true → ∀ u ∈ us, SeqAt.EqAt A s u v (eqU x u)
  | _, _, .nil, _ => fun u hu => by cases hu
  | y :: xs, u :: us, .cons r t, f => fun u' hu => by
    rw [List.all_cons, Bool.and_eq_true] at f
    rcases List.mem_cons.mp hu with rfl | hu
    · rw [eqU_of r f.1]; exact eqAt_V r rx f.1 fx
    · exact mem_eqAt rx fx t f.2 u' hu
def inV (x : V) (xs : List V) : Bool := xs.any fun y => eqV y x
/-- x in a list or tuple of flat items -/
def rIn (K : PySem.W.Frag) (neg : Bool) : R2 := fun x y H Q => ∃ p xs, y = .ref p ∧ (SqL K H p xs ∨ SqT K H p xs) ∧ flatV x = true ∧ xs.all flatV = true ∧ Q (.bl (if neg then !inV x xs else inV x xs)) H
theorem op_in_seq : OpR X (compareOp .In) (rIn X.K false) := by
  intro pins s σ H x y v u Q I rx ry h
  obtain ⟨p, xs, rfl, hq, fx, fs, q⟩ := h
  cases ry
  rcases hq with hq | hq
  · obtain ⟨its, r, pl, hz⟩ := I.list hq
    refine SeqAt.in_listAt (eqU x) pl.isList (fun w hw => mem_eqAt rx fx r fs w (by simpa using hw)) ⟨.bl _, H, I, rfl, ?_⟩
    rw [show its.toArray.any (eqU x) = its.any (eqU x) by simp, any_eqU r fs]
    exact q
  · obtain ⟨its, r, pl, hz⟩ := I.tuple hq
    refine SeqAt.in_tupleAt (eqU x) pl (fun w hw => mem_eqAt rx fx r fs w (by simpa using hw)) ⟨.bl _, H, I, rfl, ?_⟩
    rw [show its.toArray.any (eqU x) = its.any (eqU x) by simp, any_eqU r fs]
    exact q
theorem op_notIn_seq : OpR X (compareOp .NotIn) (rIn X.K true) := by
  intro pins s σ H x y v u Q I rx ry h
  obtain ⟨p, xs, rfl, hq, fx, fs, q⟩ := h
  cases ry
  rcases hq with hq | hq
  · obtain ⟨its, r, pl, hz⟩ := I.list hq
    refine SeqAt.notIn_listAt (eqU x) pl.isList (fun w hw => mem_eqAt rx fx r fs w (by simpa using hw)) ⟨.bl _, H, I, rfl, ?_⟩
    rw [show its.toArray.any (eqU x) = its.any (eqU x) by simp, any_eqU r fs]
    exact q
  · obtain ⟨its, r, pl, hz⟩ := I.tuple hq
    refine SeqAt.notIn_tupleAt (eqU x) pl (fun w hw => mem_eqAt rx fx r fs w (by simpa using hw)) ⟨.bl _, H, I, rfl, ?_⟩
    rw [show its.toArray.any (eqU x) = its.any (eqU x) by simp, any_eqU r fs]
    exact q
theorem op_notIn_str : OpR X (compareOp .NotIn) (fun x y H Q => ∃ i j, x = .str i ∧ y = .str j ∧ Q (.bl (!(!(Builtin.Str.occurrences j i 0 j.length 1).isEmpty))) H) := by
  intro pins s σ H x y v u Q I rx ry h
  obtain ⟨i, j, rfl, rfl, q⟩ := h
  obtain ⟨t, rfl⟩ := rx
  obtain ⟨t', rfl⟩ := ry
  exact notIn_str ⟨.bl _, H, I, rfl, q⟩

/-! ### len, list(x), tuple(x) of any list or tuple that is read -/
theorem call_len_seq : CallR X (.builtin "len") (fun xs H Q => ∃ p ys, xs = [.ref p] ∧ (SqL X.K H p ys ∨ SqT X.K H p ys) ∧ Q (.int ys.length) H) := by
  intro pins s σ H xs us Q I r h
  obtain ⟨p, ys, rfl, hq, q⟩ := h
  obtain ⟨u, rfl, rx⟩ := vals1 r
  cases rx
  have hn := line63
  rcases hq with hq | hq
  · obtain ⟨its, r', pl, hz⟩ := I.list hq
    have hlen := r'.length
    exact Calls.call_len_list pl.isList (by simp only [List.size_toArray] <;> omega) ⟨.int ys.length, H, I.tok _, ⟨s.toks + 1, by rw [List.size_toArray, hlen]⟩, q⟩
  · obtain ⟨its, r', pl, hz⟩ := I.tuple hq
    have hlen := r'.length
    exact len_tuple pl (by simp only [List.size_toArray] <;> omega) ⟨.int ys.length, H, I.tok _, ⟨s.toks + 1, by rw [List.size_toArray, hlen]⟩, q⟩
theorem call_len_str : CallR X (.builtin "len") (fun xs H Q => ∃ z, xs = [.str z] ∧ z.length ≤ sizeLine ∧ Q (.int z.length) H) := by
  intro pins s σ H xs us Q I r h
  obtain ⟨z, rfl, hz, q⟩ := h
  obtain ⟨u, rfl, t, rfl⟩ := vals1 r
  have hn := line63
  exact len_str (by omega) ⟨.int z.length, H, I.tok _, ⟨_, rfl⟩, q⟩
theorem CallR.or {f : Value} {r r' : List V → Hp → VK → Prop} (h : CallR X f r) (h' : CallR X f r') : CallR X f (fun xs H Q => r xs H Q ∨ r' xs H Q) := by
  intro pins s σ H xs us Q I rs q
  rcases q with q | q
  · exact h pins s σ H xs us Q I rs q
  · exact h' pins s σ H xs us Q I rs q
theorem call_list_of : CallR X (.type "list") (fun xs H Q => ∃ p ys, xs = [.ref p] ∧ (SqL X.K H p ys ∨ SqT X.K H p ys) ∧ ∀ l, H l = none → Q (.ref l) (upd H l (.lst ys))) := by
  intro pins s σ H xs us Q I r h
  obtain ⟨p, ys, rfl, hq, q⟩ := h
  obtain ⟨u, rfl, rx⟩ := vals1 r
  cases rx
  have fin : ∀ (its : List Value), Vals ys its → ys.length ≤ sizeLine → ∀ (h' : Heap) (c' : Nat), (∀ b o', s.heap.get? b = some o' → h'.get? b = some o') →
      h'.get? s.heap.objs.size = some { cls := .type "list", dict := none, data := .seq its.toArray c', slots := #[] } → EP X pins σ Q (.ref s.heap.objs.size) { s with heap := h' } := fun its r' hz h' c' kp e =>
    ⟨.ref s.heap.objs.size, _, I.laid (t' := s.toks) kp (Nat.le_refl _) (show ObjOk X.prog X.w _ h' _ (.lst ys) from ⟨hz, its, c', r', e⟩), rfl, q _ (I.hok.fresh (Nat.le_refl _))⟩
  rcases hq with hq | hq
  · obtain ⟨its, r', pl, hz⟩ := I.list hq
    have hlen := r'.length
    obtain ⟨o, ho, hc, n, hd⟩ := pl.isList
    exact call_list_seq p (.inl rfl) ho hc hd (fun h' c' kp e => fin its r' hz h' c' kp e) (by simp only [List.size_toArray] <;> omega)
  · obtain ⟨its, r', pl, hz⟩ := I.tuple hq
    have hlen := r'.length
    obtain ⟨o, ho, hc, n, hd⟩ := pl
    exact call_list_seq p (.inr rfl) ho hc hd (fun h' c' kp e => fin its r' hz h' c' kp e) (by simp only [List.size_toArray] <;> omega)
theorem call_tuple_of : CallR X (.type "tuple") (fun xs H Q => ∃ p ys, xs = [.ref p] ∧ ((SqL X.K H p ys ∧ ∀ l, H l = none → Q (.ref l) (upd H l (.tup ys))) ∨ (SqT X.K H p ys ∧ Q (.ref p) H))) := by
  intro pins s σ H xs us Q I r h
  obtain ⟨p, ys, rfl, h⟩ := h
  obtain ⟨u, rfl, rx⟩ := vals1 r
  cases rx
  rcases h with ⟨hq, q⟩ | ⟨hq, q⟩
  · obtain ⟨its, r', pl, hz⟩ := I.list hq
    have hlen := r'.length
    refine call_tuple_list pl.isList (fun h' kp => ?_) (by simp only [List.size_toArray] <;> omega)
    have I1 : Inv X pins σ H { s with heap := h' } := I.kept (t' := s.toks) kp
    have I2 : Inv X pins σ (upd H h'.objs.size (.tup ys)) { s with heap := h'.push { cls := .type "tuple", data := .seq its.toArray } } :=
      I1.laid (t' := s.toks) (fun b o e => Heap.get?_push_of_some _ e) (Nat.le_refl _) (show ObjOk X.prog X.w _ _ _ (.tup ys) from ⟨hz, its, r', IsTup.new _ _⟩)
    exact ⟨.ref h'.objs.size, _, I2, rfl, q _ (I1.hok.fresh (Nat.le_refl _))⟩
  · obtain ⟨its, r', pl, hz⟩ := I.tuple hq
    exact call_tuple_same pl ⟨.ref p, H, I, rfl, q⟩

/-! ### the call of a builtin's method: o.m(..) -/
/-- the value is of that builtin type -/
def tyV (K : PySem.W.Frag) (T : String) (x : V) (H : Hp) : Prop := match x with
  | .str _ => T = "str"
  | .int _ => T = "int"
  | .ref p => (T = "list" ∧ ∃ xs, SqL K H p xs) ∨ (T = "tuple" ∧ ∃ o, K.lookup p = some o ∧ o.cls = .type "tuple" ∧ o.dict = none) ∨
      (T = "dict" ∧ ((∃ kvs, H p = some (.dK kvs)) ∨ ∃ kvs, H p = some (.dT kvs))) ∨ (T = "set" ∧ ∃ S n, H p = some (.set S n))
  | _ => False
theorem tyV_is {pins : List (Addr × Obj)} {σ : St} {H : Hp} {s : Shared} {T : String} {x : V} {v : Value} (I : Inv X pins σ H s) (r : RelV x v) (ty : tyV X.K T x H) :
    s.TypeIs v T ∧ ∀ a, v = .ref a → ∃ ob, s.heap.get? a = some ob ∧ ob.dict = none := by
  cases x with
  | str z =>
    obtain ⟨t, rfl⟩ := r
    cases (show T = "str" from ty)
    exact ⟨typeIs_str s z t, fun _ e => nomatch e⟩
  | int i =>
    obtain ⟨t, rfl⟩ := r
    cases (show T = "int" from ty)
    exact ⟨typeIs_int s i t, fun _ e => nomatch e⟩
  | ref p =>
    cases r
    rcases ty with ⟨rfl, xs, hq⟩ | ⟨rfl, o, hk, hc, hd⟩ | ⟨rfl, hk⟩ | ⟨rfl, S, n, hk⟩
    · obtain ⟨its, _, pl, _⟩ := I.list hq
      refine ⟨pl.isList.typeIs, fun a e => ?_⟩
      cases e
      obtain ⟨o, n, e, c, hd, _⟩ := pl
      exact ⟨o, e, hd⟩
    · refine ⟨⟨o, I.kIn p o hk, hc⟩, fun a e => ?_⟩
      cases e
      exact ⟨o, I.kIn _ o hk, hd⟩
    · have z : ∃ o, s.heap.get? p = some o ∧ o.ExactDict := by
        rcases hk with ⟨kvs, hk⟩ | ⟨kvs, hk⟩
        · obtain ⟨_, _, _, _, o, _, _, e, ex, _⟩ := I.hok p _ hk
          exact ⟨o, e, ex⟩
        · obtain ⟨_, _, _, _, o, _, _, e, ex, _⟩ := I.hok p _ hk
          exact ⟨o, e, ex⟩
      obtain ⟨o, e, ex⟩ := z
      refine ⟨⟨o, e, ex.1⟩, fun a e2 => ?_⟩
      cases e2
      exact ⟨o, e, ex.2.1⟩
    · obtain ⟨o, _, _, _, e, ex, _⟩ := I.hok p _ hk
      refine ⟨⟨o, e, ex.1⟩, fun a e2 => ?_⟩
      cases e2
      exact ⟨o, e, ex.2.1⟩
  | _ => exact False.elim ty
def tBM0 (K : PySem.W.Frag) (T : String) (r : V → List V → Hp → VK → Prop) (to : TE) : TE := fun σ H Q => to σ H fun x H1 => tyV K T x H1 ∧ r x [] H1 Q
def tBM (K : PySem.W.Frag) (T : String) (r : V → List V → Hp → VK → Prop) (to : TE) (t : TA) : TE := fun σ H Q => to σ H fun x H1 => tyV K T x H1 ∧ t σ H1 fun xs H2 => r x xs H2 Q
variable {o e : Expr} {es : List Expr} {to : TE} {t : TA} {name : Str} {apos cpos : Pos} {T id : String} {r : V → List V → Hp → VK → Prop}
theorem pe_bm0 (pa : PlainAttrs T) (slot : Slot T name id) (hty : typeOf (.builtin id) = pure (.type "method_descriptor")) (hm : MtR X id r) (ho : PE X o to)
    (hbase : attributeBase o name X.env (eval o X.env) = eval o X.env := by rfl) (hline : (apos.endLine == cpos.line) = true := by rfl) : PE X (.Call (.Attribute o name apos) [] [] cpos) (tBM0 X.K T r to) := by
  intro pins s σ H Q I h
  refine wpAny_Call_method0_late hbase hline (thn (ho pins s σ H _ I h) fun v s1 ⟨x, H1, I1, r1, ty, q1⟩ => ?_)
  obtain ⟨h1, h2⟩ := tyV_is I1 r1 ty
  exact ⟨T, id, pa, slot, hty, h1, h2, Calls.callWith_builtin rfl (PySem.evalArgs_none (hm pins s1 σ H1 x [] v [] Q I1 r1 .nil q1))⟩
theorem pe_bm (pa : PlainAttrs T) (slot : Slot T name id) (hty : typeOf (.builtin id) = pure (.type "method_descriptor")) (hm : MtR X id r) (ho : PE X o to) (ha : PA X (e :: es) t)
    (hbase : attributeBase o name X.env (eval o X.env) = eval o X.env := by rfl)
    (hfew : ((backTo cpos (starEach (e :: es) X.env)).all (fun x => !x.1) && (backToKw cpos (keywordEach [] X.env)).all (fun x => x.1.isSome)
      && decide ((e :: es).length + ([] : List Keyword).length + (if ([] : List Keyword).isEmpty then 0 else 1) < 30)) = true := by rfl)
    (hline : (apos.endLine == cpos.line) = true := by rfl) (hs : starEach (e :: es) X.env = (false, eval e X.env) :: starEach es X.env := by rfl) (hplain : (backTo cpos (starEach es X.env)).any (·.1) = false := by rfl) :
    PE X (.Call (.Attribute o name apos) (e :: es) [] cpos) (tBM X.K T r to t) := by
  intro pins s σ H Q I h
  refine wpAny_Call_method_late hbase hfew hline rfl (thn (ho pins s σ H _ I h) fun v s1 ⟨x, H1, I1, r1, ty, q1⟩ => ?_)
  obtain ⟨h1, h2⟩ := tyV_is I1 r1 ty
  refine ⟨T, id, pa, slot, hty, h1, h2, ?_⟩
  have hA := ha cpos pins s1 σ H1 _ I1 q1
  rw [hs] at hA ⊢
  refine Calls.callWith_builtin (by show (false || (backTo cpos (starEach es X.env)).any (·.1)) = false; rw [hplain] <;> rfl) (Calls.evalArgs_plain ?_)
  exact thn hA fun us s2 ⟨vs, H2, I2, r2, q2⟩ => hm pins s2 σ H2 x vs v us Q I2 r1 r2 q2
/- xs.append(e), list.index on a module's tuple .. are MtR facts of 06m -/
end
end L2

namespace L2
open PySem PySem.Spec PyProof.Rows

def MtM (X : Cx) (id : String) (r : V → List V → Hp → VK → Prop) : Prop :=
  ∀ (pins : List (Addr × Obj)) (s : Shared) (σ : St) (H : Hp) (x : V) (xs : List V) (v : Value) (us : List Value) (Q : VK), Inv X pins σ H s → RelV x v → Vals xs us → r x xs H Q →
    wpAny (model X.prog X.w) X.A (call (.builtin id) (v :: us)) (EP X pins σ Q) X.xe s

/-! ### lists of values -/
theorem Vals.one : ∀ {x : V} {us : List Value}, Vals [x] us → ∃ u, us = [u] ∧ RelV x u
  | _, _, .cons r .nil => ⟨_, rfl, r⟩
theorem Vals.two : ∀ {x y : V} {us : List Value}, Vals [x, y] us → ∃ u v, us = [u, v] ∧ RelV x u ∧ RelV y v
  | _, _, _, .cons r (.cons q .nil) => ⟨_, _, rfl, r, q⟩
theorem Vals.zero : ∀ {us : List Value}, Vals [] us → us = []
  | _, .nil => rfl
theorem Vals.dropLast {xs : List V} {us : List Value} (h : Vals xs us) : Vals xs.dropLast us.dropLast := by
  induction h with
  | nil => exact .nil
  | cons r t ih =>
    cases t with
    | nil => exact .nil
    | cons q t' => exact .cons r ih
theorem Vals.eraseIdx : ∀ {xs : List V} {us : List Value} (i : Nat), Vals xs us → Vals (xs.eraseIdx i) (us.eraseIdx i)
  | _, _, _, .nil => .nil
  | _, _, 0, .cons _ t => t
  | _, _, i + 1, .cons r t => .cons r (Vals.eraseIdx i t)
theorem Vals.reverse {xs : List V} {us : List Value} (h : Vals xs us) : Vals xs.reverse us.reverse := by
  induction h with
  | nil => exact .nil
  | cons r t ih => rw [List.reverse_cons, List.reverse_cons]; exact Vals.append ih (.cons r .nil)
theorem Vals.rep {xs : List V} {us : List Value} (h : Vals xs us) : ∀ k : Nat, Vals (List.replicate k xs).flatten (List.replicate k us).flatten
  | 0 => .nil
  | k + 1 => by
    rw [List.replicate_succ, List.replicate_succ, List.flatten_cons, List.flatten_cons]
    exact Vals.append h (Vals.rep h k)
theorem erase_last {α : Type} (l : List α) : l.eraseIdx (l.length - 1) = l.dropLast := by
  induction l with
  | nil => rfl
  | cons a r ih =>
    cases r with
    | nil => rfl
    | cons b r =>
      have e : (a :: b :: r).length - 1 = ((b :: r).length - 1) + 1 := by
        have h1 : (a :: b :: r).length = r.length + 2 := rfl
        have h2 : (b :: r).length = r.length + 1 := rfl
        omega
      rw [e, List.eraseIdx_cons_succ, ih]
      all_goals rfl
theorem len_erase {α : Type} : ∀ (l : List α) (i : Nat), (l.eraseIdx i).length ≤ l.length
  | [], _ => Nat.le_refl _
  | _ :: _, 0 => Nat.le_succ _
  | _ :: r, i + 1 => Nat.succ_le_succ (len_erase r i)
theorem foldl_rep (its : List Value) : ∀ (k : Nat) (acc : List Value),
    List.foldl (fun x1 x2 => x1 ++ x2) acc.toArray (List.replicate k its.toArray) = (acc ++ (List.replicate k its).flatten).toArray
  | 0, acc => by simp
  | k + 1, acc => by
    have e : acc.toArray ++ its.toArray = (acc ++ its).toArray := by simp
    have e2 : (acc ++ its) ++ (List.replicate k its).flatten = acc ++ (List.replicate (k + 1) its).flatten := by
      rw [List.replicate_succ, List.flatten_cons, List.append_assoc]
    rw [← e2, ← foldl_rep its k (acc ++ its), ← e, List.replicate_succ, List.foldl_cons]

section
variable {X : Cx} {pins : List (Addr × Obj)} {σ : St} {H : Hp} {s : Shared} {l b : Addr} {xs ys zs : List V}

/-! ### the two steps: a tracked list is rewritten, a new list is laid -/
theorem Inv.lset {its its' : List Value} {n : Nat} {f : Array Value → Array Value} {t' : Nat} (I : Inv X pins σ H s) (hH : H l = some (.lst xs))
    (e : s.heap.get? l = some { cls := .type "list", data := .seq its.toArray n }) (hf : f its.toArray = its'.toArray) (hv : Vals ys its') (hz : ys.length ≤ sizeLine) :
    Inv X pins σ (upd H l (.lst ys)) { s with heap := s.heap.update l (Obj.mapSeq f), toks := t' } := by
  have q := PySem.IsL.update e f
  rw [hf] at q
  refine I.write (x := l) (e := l) (by rw [hH]; exact trivial) (.inl rfl) (fun b' u hb hu => (Heap.get?_update_other s.heap (Obj.mapSeq f) (Ne.symm hb)).trans hu) ⟨_, q⟩ ?_
  exact ⟨hz, its', _, hv, q⟩
theorem Inv.lnew {its : List Value} {t' : Nat} (I : Inv X pins σ H s) (hv : Vals ys its) (hz : ys.length ≤ sizeLine) :
    Inv X pins σ (upd H s.heap.objs.size (.lst ys)) { s with heap := s.heap.push { cls := .type "list", data := .seq its.toArray }, toks := t' } :=
  I.laid (fun _ _ q => Heap.get?_push_of_some _ q) (Nat.le_refl _) ⟨hz, its, 0, hv, Heap.get?_push_size _ rfl⟩
theorem Inv.fresh (I : Inv X pins σ H s) : H s.heap.objs.size = none := I.hok.fresh (Nat.le_refl _)
theorem Inv.lstM (I : Inv X pins σ H s) (hH : H l = some (.lst xs)) : xs.length ≤ sizeLine ∧ ∃ (its : List Value) (n : Nat), Vals xs its ∧ xs.length = its.length ∧ s.heap.get? l = some { cls := .type "list", data := .seq its.toArray n } := by
  obtain ⟨z, its, n, r, e⟩ := I.hok l _ hH
  exact ⟨z, its, n, r, r.length, e⟩

theorem notLongL {n : Nat} (h : n ≤ sizeLine) : Builtin.List.listTooLong n = false := by
  unfold Builtin.List.listTooLong
  exact decide_eq_false (by omega)
end

section
variable {X : Cx}

/-! ### methods -/
def rAppend : V → List V → Hp → VK → Prop := fun x vs H Q => ∃ l xs y, x = .ref l ∧ vs = [y] ∧ H l = some (.lst xs) ∧ xs.length < sizeLine ∧ Q .non (upd H l (.lst (xs ++ [y])))
theorem mt_append : MtM X "list.append" rAppend := by
  intro pins s σ H x vs v us Q I rx rv h
  obtain ⟨l, xs, y, rfl, rfl, hH, hz, q⟩ := h
  cases rx
  obtain ⟨u, rfl, ru⟩ := rv.one
  obtain ⟨z, its, n, r, hl, e⟩ := I.lstM hH
  refine call_meets F.slot_list_append ⟨_, e, rfl⟩ F.entry_list_append (F.args_list_append_2 _ _) (PySem.list_append l its.toArray n u (by rw [List.size_toArray]; omega)) ⟨e, ?_⟩
  refine ⟨.non, _, I.lset (its' := its ++ [u]) hH e (by simp) (r.append (.cons ru .nil)) ?_, rfl, q⟩
  rw [List.length_append, List.length_singleton]
  omega

def rExtend : V → List V → Hp → VK → Prop := fun x vs H Q => ∃ l b xs zs, x = .ref l ∧ vs = [.ref b] ∧ H l = some (.lst xs) ∧ H b = some (.lst zs) ∧ xs.length + zs.length ≤ sizeLine ∧ Q .non (upd H l (.lst (xs ++ zs)))
theorem mt_extend : MtM X "list.extend" rExtend := by
  intro pins s σ H x vs v us Q I rx rv h
  obtain ⟨l, b, xs, zs, rfl, rfl, hH, hB, hz, q⟩ := h
  cases rx
  obtain ⟨u, rfl, ru⟩ := rv.one
  cases ru
  obtain ⟨z, its, n, r, hl, e⟩ := I.lstM hH
  obtain ⟨z2, its2, n2, r2, hl2, e2⟩ := I.lstM hB
  have hsz : its.toArray.size + its2.toArray.size ≤ sizeLine := by rw [List.size_toArray, List.size_toArray]; omega
  have hlong : ¬ (!its.toArray.isEmpty && Builtin.List.listTooLong (its.toArray.size + its2.toArray.size)) = true := by
    rw [notLongL hsz, Bool.and_false]
    exact Bool.false_ne_true
  refine call_meets F.slot_list_extend ⟨_, e, rfl⟩ F.entry_list_extend (F.args_list_extend_2 _ _)
    (AutoSeq1.list_extend_list_list_0 l its.toArray n b its2.toArray n2 hlong (by rw [List.size_toArray]; omega) (by omega)) ⟨e, e2, ?_⟩
  refine ⟨.non, _, I.lset (its' := its ++ its2) hH e (by simp) (r.append r2) ?_, rfl, q⟩
  rw [List.length_append]
  omega

def rPop : V → List V → Hp → VK → Prop := fun x vs H Q => ∃ l xs y, x = .ref l ∧ vs = [] ∧ H l = some (.lst xs) ∧ xs[xs.length - 1]? = some y ∧ Q y (upd H l (.lst xs.dropLast))
theorem mt_pop : MtM X "list.pop" rPop := by
  intro pins s σ H x vs v us Q I rx rv h
  obtain ⟨l, xs, y, rfl, rfl, hH, hy, q⟩ := h
  cases rx
  have hus := rv.zero
  subst hus
  obtain ⟨z, its, n, r, hl, e⟩ := I.lstM hH
  obtain ⟨u, hu, ru⟩ := r.get hy
  have hy' : its.toArray[its.toArray.size - 1]? = some u := by
    show its.toArray[its.length - 1]? = some u
    rw [← Array.getElem?_toList, ← hl]
    exact hu
  refine call_meets F.slot_list_pop ⟨_, e, rfl⟩ F.entry_list_pop (F.args_list_pop_1 _) (MeetsSeq.list_pop_last l its.toArray n u hy' (by rw [List.size_toArray]; omega)) ⟨e, ?_⟩
  refine ⟨y, _, I.lset (its' := its.dropLast) hH e ?_ r.dropLast ?_, ru, q⟩
  · show its.toArray.eraseIdxIfInBounds (its.toArray.size - 1) = its.dropLast.toArray
    rw [List.size_toArray, List.eraseIdxIfInBounds_toArray, erase_last]
  · rw [List.length_dropLast]
    omega

def rPopAt : V → List V → Hp → VK → Prop := fun x vs H Q => ∃ l xs i k y, x = .ref l ∧ vs = [.int i] ∧ H l = some (.lst xs) ∧ -(2 ^ 63) ≤ i ∧ i < 2 ^ 63 ∧ seqIndex? i xs.length = some k ∧ xs[k]? = some y ∧ Q y (upd H l (.lst (xs.eraseIdx k)))
theorem mt_popAt : MtM X "list.pop" rPopAt := by
  intro pins s σ H x vs v us Q I rx rv h
  obtain ⟨l, xs, i, k, y, rfl, rfl, hH, h1, h2, hk, hy, q⟩ := h
  cases rx
  obtain ⟨u, rfl, ru⟩ := rv.one
  obtain ⟨t, rfl⟩ := ru
  obtain ⟨z, its, n, r, hl, e⟩ := I.lstM hH
  obtain ⟨w, hw, rw'⟩ := r.get hy
  refine call_meets F.slot_list_pop ⟨_, e, rfl⟩ F.entry_list_pop (F.args_list_pop_2 _ _)
    (MeetsSeq.list_pop_at l its.toArray n i t k w (fitsIndex_both h1 h2) (by rw [List.size_toArray, ← hl]; exact hk) (by rw [← Array.getElem?_toList]; exact hw) (by rw [List.size_toArray]; omega)) ⟨e, ?_⟩
  refine ⟨y, _, I.lset (its' := its.eraseIdx k) hH e ?_ (r.eraseIdx k) ?_, rw', q⟩
  · show its.toArray.eraseIdxIfInBounds k = (its.eraseIdx k).toArray
    rw [List.eraseIdxIfInBounds_toArray]
  · have := len_erase xs k
    omega

def rReverse : V → List V → Hp → VK → Prop := fun x vs H Q => ∃ l xs, x = .ref l ∧ vs = [] ∧ H l = some (.lst xs) ∧ Q .non (upd H l (.lst xs.reverse))
theorem mt_reverse : MtM X "list.reverse" rReverse := by
  intro pins s σ H x vs v us Q I rx rv h
  obtain ⟨l, xs, rfl, rfl, hH, q⟩ := h
  cases rx
  have hus := rv.zero
  subst hus
  obtain ⟨z, its, n, r, hl, e⟩ := I.lstM hH
  refine call_meets F.slot_list_reverse ⟨_, e, rfl⟩ F.entry_list_reverse (F.args_list_reverse_1 _) (AutoSeq1.list_reverse_list_0 l its.toArray n (by rw [List.size_toArray]; omega)) ⟨e, ?_⟩
  refine ⟨.non, _, I.lset (its' := its.reverse) hH e (by simp) r.reverse ?_, rfl, q⟩
  rw [List.length_reverse]
  omega

def rClear : V → List V → Hp → VK → Prop := fun x vs H Q => ∃ l xs, x = .ref l ∧ vs = [] ∧ H l = some (.lst xs) ∧ Q .non (upd H l (.lst []))
theorem mt_clear : MtM X "list.clear" rClear := by
  intro pins s σ H x vs v us Q I rx rv h
  obtain ⟨l, xs, rfl, rfl, hH, q⟩ := h
  cases rx
  have hus := rv.zero
  subst hus
  obtain ⟨z, its, n, r, hl, e⟩ := I.lstM hH
  refine call_meets F.slot_list_clear ⟨_, e, rfl⟩ F.entry_list_clear (F.args_list_clear_1 _) (AutoSeq1.list_clear_list_0 l its.toArray n (by rw [List.size_toArray]; omega)) ⟨e, ?_⟩
  exact ⟨.non, _, I.lset (its' := []) (ys := []) hH e rfl .nil (Nat.zero_le _), rfl, q⟩

/-! ### list + list, list += list, list * int -/
def rCat : R2 := fun x y H Q => ∃ l b xs zs, x = .ref l ∧ y = .ref b ∧ H l = some (.lst xs) ∧ H b = some (.lst zs) ∧ xs.length + zs.length ≤ sizeLine ∧ ∀ p, H p = none → Q (.ref p) (upd H p (.lst (xs ++ zs)))
theorem op_cat : OpR X (binaryOp .Add) rCat := by
  intro pins s σ H x y v u Q I rx ry h
  obtain ⟨l, b, xs, zs, rfl, rfl, hH, hB, hz, q⟩ := h
  cases rx
  cases ry
  obtain ⟨z, its, n, r, hl, e⟩ := I.lstM hH
  obtain ⟨z2, its2, n2, r2, hl2, e2⟩ := I.lstM hB
  refine PySem.P.add_list e e2 ?_ (by rw [List.size_toArray, List.size_toArray]; omega)
  have ea : its.toArray ++ its2.toArray = (its ++ its2).toArray := by simp
  rw [ea]
  exact ⟨.ref _, _, I.lnew (t' := s.toks) (r.append r2) (by rw [List.length_append]; omega), rfl, q _ I.fresh⟩
/-- a list times an int (a negative one is nothing) -/
def rRep : R2 := fun x y H Q => ∃ l k xs, x = .ref l ∧ y = .int k ∧ H l = some (.lst xs) ∧ -(2 ^ 63) ≤ k ∧ k < 2 ^ 63 ∧ xs.length * k.toNat ≤ sizeLine ∧
  ∀ p, H p = none → Q (.ref p) (upd H p (.lst (List.replicate k.toNat xs).flatten))
theorem len_rep {α : Type} (xs : List α) (k : Nat) : (List.replicate k xs).flatten.length = k * xs.length := by
  induction k with
  | zero => simp
  | succ k ih => rw [List.replicate_succ, List.flatten_cons, List.length_append, ih, Nat.succ_mul, Nat.add_comm]
theorem op_rep : OpR X (binaryOp .Mult) rRep := by
  intro pins s σ H x y v u Q I rx ry h
  obtain ⟨l, k, xs, rfl, rfl, hH, h1, h2, hz, q⟩ := h
  cases rx
  obtain ⟨t, rfl⟩ := ry
  obtain ⟨z, its, n, r, hl, e⟩ := I.lstM hH
  have hlen : its.toArray.size * k.toNat ≤ sizeLine := by rw [List.size_toArray, ← hl]; exact hz
  have hcap : ¬ its.toArray.size * k.toNat > (2 ^ 63 - 1) / 8 := by
    have : (sizeLine : Nat) ≤ (2 ^ 63 - 1) / 8 := by decide
    omega
  have hfit : ¬ (!Builtin.List.listFitsIndex k) = true := by
    rw [fitsIndex_both h1 h2]
    exact Bool.false_ne_true
  have hlong : ¬ Builtin.List.listTooLong (its.toArray.size * k.toNat) = true := by
    rw [notLongL hlen]
    exact Bool.false_ne_true
  have hnew : List.foldl (fun x1 x2 => x1 ++ x2) #[] (List.replicate (if its.toArray.isEmpty = true then 0 else k.toNat) its.toArray) = (List.replicate k.toNat its).flatten.toArray := by
    have f0 : ∀ m : Nat, List.foldl (fun x1 x2 => x1 ++ x2) #[] (List.replicate m its.toArray) = (List.replicate m its).flatten.toArray := fun m => by
      have := foldl_rep its m []
      rw [List.nil_append] at this
      exact this
    rw [f0]
    cases its with
    | nil => simp
    | cons a r' => rw [if_neg (by simp)]
  refine wpAny_binaryOp_repeat_ref (T := "list") (U := "int") (by decide) ⟨_, e, rfl⟩ (fun s' => typeIs_int s' k t) noFill_list_mul F.fills_int_mul F.slot_int_rmul repeat_list F.slot_int_index.lookup
    (call_meets F.slot_int_rmul (typeIs_int s k t) F.entry_int_rmul (F.args_int_rmul_2 _ _) (int___rmul___int_list k t l its.toArray n)
      ⟨e, rfl, ⟨_, e, rfl⟩, call_meets F.slot_list_mul ⟨_, e, rfl⟩ F.entry_list_mul (F.args_list_mul_2 _ _) (AutoListH.list___mul___list_int_3 l its.toArray n k t hfit hcap hlong) ⟨e, ?_⟩⟩)
  rw [hnew]
  exact ⟨.ref _, _, I.lnew (t' := s.toks) (r.rep k.toNat) (by rw [len_rep, Nat.mul_comm]; exact hz), rfl, q _ I.fresh⟩

/-! ### del xs[i] -/
theorem del_list {pins : List (Addr × Obj)} {s : Shared} {σ : St} {H : Hp} {l : Addr} {xs : List V} {i : Int} {t : Tok} {k : Nat} {Q : Unit → Shared → Prop} (I : Inv X pins σ H s) (hH : H l = some (.lst xs))
    (h1 : -(2 ^ 63) ≤ i) (h2 : i < 2 ^ 63) (hk : seqIndex? i xs.length = some k) (h : ∀ s', Inv X pins σ (upd H l (.lst (xs.eraseIdx k))) s' → Q () s') :
    wpAny (model X.prog X.w) X.A (delItem (.ref l) (.int i t)) Q X.xe s := by
  obtain ⟨z, its, n, r, hl, e⟩ := I.lstM hH
  refine PySem.P.delItem_list (k := k) e (fitsIndex_both h1 h2) (by rw [List.size_toArray, ← hl]; exact hk) (h _ ?_) (by rw [List.size_toArray]; omega)
  refine I.lset (its' := its.eraseIdx k) (t' := s.toks) hH e ?_ (r.eraseIdx k) ?_
  · show its.toArray.eraseIdxIfInBounds k = (its.eraseIdx k).toArray
    rw [List.eraseIdxIfInBounds_toArray]
  · have := len_erase xs k
    omega
end

/-! ### xs[a:b] = ys -/
section
variable {prog : Program} {w : World} {A : Around} {E : Value → Shared → Prop} {s : Shared}
theorem splice_eq (its its2 : List Value) (a c : Nat) : its.toArray.extract 0 a ++ its2.toArray ++ its.toArray.extract c its.toArray.size = (its.take a ++ its2 ++ its.drop c).toArray := by
  apply Array.toList_inj.mp
  first
    | (simp
       exact List.take_of_length_le (by simp))
    | simp [List.take_of_length_le]
    | simp
theorem bounds_run {a c n : Nat} (hac : a ≤ c) (hc : c ≤ n) : sliceBounds (some (a : Int)) (some (c : Int)) none n = ((a : Int), (c : Int), 1) := by
  simp only [sliceBounds, Option.getD_none]
  have h1 : ¬ ((a : Int) < 0) := by omega
  have h2 : ¬ ((c : Int) < 0) := by omega
  simp only [h1, h2, if_false, show (1 : Int) > 0 by decide, if_true]
  congr 1
  · omega
  · congr 1; omega
set_option maxRecDepth 100000 in
/-- list.__setitem__ with a slice of step one and another list -/
theorem setItem_slice {l b sl : Addr} {items new : Array Value} {n n2 : Nat} {vl vu : Value} {a c : Nat} {Q : Unit → Shared → Prop}
    (e : s.heap.get? l = some { cls := .type "list", data := .seq items n }) (e2 : s.heap.get? b = some { cls := .type "list", data := .seq new n2 }) (hne : l ≠ b)
    (hs : s.heap.IsSliceOf sl vl vu .none) (pl : IsPart vl (some (a : Int))) (pu : IsPart vu (some (c : Int))) (hac : a ≤ c) (hc : c ≤ items.size)
    (hsz : items.size + new.size ≤ sizeLine) (h : Q () { s with heap := s.heap.update l (Obj.mapSeq fun xs => xs.extract 0 a ++ new ++ xs.extract c xs.size) }) :
    wpAny (model prog w) A (setItem (.ref l) (.ref sl) (.ref b)) Q E s := by
  have hl : s.heap.IsList l items := PySem.IsL.isList e
  have hb : s.heap.IsList b new := PySem.IsL.isList e2
  obtain ⟨os, hos, hcs, hds⟩ := id hs
  have hTs : s.TypeIs (.ref sl) "slice" := ⟨os, hos, hcs⟩
  have hstep : ¬ ((rawPart none == rawInt 0) = true) := Bool.false_ne_true
  have hsame : Builtin.List.listSameRef (.ref l) (.ref b) = false := by
    unfold Builtin.List.listSameRef
    exact beq_eq_false_iff_ne.mpr hne
  have hmax : (max (a : Int) (c : Int)).toNat = c := by omega
  have hz' : ((fun xs : Array Value => xs.extract 0 a ++ new ++ xs.extract c xs.size) items).size ≤ sizeLine + 1 := by
    simp only [Array.size_append, Array.size_extract]
    omega
  unfold setItem
  try with_reducible refine wpAny_holding ?_
  first | refine wpAny_bind (wpAny_pure ?_) | skip
  refine wpAny_bind (wpAny_sequenceKey hl.typeIs (by decide) ?_)
  refine wpAny_bind (wpAny_callSpecial?_slot (name := Str.ofString "__setitem__") hl.typeIs slot_list_setitem
    (wpAny_call_entry slot_list_setitem hl.typeIs entry_list_setitem ?_ (args_list_setitem _ _ _)))
  show wpAny _ _ (Builtin.List.listSubscript? (.ref sl) >>= _) _ _ s
  refine wpAny_bind ?_
  unfold Builtin.List.listSubscript?
  refine wpAny_bind (wpAny_specialOf hTs slice_no_index ?_)
  simp only [Option.isNone_none, if_true]
  refine wpAny_pure ?_
  show wpAny _ _ (typeOf (.ref sl) >>= _) _ _ s
  refine wpAny_bind (wpAny_typeOf hTs ?_)
  first
    | rw [if_neg (by decide)]
    | refine PySem.W.KFB.if_not (by decide) ?_
  rw [listSliceParts_eq]
  refine wpAny_bind (wpAny_bind (wpAny_field hos hds (x := .none) rfl (wpAny_bind (wpAny_listPart .none ?_))))
  rw [if_neg hstep]
  refine wpAny_bind (wpAny_field hos hds (x := vl) rfl (wpAny_bind (wpAny_listPart pl ?_)))
  refine wpAny_bind (wpAny_field hos hds (x := vu) rfl (wpAny_bind (wpAny_listPart pu (wpAny_pure ?_))))
  first
    | simp only [hsame, Bool.false_eq_true, if_false]
    | refine PySem.W.KFB.if_not hsame ?_
    | (dsimp only
       rw [if_neg (by rw [hsame]; exact Bool.false_ne_true)])
  refine wpAny_bind (m := Builtin.List.listAllItems (.ref b) "must assign iterable to extended slice") ?_
  unfold Builtin.List.listAllItems
  refine wpAny_bind (wpAny_typeOf hb.typeIs ?_)
  first
    | refine PySem.W.KFB.if_so (by decide) ?_
    | rw [if_pos (by decide)]
    | simp only [beq_self_eq_true, Bool.true_or, if_true]
  unfold Builtin.List.listItems
  refine wpAny_bind (wpAny_seqItems e2 rfl (wpAny_pure ?_))
  refine wpAny_bind (wpAny_bind (wpAny_seqItems e rfl (wpAny_pure ?_)))
  refine wpAny_bind (wpAny_of_eq ((sliceIndices_raw (some (a : Int)) (some (c : Int)) none items.size (by simp)).trans (congrArg (pure : Int × Int × Int → Sem (Int × Int × Int)) (bounds_run hac hc))) ?_)
  show wpAny _ _ (if ((1 : Int) == 1) = true then _ else _) _ _ s
  rw [if_pos (by decide)]
  refine wpAny_bind (wpAny_rule ?_)
  first
    | simp only [notLongL hsz, Bool.false_eq_true, if_false]
    | refine PySem.W.KFB.if_not (notLongL hsz) ?_
  first | refine wpAny_bind (wpAny_pure ?_) | skip
  show wpAny _ _ (updateSeq l (fun xs => xs.extract 0 ((a : Int)).toNat ++ new ++ xs.extract (max (a : Int) (c : Int)).toNat xs.size) >>= _) _ _ s
  rw [hmax, Int.toNat_natCast]
  refine wpAny_bind (wpAny_updateSeq (hz := Nat.le_trans (Nat.le_add_right _ _) hsz) (_hz' := hz') e rfl ?_)
  refine wpAny_bind (wpAny_letGo ?_)
  first
    | exact wpAny_bind (wpAny_pure (wpAny_pure ⟨.none, rfl, wpAny_pure h⟩))
    | exact wpAny_pure ⟨.none, rfl, wpAny_pure h⟩
end

section
variable {X : Cx}
/-- xs[a:c] = ys of another list, at the value level: sl is the slice object that was just made -/
theorem set_slice {pins : List (Addr × Obj)} {s : Shared} {σ : St} {H : Hp} {l b sl : Addr} {xs ys : List V} {a c : Int} {vl vu : Value} {Q : Unit → Shared → Prop} (I : Inv X pins σ H s)
    (hH : H l = some (.lst xs)) (hB : H b = some (.lst ys)) (hne : l ≠ b) (hs : s.heap.IsSliceOf sl vl vu .none) (ra : RelV (.int a) vl) (rc : RelV (.int c) vu) (h0 : 0 ≤ a) (hac : a ≤ c) (hc : c ≤ xs.length)
    (hz : xs.length + ys.length ≤ sizeLine) (h : ∀ s', Inv X pins σ (upd H l (.lst (xs.take a.toNat ++ ys ++ xs.drop c.toNat))) s' → Q () s') :
    wpAny (model X.prog X.w) X.A (setItem (.ref l) (.ref sl) (.ref b)) Q X.xe s := by
  obtain ⟨ta, rfl⟩ := ra
  obtain ⟨tc, rfl⟩ := rc
  obtain ⟨z, its, n, r, hl, e⟩ := I.lstM hH
  obtain ⟨z2, its2, n2, r2, hl2, e2⟩ := I.lstM hB
  obtain ⟨a', rfl⟩ := Int.eq_ofNat_of_zero_le h0
  obtain ⟨c', rfl⟩ := Int.eq_ofNat_of_zero_le (Int.le_trans h0 hac)
  simp only [Int.toNat_natCast] at h
  refine setItem_slice (a := a') (c := c') e e2 hne hs (.int _ _) (.int _ _) (by omega) (by rw [List.size_toArray]; omega) (by rw [List.size_toArray, List.size_toArray]; omega) (h _ ?_)
  refine I.lset (its' := its.take a' ++ its2 ++ its.drop c') (t' := s.toks) hH e ?_ (Vals.append (Vals.append (r.take _) r2) (r.drop _)) ?_
  · exact splice_eq its its2 a' c'
  · rw [List.length_append, List.length_append, List.length_take, List.length_drop]
    omega
end
end L2

namespace Att
open PySem PySem.W PySem.Calls PyProof.Rows

/-! ### the script -/
theorem ints_of_wellAll {P : Params} {h : Heap} : ∀ (ns : List Int) (vs : List Value), WellAll P h vs (ns.map WData.int) → IntsAre vs ns := by
  intro ns
  induction ns with
  | nil =>
    intro vs w
    rw [List.map_nil] at w
    cases w
    exact .nil
  | cons n ns ih =>
    intro vs w
    rw [List.map_cons] at w
    cases w with
    | cons a b =>
      cases a
      exact .cons _ _ (ih _ b)

theorem script_of {l : OpenLaw} {n : Nat} (hn : l.most = some n) {P : Params} {h : Heap} {args : List WData} {vals : List Value}
    (hpre : l.row.toRowW.claim.pre args = true) (hwl : WellAll P h vals args) :
    ∃ a vs ns, vals = [Value.ref a] ∧ args = [WData.list (ns.map WData.int)] ∧ h.get? a = some { cls := .type "list", data := .seq vs.toArray } ∧ IntsAre vs ns ∧ ns.length ≤ n := by
  have hsh : WShape.hasAll [] args [.list .int] = true := (pre_splitW hpre).1
  have hc : l.pre.holds [] { args := args } = true := (pre_splitW hpre).2
  obtain ⟨d, r, rfl, h1, h2⟩ := hasAllW_cons hsh
  obtain rfl := hasAllW_nil h2
  obtain ⟨xs, rfl, h3⟩ := hasW_list h1
  obtain ⟨ns, rfl⟩ := items_int h3
  have hlen : ns.length ≤ n := by
    unfold OpenLaw.pre at hc
    have h4 : (WTm.not (.lt (.lit (.int (n : Int))) (.len (.arg 0)))).holds [] { args := [.list (ns.map .int)] } = true := by
      have h4 := (holds_andW hc).1
      rw [hn] at h4
      exact h4
    have h5 := condW_of h4 (w_not (w_lt w_lit (w_len_list (w_arg rfl))))
    rw [List.length_map] at h5
    refine Nat.le_of_not_lt fun q => ?_
    have q' : (n : Int) < ((ns.length : Nat) : Int) := by omega
    first
      | (rw [decide_eq_true q'] at h5; exact absurd h5 (by decide))
      | (simp at h5; omega)
  cases hwl with
  | cons w1 w2 =>
    cases w2
    cases w1 with
    | list ho hall => exact ⟨_, _, ns, rfl, rfl, ho, ints_of_wellAll ns _ hall, hlen⟩

theorem post_true (l : OpenLaw) (args : List WData) : l.row.toRowW.claim.post args (.bool true) args = true :=
  postW_of (r := l.row.toRowW) (X := (true == true))
    (show WShape.has [] (.bool true) .bool = true by first | rfl | decide | simp [WShape.has, WShape.arms, WShape.armsAll])
    (show (WTm.eq .res (.lit (.bool true))).value [] { args := args, res := some (.bool true), after := args } = some (.bool (true == true)) from w_eq_bool (w_res rfl) w_lit) rfl

/-! ### the attachment: holds_open's last premise (the goal 'hc' behind k_head) from a wpAny of the law's body -/
theorem attach {l : OpenLaw} {n : Nat} {q : Program} {loose : List Str} {XP : (Str → Option Value) → Heap → Prop} {YP : World → Heap → Prop} {d : DefRec} {x : Str}
    (hn : l.most = some n) (hdf : d.params.defaults = [])
    (hbind : ∀ pm cd doc v : Value, bindArgs (docDef d.name d.params d.body d.scope pm cd doc) ⟨[v], []⟩ = pure [(x, v)])
    (hx : d.scope.names.lookup x = some .local ∨ d.scope.names.lookup x = some .cell)
    (hk : d.scope.kind = .function) (hco : d.scope.isCoroutine = false) (hgen : d.scope.isGenerator = false)
    (body : ∀ (w : World) (s₀ s₁ s : Shared) (mg mb : Str → Option Value) (fa : Addr) (o : Obj) (pm cd doc : Value) (a : Addr) (vs : List Value) (ns : List Int),
      Ground q loose [] XP w s₀ mg mb s₁.heap → YP w s₁.heap →
      s₁.heap.get? fa = some o → o.data = .func (docDef d.name d.params d.body d.scope pm cd doc) → s₁.heap.CodeRec cd d.name → mg d.name = some (.ref fa) →
      s₁.heap.get? a = some { cls := .type "list", data := .seq vs.toArray } → IntsAre vs ns → ns.length ≤ n →
      s.gens = #[] → s.os = s₁.os →
      Fr s₁.heap s₁.heap.objs.size s.heap (bindL (envOfC d.name d.scope s₁.heap.objs.size fa cd).kindOf [(x, .ref a)] fun _ => none) →
      Cl s₁.heap.objs.size (cellsFrom (s₁.heap.objs.size + 1) d.scope.names []) s.heap (bindC (envOfC d.name d.scope s₁.heap.objs.size fa cd).kindOf [(x, .ref a)] fun _ => none) →
      wpAny (model l.prog w) (callerA.deeper (envOfC d.name d.scope s₁.heap.objs.size fa cd)) (execs d.body (envOfC d.name d.scope s₁.heap.objs.size fa cd))
        (fun f s' => f = .ret (.bool true) ∧ OldK s₁.heap s'.heap ∧ s'.os = s₁.os ∧ AllBare s'.gens) (fun _ _ => False) s) :
    WalkO q loose XP YP l.row.toRowW d [] (fun f vs => PySem.call f vs) := by
  intro w s₀ s₁ mg mb G Y fa o pm cd doc dV kV ho hd hcd hD hmg hg args vals as hpre hlay hrd hwl hlo
  obtain rfl : dV = .none := Dflts.none hD hdf
  obtain rfl : kV = .none := Dflts.noKw hD
  obtain ⟨a, vs, ns, rfl, rfl, hobj, hints, hlen⟩ := script_of hn hpre hwl
  refine enter_call ?_
  refine call_cells_ret (o := o) (by rw [depth_caller]; decide) ho (fd_plain hd) G.T.nolimit hcd (hbind pm cd doc (.ref a)) (fun y hy => ?_) (fun h₁ tk F X => ?_) hco hgen hk
  · obtain rfl : y = (x, Value.ref a) := List.mem_singleton.mp hy
    rcases hx with e | e
    · exact .inl e
    · exact .inr ⟨e, cellsFrom_some _ _ _ (.inl e)⟩
  · refine wpAny_mono (body w s₀ s₁ { s₁ with heap := h₁, toks := tk } mg mb fa o pm cd doc a vs ns G Y ho (fd_plain hd) hcd hmg hobj hints hlen hg rfl F X) (fun f s' hq => ?_) (fun _ _ hq => hq)
    obtain ⟨rfl, h2, h3, h4⟩ := hq
    exact ⟨.inl ⟨.bool true, .bool true, [], rfl, fun _ => rfl, .bool true, post_true l _, fun _ => ⟨List.Pairwise.nil, fun _ hm => (nomatch hm)⟩⟩, h2, h3, h4⟩

/-- the same from a codeAny of the CALL (for a layer whose function contracts speak of calls) -/
theorem attach_call {l : OpenLaw} {n : Nat} {q : Program} {loose : List Str} {XP : (Str → Option Value) → Heap → Prop} {YP : World → Heap → Prop} {d : DefRec}
    (hn : l.most = some n) (hdf : d.params.defaults = [])
    (call : ∀ (w : World) (s₀ s₁ : Shared) (mg mb : Str → Option Value) (fa : Addr) (o : Obj) (pm cd doc : Value) (a : Addr) (vs : List Value) (ns : List Int),
      Ground q loose [] XP w s₀ mg mb s₁.heap → YP w s₁.heap →
      s₁.heap.get? fa = some o → o.data = .func (docDef d.name d.params d.body d.scope pm cd doc) → s₁.heap.CodeRec cd d.name → mg d.name = some (.ref fa) →
      s₁.heap.get? a = some { cls := .type "list", data := .seq vs.toArray } → IntsAre vs ns → ns.length ≤ n → s₁.gens = #[] →
      codeAny (model l.prog w) callerA (.call (.ref fa) ⟨[.ref a], []⟩) (fun r s' => r = .ok (.ret (.bool true)) ∧ OldK s₁.heap s'.heap ∧ s'.os = s₁.os ∧ AllBare s'.gens) s₁) :
    WalkO q loose XP YP l.row.toRowW d [] (fun f vs => PySem.call f vs) := by
  intro w s₀ s₁ mg mb G Y fa o pm cd doc dV kV ho hd hcd hD hmg hg args vals as hpre hlay hrd hwl hlo
  obtain rfl : dV = .none := Dflts.none hD hdf
  obtain rfl : kV = .none := Dflts.noKw hD
  obtain ⟨a, vs, ns, rfl, rfl, hobj, hints, hlen⟩ := script_of hn hpre hwl
  refine enter_call (codeAny_mono (call w s₀ s₁ mg mb fa o pm cd doc a vs ns G Y ho (fd_plain hd) hcd hmg hobj hints hlen hg) fun r s' hq => ?_)
  obtain ⟨rfl, h2, h3, h4⟩ := hq
  exact ⟨.inl ⟨.bool true, .bool true, [], rfl, fun _ => rfl, .bool true, post_true l _, fun _ => ⟨List.Pairwise.nil, fun _ hm => (nomatch hm)⟩⟩, h2, h3, h4⟩

/-- the same where the top left finished generators (o_head chose holds_openN): nothing may have changed at all and no generator may be left -/
theorem attachN {l : OpenLaw} {n : Nat} {q : Program} {loose : List Str} {XP : (Str → Option Value) → Heap → Prop} {YP : World → Heap → Prop} {d : DefRec} {x : Str}
    (hn : l.most = some n) (hdf : d.params.defaults = [])
    (hbind : ∀ pm cd doc v : Value, bindArgs (docDef d.name d.params d.body d.scope pm cd doc) ⟨[v], []⟩ = pure [(x, v)])
    (hx : d.scope.names.lookup x = some .local ∨ d.scope.names.lookup x = some .cell)
    (hk : d.scope.kind = .function) (hco : d.scope.isCoroutine = false) (hgen : d.scope.isGenerator = false)
    (body : ∀ (w : World) (s₀ s₁ s : Shared) (mg mb : Str → Option Value) (fa : Addr) (o : Obj) (pm cd doc : Value) (a : Addr) (vs : List Value) (ns : List Int),
      Ground q loose [] XP w s₀ mg mb s₁.heap → YP w s₁.heap →
      s₁.heap.get? fa = some o → o.data = .func (docDef d.name d.params d.body d.scope pm cd doc) → s₁.heap.CodeRec cd d.name → mg d.name = some (.ref fa) →
      s₁.heap.get? a = some { cls := .type "list", data := .seq vs.toArray } → IntsAre vs ns → ns.length ≤ n →
      s.gens = #[] → s.os = s₁.os →
      Fr s₁.heap s₁.heap.objs.size s.heap (bindL (envOfC d.name d.scope s₁.heap.objs.size fa cd).kindOf [(x, .ref a)] fun _ => none) →
      Cl s₁.heap.objs.size (cellsFrom (s₁.heap.objs.size + 1) d.scope.names []) s.heap (bindC (envOfC d.name d.scope s₁.heap.objs.size fa cd).kindOf [(x, .ref a)] fun _ => none) →
      wpAny (model l.prog w) (callerA.deeper (envOfC d.name d.scope s₁.heap.objs.size fa cd)) (execs d.body (envOfC d.name d.scope s₁.heap.objs.size fa cd))
        (fun f s' => f = .ret (.bool true) ∧ (∀ b o, s₁.heap.get? b = some o → s'.heap.get? b = some o) ∧ s'.os = s₁.os ∧ s'.gens = #[]) (fun _ _ => False) s) :
    WalkN q loose XP YP l.row.toRowW d [] (fun f vs => PySem.call f vs) := by
  intro w s₀ s₁ mg mb G Y fa o pm cd doc dV kV ho hd hcd hD hmg hg args vals as hpre hlay hrd hwl hlo
  obtain rfl : dV = .none := Dflts.none hD hdf
  obtain rfl : kV = .none := Dflts.noKw hD
  obtain ⟨a, vs, ns, rfl, rfl, hobj, hints, hlen⟩ := script_of hn hpre hwl
  refine enter_callW ?_
  refine call_cells_ret (o := o) (by rw [depth_caller]; decide) ho (fd_plain hd) G.T.nolimit hcd (hbind pm cd doc (.ref a)) (fun y hy => ?_) (fun h₁ tk F X => ?_) hco hgen hk
  · obtain rfl : y = (x, Value.ref a) := List.mem_singleton.mp hy
    rcases hx with e | e
    · exact .inl e
    · exact .inr ⟨e, cellsFrom_some _ _ _ (.inl e)⟩
  · refine wpAny_mono (body w s₀ s₁ { s₁ with heap := h₁, toks := tk } mg mb fa o pm cd doc a vs ns G Y ho (fd_plain hd) hcd hmg hobj hints hlen hg rfl F X) (fun f s' hq => ?_) (fun _ _ hq => hq)
    obtain ⟨rfl, h2, h3, h4⟩ := hq
    exact ⟨.inl ⟨.bool true, .bool true, [], rfl, fun _ => rfl, .bool true, post_true l _, fun _ => ⟨List.Pairwise.nil, fun _ hm => (nomatch hm)⟩⟩, h2, h3, h4⟩

/-! ### rules over ANY heap (no ledger) from facts about the written part K: the library's own take a ledger (News) for what they write -/
section
variable {prog : Program} {w : World} {A : Around} {E : Value → Shared → Prop} {s : Shared} {K : Frag}

/-- a def of the module, or a method (qual 'C.m'), entered: the frame is the next address; cells behind it -/
theorem call_fn {R : Result → Shared → Prop} {name qual : Str} {params : Arguments} {body : List Stmt} {scope : Scope} {dV kV doc pm cdv ct oc : Value} {an od : Option Addr} {osl : Array (Option Value)} {f : Addr} {args : Args} {binds : List (Str × Value)}
    (X : K.In s.heap) (hlim : s.heap.NoLimit) (ho : K.lookup f = some ⟨oc, od, .func (fnOf name qual params body scope dV kV doc pm an cdv ct), osl⟩) (hcd : codeIn K cdv qual = true) (hroom : A.depth < recursionLimit)
    (hbind : BindsTo s (fnOf name qual params body scope dV kV doc pm an cdv ct) args binds)
    (hkind : (binds.all fun y => scope.names.lookup y.1 == some .local || scope.names.lookup y.1 == some .cell) = true)
    (h : ∀ s₁, InCallC s s.heap.objs.size (bindL (envOfC qual scope s.heap.objs.size f cdv).kindOf binds fun _ => none) (cellsFrom (s.heap.objs.size + 1) scope.names [])
        (bindC (envOfC qual scope s.heap.objs.size f cdv).kindOf binds fun _ => none) s₁ →
      wpAny (model prog w) (A.deeper (envOfC qual scope s.heap.objs.size f cdv)) (execs body (envOfC qual scope s.heap.objs.size f cdv))
        (fun fl s' => R (.ok (.ret (match fl with | .ret v => v | _ => .none))) s')
        (fun e s' => wpAny (model prog w) (A.deeper (envOfC qual scope s.heap.objs.size f cdv)) (leaving (envOfC qual scope s.heap.objs.size f cdv) e) (fun _ s'' => R (.error e) s'') (fun e' s'' => R (.error e') s'') s') s₁)
    (hco : scope.isCoroutine = false) (hgen : scope.isGenerator = false) (hk : scope.kind = .function) : codeAny (model prog w) A (.call (.ref f) args) R s := by
  refine codeAny_call_function hroom (X _ _ ho) rfl hco hgen rfl (codeRec_of X hcd) (hbind _ _ _ _ ?_)
  refine wpAny_newFunctionEnv_cells hk (kindsX hkind _) fun env he s₁ x => ?_
  subst he
  exact ⟨hlim.keeps x.toInCall.keep, codeAny_func (h s₁ x)⟩

/-- C(..): dict at size, instance at size + 1, then __init__ -/
theorem make_obj {R : Result → Shared → Prop} {C fI : Addr} {rest : List Value} {kw : List (Str × Value)}
    (X : K.In s.heap) (hm : makesIn K C = true) (hi : findIn K (.ref C) "__init__" = some (some (.ref fI))) (hf : isFn K (.ref fI) = true)
    (h : codeAny (model prog w) (A.under (.builtin "type.__call__" ⟨.ref C :: rest, kw⟩)) (.call (.ref fI) ⟨.ref (s.heap.objs.size + 1) :: rest, kw⟩) (InitBack (s.heap.objs.size + 1) R)
      { s with heap := (s.heap.push emptyDict).push (instObj C s.heap.objs.size) }) : codeAny (model prog w) A (.call (.ref C) ⟨rest, kw⟩) R s := by
  obtain ⟨hh, g, d, t, os⟩ := s
  exact make_core (makes_of X hm) (looks_findIn X hi) (fun self => bind_fn X self (beq_iff_eq.mp hf)) (.inl rfl) h

/-- x.name where the instance's dict holds the name and the class does not -/
theorem get_field {x C : Addr} {ox : Obj} {es : List DictEntry} {n : Nat} {name : Str} {expr : Bool} {v : Value} {Q : Value → Shared → Prop}
    (X : K.In s.heap) (I : PySem.W.InstAt s.heap x ox C (some (dictOf es n))) (hg : plainGet K C name = true) (hh : hasDictIn K C = true) (ha : findIn K (.ref C) name = some none)
    (hl : getL name es = some (some v)) (hv : handedIn v = true) (h : Q v { s with toks := s.toks + 1 }) : wpAny (model prog w) A (getAttr (.ref x) name expr) Q E s :=
  get_value X I (plainGet_of hg).1 (findObj_own hh ha rfl hl) hv h

/-- x.m(..): the method found in the class -/
theorem get_method {x C f : Addr} {ox : Obj} {es : List DictEntry} {n : Nat} {name : Str} {pl : Sem Bool} {Q : Value × List Value → Shared → Prop}
    (X : K.In s.heap) (I : PySem.W.InstAt s.heap x ox C (some (dictOf es n))) (hg : plainGet K C name = true) (hf : findIn K (.ref C) name = some (some (.ref f))) (ht : isFn K (.ref f) = true)
    (hl : getL name es = some none) (h : Q (.ref f, [.ref x]) s) : wpAny (model prog w) A (getMethod (.ref x) name pl) Q E s :=
  method_fn X I (plainGet_of hg).1 (plainGet_of hg).2 hf (beq_iff_eq.mp ht) (by show (lookIn name (dictOf es n)).map _ = _; rw [lookIn_dict, hl]; rfl) h

/-! the whole heap as the ledger: makes every rule that writes through a ledger a rule over any heap -/
def noObjs (h : Heap) : Heap := { h with objs := #[] }
theorem noObjs_get (h : Heap) (b : Addr) : (noObjs h).get? b = none := by
  cases e : (noObjs h).get? b with
  | none => rfl
  | some o => exact absurd (Heap.lt_size e) (Nat.not_lt_zero _)
def ledger (h : Heap) (L d : Addr) : List (Addr × Obj) := (List.range h.objs.size).filterMap fun a => if a = L ∨ a = d then none else (h.get? a).map fun o => (a, o)
theorem mem_ledger {h : Heap} {L d a : Addr} {o : Obj} : (a, o) ∈ ledger h L d ↔ a ≠ L ∧ a ≠ d ∧ h.get? a = some o := by
  unfold ledger
  rw [List.mem_filterMap]
  constructor
  · rintro ⟨b, _, e⟩
    split at e
    · cases e
    · rename_i hb
      obtain ⟨o', ho, e'⟩ := Option.map_eq_some_iff.mp e
      cases e'
      exact ⟨fun q => hb (.inl q), fun q => hb (.inr q), ho⟩
  · rintro ⟨n1, n2, ho⟩
    refine ⟨a, List.mem_range.mpr (Heap.lt_size ho), ?_⟩
    rw [if_neg (show ¬ (a = L ∨ a = d) from fun q => q.elim n1 n2), ho] <;> rfl
theorem news_ledger {h : Heap} {L d : Addr} {od : Obj} (hne : d ≠ L) (ho : h.get? d = some od) : News (noObjs h) L h ([] ++ (d, od) :: ledger h L d) := by
  rintro ⟨a, o⟩ hp
  rcases List.mem_cons.mp hp with e | hp
  · cases e
    exact ⟨ho, hne, noObjs_get _ _⟩
  · obtain ⟨n1, n2, e⟩ := mem_ledger.mp hp
    exact ⟨e, n1, noObjs_get _ _⟩
theorem fr_all {h : Heap} {L : Addr} {m : Str → Option Value} (n : h.Ns L m) : Fr (noObjs h) L h m :=
  ⟨n, fun b o e => (by rw [noObjs_get] at e; cases e), Nat.zero_le _⟩
/-- Upd of the head entry (for append_K, setItem_K ..) -/
theorem upd_ledger {h : Heap} {L d : Addr} {o o' : Obj} : Upd d o o' ((d, o) :: ledger h L d) ((d, o') :: ledger h L d) :=
  .head fun ⟨_, _⟩ hp => (mem_ledger.mp hp).2.1

/-- x.name = v over any heap: L is any namespace of the heap (the frame's, say): its map stays, its object is not told; all else but the dict stays -/
theorem set_field {x C dx L : Addr} {ox : Obj} {m : Str → Option Value} {es es' : List DictEntry} {n n' : Nat} {name : Str} {v : Value} {Q : Unit → Shared → Prop}
    (X : K.In s.heap) (I : PySem.W.InstAt s.heap x ox C (some (dictOf es n))) (hd : ox.dict = some dx) (hL : s.heap.Ns L m) (hne : dx ≠ L)
    (hs : findIn K (.ref C) "__setattr__" = some (some (.builtin "object.__setattr__"))) (hp : plainOver K C = true) (ht : takerIn K C name = some none) (hh : hasDictIn K C = true) (hl : (getL name es).isSome = true)
    (e : (putL name (PyData.keyHash w.params name) (.str name (s.toks + 1)) v es, putN name es n) = (es', n')) (hz : es'.length ≤ 1000)
    (h : ∀ h' : Heap, h'.Ns L m → h'.get? dx = some (dictOf es' n') → (∀ b o, b ≠ dx → b ≠ L → s.heap.get? b = some o → h'.get? b = some o) → Q () { s with heap := h', toks := s.toks + 2 }) :
    wpAny (model prog w) A (setAttr (.ref x) name v) Q E s := by
  obtain ⟨e1, e2⟩ := Prod.mk.inj e
  have hdx : s.heap.get? dx = some (dictOf es n) := by
    have := I.dict
    rw [hd] at this
    exact this
  refine set_plain X I hs (osa_dict (s := { s with toks := s.toks + 1 }) (h₀ := noObjs s.heap) (L := L) (m := m) (od := dictOf es n) (od' := dictOf es' n') (es := es') (n := n') (pre := []) (post := ledger s.heap L dx)
    (fr_all hL) (news_ledger hne hdx) X I hd hp ht hh hl (fun _ q => nomatch q) (fun ⟨_, _⟩ q => (mem_ledger.mp q).2.1) (by rw [putName_dict, e1, e2]) rfl hz fun h' F' N' => ?_)
  exact h h' F'.ns (N'.get (List.Mem.head _)) fun b o n1 n2 ho => N'.get (List.Mem.tail _ (mem_ledger.mpr ⟨n2, n1, ho⟩))
end
end Att

namespace L2
open PySem PySem.Spec PyProof.Rows

theorem vals_ints : ∀ {vs : List Value} {ns : List Int}, IntsAre vs ns → Vals (ns.map V.int) vs
  | _, _, .nil => .nil
  | _, _, .cons n t h => .cons ⟨t, rfl⟩ (vals_ints h)

/-- nothing is tracked but the script, known to the object (or it is an object of the module) -/
def Only (H : Hp) : Prop := ∀ b, H b = none ∨ ∃ o xs, H b = some (.frz o (.lst xs))

/-- THE HEAD: the law's promise, at the heap behind the top. F, the promise of the law's def, may use that base is part of the heap (so K.In base, base.Ns mainGlobals mg stand in Mod) -/
theorem law_call {P : Program} {w : World} {K : PySem.W.Frag} {mg mb : Str → Option Value} {CX : CXT} {k : Nat} {fa a : Addr} {fd : FuncData} {x : Str} {sp : Sp} {s₁ : Shared} {vs : List Value} {ns : List Int}
    (KX : K.In s₁.heap) (hns : s₁.heap.Ns mainGlobals mg) (hb : s₁.heap.Ns builtinsNs mb) (hbb : ∀ x : Str, x ≠ "__name__" → mb x = bootBuiltins x) (hlim : s₁.heap.NoLimit) (hg : s₁.gens = #[])
    (ha : s₁.heap.get? a = some { cls := .type "list", data := .seq vs.toArray }) (hi : IntsAre vs ns) (hl : ns.length ≤ sizeLine) (hr : Room k callerA)
    (F : ∀ base : Heap, K.In base → base.Ns mainGlobals mg → FnOk P w K mg base CX k fa fd [x] sp) (hbind : ∀ (s : Shared) (u : Value), BindsTo s fd ⟨[u], []⟩ [(x, u)])
    (hsp : ∀ H : Hp, Only H → SqL K H a (ns.map V.int) → sp [.ref a] H (fun v _ => v = .bl true) fun _ _ _ => False)
    (hCX : ∀ H e s', CX [] H s₁ (fun _ _ _ => False) e s' → False) :
    codeAny (model P w) callerA (.call (.ref fa) ⟨[.ref a], []⟩) (fun r s' => r = .ok (.ret (.bool true)) ∧ OldK s₁.heap s'.heap ∧ s'.os = s₁.os ∧ AllBare s'.gens) s₁ := by
  have rv := vals_ints hi
  have lenV := hi.length
  -- from an abstract heap in which nothing but the script may be tracked
  have core : ∀ H : Hp, Only H → SqL K H a (ns.map V.int) → HOk P w H s₁.heap → (∀ b, H b ≠ none → b = a) → (H a ≠ none → K.lookup a = none) →
      codeAny (model P w) callerA (.call (.ref fa) ⟨[.ref a], []⟩) (fun r s' => r = .ok (.ret (.bool true)) ∧ OldK s₁.heap s'.heap ∧ s'.os = s₁.os ∧ AllBare s'.gens) s₁ := by
    intro H hO hS hok hA hK
    have base_of : ∀ {b : Addr} {o : Obj}, s₁.heap.get? b = some o → H b = none → (hidT s₁.heap H).get? b = some o := fun e n => hidT_get e n
    have noA : ∀ {b : Addr} {o : Obj} {es : Array DictEntry} {ep : Nat}, s₁.heap.get? b = some o → o.data = .dict es ep → H b = none := fun {b o es ep} e d => by
      cases q : H b with
      | none => rfl
      | some u =>
        have e' : b = a := hA b (by rw [q]; simp)
        subst e'
        rw [ha] at e; cases e
        have d' : Data.seq vs.toArray _ = Data.dict es ep := d
        cases d'
    have nsK : ∀ {b : Addr} {m : Str → Option Value}, s₁.heap.Ns b m → (hidT s₁.heap H).Ns b m := fun {b m} ⟨o, es, ep, e, d, r⟩ => ⟨o, es, ep, base_of e (noA e d), d, r⟩
    have hKb : K.In (hidT s₁.heap H) := fun b o e => base_of (KX b o e) (by
      cases q : H b with
      | none => rfl
      | some u =>
        have e' : b = a := hA b (by rw [q]; simp)
        subst e'
        rw [hK (by rw [q]; simp)] at e; cases e)
    have hM : Mod K mg (hidT s₁.heap H) := ⟨hKb, nsK hns, ⟨mb, nsK hb, hbb⟩, let ⟨mc, h1, h2⟩ := hlim; ⟨mc, nsK h1, h2⟩⟩
    have e0 : Env0 P w K mg (hidT s₁.heap H) callerA [] s₁ H := ⟨rfl, hM, fun b o e => of_hidT e, Nat.le_of_eq (hidT_size _ _), trivial, fun b hb => absurd (show b ∈ ([] : List Addr) from hb) (by simp), hok, .of_eq hg⟩
    refine codeAny_mono ((F _ hKb (nsK hns)).run callerA [] s₁ H ⟨[.ref a], []⟩ [.ref a] [.ref a] _ _ hr e0 (hbind s₁ (.ref a)) (.cons rfl .nil) (hsp H hO hS)) fun r s' h => ?_
    cases r with
    | error e => exact (hCX H e s' h).elim
    | ok fl =>
      cases fl with
      | next => exact False.elim h
      | brk => exact False.elim h
      | cont => exact False.elim h
      | ret u =>
        obtain ⟨v, H', os, bare, un, hok', r', q⟩ := h
        have q' : v = .bl true := q
        subst q'
        obtain rfl : u = Value.bool true := r'
        refine ⟨rfl, OldK.of_keep fun b o e => ?_, os, bare⟩
        cases q : H b with
        | none => exact un.keep b o e q (by intro z; exact absurd (show b ∈ ([] : List Addr) from z) (by simp)) (by simp)
        | some u =>
          rcases hO b with z | ⟨ob, xs, z⟩
          · rw [q] at z; cases z
          · have z2 := un.frzs b ob _ z
            obtain ⟨e1, _⟩ := hok b _ z
            obtain ⟨e2, _⟩ := hok' b _ z2
            rw [e] at e1; cases e1
            exact e2
  cases hk : K.lookup a with
  | some o =>
    -- the script is one of the module's own objects
    have e := KX a o hk
    rw [ha] at e
    cases e
    refine core (fun _ => none) (fun _ => .inl rfl) (.inr ⟨_, vs.toArray, _, hk, rfl, rfl, rfl, by rw [List.size_toArray, lenV]; exact hl, by simpa using rv⟩) (fun b u z => by have z' : (none : Option HO) = some u := z; cases z') (fun b z => absurd rfl z) fun z => absurd rfl z
  | none =>
    refine core (fun b => if b = a then some (.frz { cls := .type "list", data := .seq vs.toArray } (.lst (ns.map V.int))) else none) (fun b => ?_) (.inl (.inr ⟨{ cls := .type "list", data := .seq vs.toArray }, if_pos rfl⟩)) (fun b u z => ?_) (fun b z => ?_) fun _ => hk
    · by_cases hb : b = a
      · exact .inr ⟨_, _, if_pos hb⟩
      · exact .inl (if_neg hb)
    · by_cases hb : b = a
      · have z' := (if_pos hb).symm.trans z
        cases z'
        subst hb
        exact ⟨ha, by rw [List.length_map]; exact hl, vs, _, rv, ha⟩
      · have z' := (if_neg hb).symm.trans z
        cases z'
    · by_cases hb : b = a
      · exact hb
      · exact absurd (if_neg hb) z
end L2

namespace L2
open PySem PySem.Spec PyProof.Rows

abbrev KOf {K : PySem.W.Frag} {h : Heap} (_ : K.In h) : PySem.W.Frag := K

/-- the goal that k_head leaves (case hc), from the law's promise. F gives the function object fd (K's own) once, then the promise over every base -/
theorem walk_of {l : PySem.W.OpenLaw} {n k : Nat} {q : Program} {loose : List Str} {XP : (Str → Option Value) → Heap → Prop} {YP : World → Heap → Prop} {d : DefRec} {K : Params → PySem.W.Frag} {CX : World → CXT} {sp : World → Sp} {x : Str}
    (hn : l.most = some n) (hn2 : n ≤ sizeLine) (hdf : d.params.defaults = []) (hr : Room k callerA)
    (hY : ∀ (w : World) (h : Heap), YP w h → (K w.params).In h)
    (F : ∀ (w : World) (mg : Str → Option Value) (fa : Addr) (h : Heap), (K w.params).In h → h.Ns mainGlobals mg → mg d.name = some (.ref fa) →
      ∃ fd : FuncData, (∀ (s : Shared) (u : Value), BindsTo s fd ⟨[u], []⟩ [(x, u)]) ∧
        ∀ base : Heap, (K w.params).In base → base.Ns mainGlobals mg → FnOk l.prog w (K w.params) mg base (CX w) k fa fd [x] (sp w))
    (hsp : ∀ (w : World) (H : Hp) (a : Addr) (ns : List Int), ns.length ≤ n → Only H → SqL (K w.params) H a (ns.map V.int) → sp w [.ref a] H (fun v _ => v = .bl true) fun _ _ _ => False)
    (hCX : ∀ (w : World) (H : Hp) (s : Shared) (e : Value) (s' : Shared), CX w [] H s (fun _ _ _ => False) e s' → False) :
    PySem.W.WalkO q loose XP YP l.row.toRowW d [] (fun f vs => PySem.call f vs) := by
  refine Att.attach_call hn hdf fun w s₀ s₁ mg mb fa o pm cd doc a vs ns G Y ho hd hcd hmg hobj hints hlen hg => ?_
  have KX := hY w _ Y
  obtain ⟨fd, hb, hF⟩ := F w mg fa _ KX G.T.g hmg
  exact law_call KX G.T.g G.T.b G.T.builtins G.T.nolimit hg hobj hints (Nat.le_trans hlen hn2) hr hF hb (fun H hO hS => hsp w H a ns hlen hO hS) fun H e s' => hCX w H s₁ e s'
/-- the same where the promise hangs on the written part alone: (sp := My.sp_law), no hole under a binder -/
theorem walk_ofK {l : PySem.W.OpenLaw} {n k : Nat} {q : Program} {loose : List Str} {XP : (Str → Option Value) → Heap → Prop} {YP : World → Heap → Prop} {d : DefRec} {K : Params → PySem.W.Frag} {CX : CXT} {sp : PySem.W.Frag → Sp} {x : Str}
    (hn : l.most = some n) (hn2 : n ≤ sizeLine) (hdf : d.params.defaults = []) (hr : Room k callerA)
    (hY : ∀ (w : World) (h : Heap), YP w h → (K w.params).In h)
    (F : ∀ (w : World) (mg : Str → Option Value) (fa : Addr) (h : Heap), (K w.params).In h → h.Ns mainGlobals mg → mg d.name = some (.ref fa) →
      ∃ fd : FuncData, (∀ (s : Shared) (u : Value), BindsTo s fd ⟨[u], []⟩ [(x, u)]) ∧
        ∀ base : Heap, (K w.params).In base → base.Ns mainGlobals mg → FnOk l.prog w (K w.params) mg base CX k fa fd [x] (sp (K w.params)))
    (hsp : ∀ (K : PySem.W.Frag) (H : Hp) (a : Addr) (ns : List Int), ns.length ≤ n → Only H → SqL K H a (ns.map V.int) → sp K [.ref a] H (fun v _ => v = .bl true) fun _ _ _ => False)
    (hCX : ∀ (H : Hp) (s : Shared) (e : Value) (s' : Shared), CX [] H s (fun _ _ _ => False) e s' → False) :
    PySem.W.WalkO q loose XP YP l.row.toRowW d [] (fun f vs => PySem.call f vs) :=
  walk_of (K := K) (CX := fun _ => CX) (sp := fun w => sp (K w.params)) hn hn2 hdf hr hY F (fun w H a ns h1 h2 h3 => hsp (K w.params) H a ns h1 h2 h3) fun _ H s e s' => hCX H s e s'
end L2

/- THE LAST THEOREM (shape; LID, My.* are yours):
   My.Adr: a structure of the addresses that your layer names (classes, functions); My.Txt K t: a structure (Prop) of the equations over K;
   My.txt_mk : {K} {implicit addresses ..} (e1 : nsIn K mainGlobals "law" = some (some (.ref f))) (e2 : K.lookup f = some ⟨oc, od, .func (fnOf "law" "law" params body scope dV kV doc pm an cdv ct), sl⟩) (e3 : codeIn K cdv "law" = true) .. : ∃ t, My.Txt K t

set_option maxRecDepth 100000 in
set_option maxHeartbeats 0 in
theorem PySem.Challenge.cw_LID_holds : PySem.Challenge.rw_LID.Holds := by
  w_on; o_law; k_head; (case hw => w_witness2)
  k_fill
  refine L2.walk_of (l := PySem.Challenge.rw_LID) (n := 63) (k := 40) (x := "script") (CX := fun w => ..) (sp := fun _ => My.sp_law) rfl (by decide) rfl ⟨rfl, by decide, by decide⟩ (fun w h Y => PySem.W.kIn_of Y) ?F ?S ?C
  case F =>
    intro w mg fa h KX G hmg
    have T : ∃ t, My.Txt (L2.KOf KX) t := by
      dsimp only [L2.KOf]                          -- K must stand as «<heap const> w.params» for k_is
      refine' My.txt_mk ?e1 ?e2 ?e3 ..
      (case e1 => PySem.W.k_is)                    -- in the order: a name -> its address -> its object -> its parts
      (case e2 => PySem.W.k_is)
      ..
    obtain ⟨t, T⟩ := T
    have e0 := hmg.symm.trans (PySem.W.mg_of KX G T.law)
    cases e0                                       -- fa is the law's own address
    exact ⟨_, fun s u => .of_eq rfl, fun base kb nb => My.law_fn T kb nb⟩     -- if «.of_eq rfl» comes too early: refine' ⟨_, ?b, fun base kb nb => My.law_fn T kb nb⟩; exact fun s u => .of_eq rfl
  case S => exact fun w H a ns hl hO hS => ..
  case C => exact ..
(the tactic k_is has no namespace: write k_is) -/

/-! SHORT WORDS over the layer: a def of the text, its body, what a loop and a test want. -/
namespace L2
open PySem PySem.Spec PyProof.Rows

/-! ### the text by places -/
/-- the j-th statement of a class's body -/
def inClass (s : Stmt) (j : Nat) : Stmt := match s with
  | .ClassDef _ _ _ body _ _ _ _ _ _ _ => body.getD j (.Pass ⟨0, 0, 0, 0⟩)
  | _ => .Pass ⟨0, 0, 0, 0⟩
def defArgs (s : Stmt) : Arguments := match s with
  | .FunctionDef _ a _ _ _ _ _ _ _ _ => a
  | _ => { posonlyargs := [], args := [], vararg := none, kwonlyargs := [], kw_defaults := [], kwarg := none, defaults := [] }
def defBody (s : Stmt) : List Stmt := match s with
  | .FunctionDef _ _ b _ _ _ _ _ _ _ => b
  | _ => []
def defScope (s : Stmt) : Scope := match s with
  | .FunctionDef _ _ _ _ _ _ sc _ _ _ => sc
  | _ => { kind := .function, names := [], isGenerator := false, isCoroutine := false }

/-! ### no exception leaves a def -/
abbrev CX0 : CXT := fun _ _ _ _ _ _ => False
abbrev E0 : XK := fun _ _ _ => False
theorem pass0 {X : Cx} : Passes CX0 X E0 := fun _ _ _ _ _ _ _ h => h.elim

/-! ### a def (or method) of the text as it stands behind the top -/
structure Fun (K : PySem.W.Frag) (x qual : Str) (st : Stmt) (f : Addr) (fd : FuncData) : Prop where
  ex : ∃ (oc : Value) (od : Option Addr) (kV doc pm : Value) (an : Option Addr) (cdv ct : Value) (osl : Array (Option Value)),
    fd = PySem.W.fnOf x qual (defArgs st) (defBody st) (defScope st) .none kV doc pm an cdv ct ∧ K.lookup f = some ⟨oc, od, .func fd, osl⟩ ∧ PySem.W.codeIn K cdv qual = true
  kp : PySem.W.keepIn K (.ref f) = true
section
variable {P : Program} {w : World} {K : PySem.W.Frag} {mg : Str → Option Value} {base : Heap}
/-- THE RULE for a def: its body as a term of rules, and the reading of that term -/
theorem Fun.ok {x qual : Str} {st : Stmt} {f : Addr} {fd : FuncData} {N ps : List Str} {k : Nat} {sp : Sp} (F : Fun K x qual st f fd) (S : FnScope N ps (defScope st)) (len : ∀ vs H Q E, sp vs H Q E → vs.length = ps.length)
    (hbody : ∀ (cdv : Value) (A : Around) (outer : List Env) (s : Shared) (H : Hp) (vs : List V) (Q : VK) (E : XK), Room k (A.deeper (envOfC qual (defScope st) s.heap.objs.size f cdv)) → sp vs H Q E →
      ∃ t, PSs (cxOf CX0 P w K mg base N qual (defScope st) f cdv A outer s H E).nox (defBody st) t ∧ t { nx := fun _ H' => Q .non H', rt := Q } (start N vs) H) : FnOk P w K mg base CX0 (k + 1) f fd ps sp := by
  obtain ⟨oc, od, kV, doc, pm, an, cdv, ct, osl, rfl, lk, hcd⟩ := F.ex
  refine fn_of lk hcd S len fun A outer s H vs Q E hr hsp => ?_
  obtain ⟨t, h, q⟩ := hbody cdv A outer s H vs Q E hr hsp
  exact ⟨t, h.nox, q⟩
/-- how its arguments bind (no defaults): h is «fun _ _ _ _ _ _ us hl => match us, hl with | [_, _], _ => rfl», one _ a parameter -/
theorem Fun.binds {x qual : Str} {st : Stmt} {f : Addr} {fd : FuncData} {ps : List Str} (F : Fun K x qual st f fd)
    (h : ∀ (kV doc pm : Value) (an : Option Addr) (cdv ct : Value) (us : List Value), us.length = ps.length → bindArgs (PySem.W.fnOf x qual (defArgs st) (defBody st) (defScope st) .none kV doc pm an cdv ct) ⟨us, []⟩ = pure (ps.zip us)) : Binds K fd ps [] := by
  obtain ⟨oc, od, kV, doc, pm, an, cdv, ct, osl, rfl, lk, hcd⟩ := F.ex
  exact .all (h kV doc pm an cdv ct)
theorem fun_mk {x qual : Str} {st : Stmt} {f : Addr} {oc : Value} {od an : Option Addr} {osl : Array (Option Value)} {kV doc pm cdv ct : Value} (l : K.lookup f = some ⟨oc, od, .func (PySem.W.fnOf x qual (defArgs st) (defBody st) (defScope st) .none kV doc pm an cdv ct), osl⟩)
    (c : PySem.W.codeIn K cdv qual = true) (k : PySem.W.keepIn K (.ref f) = true) : Fun K x qual st f (PySem.W.fnOf x qual (defArgs st) (defBody st) (defScope st) .none kV doc pm an cdv ct) := ⟨⟨oc, od, kV, doc, pm, an, cdv, ct, osl, rfl, l, c⟩, k⟩
end
theorem hu_of {A : Around} {k : Nat} (hr : Room k A) : A.units + 1 < cLine := Nat.lt_of_le_of_lt (Nat.add_le_add_left (by decide : 1 ≤ 64) _) hr.units
theorem small1000 {n : Nat} (h : n ≤ 1000) : n < sizeLine := Nat.lt_of_le_of_lt h (by decide)

/-! ### expressions in short: the name that stands in the i-th slot -/
section
variable {X : Cx}
theorem pv (i : Nat) {x : Str} {pos : Pos} (hN : X.N[i]? = some x := by rfl) (hv : Vis X.env.scope x := by first | exact Or.inl rfl | exact Or.inr (Or.inl rfl) | exact Or.inr (Or.inr rfl)) (hd : (x == ("__debug__" : Str)) = false := by decide)
    (hcd : (x == ("__classdict__" : Str)) = false := by decide) : PE X (.Name x pos) (tVar i) := pe_var hN hv hd hcd
end

/-! ### tests -/
theorem iteF {A B : Prop} (h : B) : if false = true then A else B := by
  rw [if_neg Bool.false_ne_true]
  exact h
theorem iteT {A B : Prop} (h : A) : if true = true then A else B := by
  rw [if_pos rfl]
  exact h
theorem ite2 {c A B : Prop} [Decidable c] (h1 : c → A) (h2 : ¬ c → B) : if c then A else B := by
  by_cases h : c
  · rw [if_pos h]
    exact h1 h
  · rw [if_neg h]
    exact h2 h
theorem iteNS {c A B : Prop} [Decidable c] (hc : c) (h : B) : if (!decide c) = true then A else B := by
  rw [decide_eq_true hc]
  exact iteF h

/-! ### heaps -/
/-- all that was tracked is as it was -/
def Same (H H' : Hp) : Prop := ∀ b o, H b = some o → H' b = some o
theorem Same.refl (H : Hp) : Same H H := fun _ _ h => h
theorem Same.trans {H H1 H2 : Hp} (a : Same H H1) (b : Same H1 H2) : Same H H2 := fun c o h => b c o (a c o h)
theorem Same.free {H H' : Hp} (e : Same H H') {l : Addr} (h : H' l = Option.none) : H l = Option.none := by
  cases q : H l with
  | none => rfl
  | some o =>
    rw [e l o q] at h
    cases h
theorem Same.seq {K : PySem.W.Frag} {H H' : Hp} {a : Addr} {xs : List V} (e : Same H H') (h : SqL K H a xs) : SqL K H' a xs := by
  rcases h with (h | ⟨o, h⟩) | h
  · exact .inl (.inl (e _ _ h))
  · exact .inl (.inr ⟨o, e _ _ h⟩)
  · exact .inr h

end L2

set_option maxHeartbeats 4000000
namespace L2
open PySem PySem.Spec PyProof.Rows

/-! ### a comprehension's closure -/
def closL (env : Env) (l : List (Str × NameKind)) (cs : List (Str × Addr)) : List (Str × Addr) :=
  l.foldl (fun c y => if y.2 == .free then (y.1, (env.cells.lookup y.1).getD 0) :: c else c) cs

theorem forIn_yields {α β : Type} {l : List α} {f : α → β → Sem (ForInStep β)} {g : β → α → β} : ∀ (c : β), (∀ x ∈ l, ∀ c, f x c = pure (.yield (g c x))) →
    forIn l c f = pure (l.foldl g c) := by
  induction l with
  | nil => intro c _; rfl
  | cons x l ih =>
    intro c h
    rw [List.forIn_cons, h x List.mem_cons_self, pure_bind]
    exact ih _ fun y hy => h y (List.mem_cons_of_mem _ hy)

theorem closureFor_of {scope : Scope} {env : Env} (h : ∀ y ∈ scope.names, y.2 = .free → ∃ c, env.cells.lookup y.1 = some c) : closureFor scope env = pure (closL env scope.names []) := by
  unfold closureFor closL
  dsimp only
  rw [forIn_yields (g := fun c y => if y.2 == .free then (y.1, (env.cells.lookup y.1).getD 0) :: c else c) [] ?_]
  · rfl
  · intro y hy c
    obtain ⟨n, k⟩ := y
    by_cases hk : k = .free
    · subst hk
      obtain ⟨a, ha⟩ := h _ hy rfl
      have ha' : env.cells.lookup n = some a := ha
      simp [cellOf, ha']
    · have e : (k == NameKind.free) = false := by simpa using hk
      simp [e]

theorem closL_sound {env : Env} : ∀ (l : List (Str × NameKind)) (cs : List (Str × Addr)), (∀ y ∈ l, y.2 = .free → ∃ c, env.cells.lookup y.1 = some c) → (∀ p ∈ cs, env.cells.lookup p.1 = some p.2) →
    ∀ p ∈ closL env l cs, env.cells.lookup p.1 = some p.2
  | [], _, _, h => h
  | (n, k) :: l, cs, hl, h => by
    refine closL_sound l _ (fun y hy => hl y (List.mem_cons_of_mem _ hy)) fun p hp => ?_
    by_cases hk : k = .free
    · subst hk
      obtain ⟨c, hc⟩ := hl _ List.mem_cons_self rfl
      have hc' : env.cells.lookup n = some c := hc
      have hp' : p ∈ (n, (env.cells.lookup n).getD 0) :: cs := hp
      rcases List.mem_cons.mp hp' with rfl | hp
      · show env.cells.lookup n = some ((env.cells.lookup n).getD 0)
        rw [hc']; rfl
      · exact h p hp
    · have hp' : p ∈ (if (k == NameKind.free) = true then (n, (env.cells.lookup n).getD 0) :: cs else cs) := hp
      rw [if_neg (by simpa using hk)] at hp'
      exact h p hp'
theorem closL_mono {env : Env} : ∀ (l : List (Str × NameKind)) (cs : List (Str × Addr)) (p : Str × Addr), p ∈ cs → p ∈ closL env l cs
  | [], _, _, h => h
  | (n, k) :: l, cs, p, h => by
    refine closL_mono l _ p ?_
    show p ∈ (if (k == .free) = true then (n, (env.cells.lookup n).getD 0) :: cs else cs)
    split
    · exact List.mem_cons_of_mem _ h
    · exact h
theorem closL_there {env : Env} : ∀ (l : List (Str × NameKind)) (cs : List (Str × Addr)) (n : Str), (n, NameKind.free) ∈ l → ∃ c, (n, c) ∈ closL env l cs
  | [], _, _, h => nomatch h
  | (m, k) :: l, cs, n, h => by
    rcases List.mem_cons.mp h with e | h
    · have e1 : n = m := congrArg Prod.fst e
      have e2 : NameKind.free = k := congrArg Prod.snd e
      subst e1 e2
      exact ⟨(env.cells.lookup n).getD 0, closL_mono l _ _ List.mem_cons_self⟩
    · exact closL_there l _ n h
theorem lookup_of_mem {β : Type} : ∀ {l : List (Str × β)} {n : Str}, (∃ c, (n, c) ∈ l) → ∃ c, l.lookup n = some c
  | [], _, h => let ⟨_, z⟩ := h; nomatch z
  | (m, b) :: l, n, h => by
    by_cases e : n = m
    · subst e
      exact ⟨b, by simp [List.lookup_cons]⟩
    · obtain ⟨c, hc⟩ := h
      rcases List.mem_cons.mp hc with z | z
      · cases z; exact absurd rfl e
      · obtain ⟨c', h'⟩ := lookup_of_mem ⟨c, z⟩
        refine ⟨c', ?_⟩
        have e' : (n == m) = false := by simpa using e
        simp [List.lookup_cons, e', h']

/-- the names of a comprehension's block, as the block sees them -/
def relS (scope osc : Scope) : List (Str × NameKind) := scope.names.map fun (n, k) => if (k == .free && osc.kind == .function && osc.names.lookup n == some .cell) then (n, .cell) else (n, k)
theorem relS_eq (scope : Scope) (env : Env) : (relabel scope env).names = relS scope env.scope := rfl

/-- what is asked of the scopes, once, by computation: osc the def's, N its names; sc the block's, idx the places (in N) of the names that it captures -/
def compB (osc : Scope) (N : List Str) (sc : Scope) (idx : List Nat) : Bool :=
  decide (sc.kind = .function) && sc.names.all (fun y => decide (y.2 ≠ .cell)) && sc.names.all (fun y => decide (y.2 ≠ .local) || decide (sc.names.lookup y.1 = some .local)) &&
  sc.names.all (fun y => decide (y.2 ≠ .free) || decide (osc.names.lookup y.1 = some .cell) || decide (osc.names.lookup y.1 = some .free)) &&
  idx.all (fun i => match N[i]? with
    | some y => (decide (osc.names.lookup y = some .cell) || decide (osc.names.lookup y = some .free)) && (decide ((relS sc osc).lookup y = some .cell) || decide ((relS sc osc).lookup y = some .free))
    | none => false)

/-- the captured slots -/
def caps (σ : St) (idx : List Nat) : St := idx.map fun i => (σ[i]?).join
theorem caps_length (σ : St) (idx : List Nat) : (caps σ idx).length = idx.length := by unfold caps; rw [List.length_map]

/-- the context of a comprehension's block: T its own names (targets), then the captured ones -/
def cxComp (X : Cx) (sc : Scope) (T : List Str) (idx : List Nat) (C : Addr) (s₂ : Shared) (H1 : Hp) (fp : List Addr) : Cx where
  prog := X.prog
  w := X.w
  K := X.K
  mg := X.mg
  base := X.base
  A := X.A
  N := T ++ idx.map fun i => (X.N[i]?).getD Str.empty
  s₀ := s₂
  H₀ := H1
  env := compEnvC sc (closL X.env sc.names []) C X.env
  outer := X.stack
  stack := X.stack
  ex := fp
  fn := fun _ => false
  calm := X.calm
  pn := []
  xe := fun _ _ => False

/-- [elt for tg in iter if tc]: W is the invariant by the turn, the measure, the values so far -/
def tComp (wi : TI) (g : TG) (tc : Addr → Shared → Hp → List Addr → TT) (te : Addr → Shared → Hp → List Addr → TE) (nt : Nat) (idx : List Nat) : TE := fun σ H Q => wi σ H fun J H1 => ∃ W : Nat → Nat → List V → Hp → Prop, (∃ m, W 0 m [] H1) ∧ ∀ i m ys H2, W i m ys H2 → ys.length ≤ sizeLine ∧
  ((J.stop i H2 ∧ ∀ D, H2 D = none → Q (.ref D) (upd H2 D (.lst ys))) ∨
   (J.go i H2 ∧ ys.length < sizeLine ∧ ∀ x H3, J.yld i H2 x H3 → ∀ τ : St, τ.length = nt → g x (τ ++ caps σ idx) H3 fun σ4 H4 => (∃ τ', σ4 = τ' ++ caps σ idx ∧ τ'.length = nt) ∧
     ∀ C s₂ fp, tc C s₂ H1 fp σ4 H4 fun b H5 => if b = true then te C s₂ H1 fp σ4 H5 fun y H6 => ∃ m', m' < m ∧ W (i + 1) m' (ys ++ [y]) H6 else ∃ m', m' < m ∧ W (i + 1) m' ys H5))

section
variable {prog : Program} {w : World} {A : Around} {R : Result → Shared → Prop} {s : Shared}
/-- the block's loop, whatever its target is; no exception leaves a turn -/
theorem compLoop_gen {elt target iter : Expr} {ifs : List Expr} {scope : Scope} {pos : Pos} {it acc : Value} {env : Env} (I : Nat → Shared → Prop)
    (turn : ∀ n s, I n s → wpAny (model prog w) A (pyNext it) (fun r s₁ => match r with
      | none => R (.ok .next) s₁
      | some v => wpAny (model prog w) A (letOwnedTupleGo target it v) (fun _ s₁' => wpAny (model prog w) A (assign target env v) (fun _ s₂ =>
          wpAny (model prog w) A (forIn ifs true fun c r => if r = true then do let ok ← isTrue c env (eval c env); pure (ForInStep.yield ok) else pure (ForInStep.yield r)) (fun ok s₃ =>
            if ok = true then wpAny (model prog w) A (eval elt env) (fun x s₄ =>
              wpAny (model prog w) A (call (.builtin "list.append") [acc, x]) (fun _ s₅ => ∃ m, m < n ∧ I m s₅) (fun _ _ => False) s₄) (fun _ _ => False) s₃
            else ∃ m, m < n ∧ I m s₃) (fun _ _ => False) s₂) (fun _ _ => False) s₁') (fun _ _ => False) s₁) (fun _ _ => False) s)
    (n : Nat) (h : I n s) : codeAny (model prog w) A (.compLoop (.ListComp elt [⟨target, iter, ifs, 0⟩] scope pos) 0 it acc env) R s := by
  refine codeAny_loop rfl I (fun n s hI => ?_) n h
  show wpAny _ A ((compTurn (.ListComp elt [⟨target, iter, ifs, 0⟩] scope pos) 0 it acc env).onRaise (fun x => do noteFrame x env; theTreesLotGoes x)) _ _ s
  refine wpAny_noted ?_
  rw [compTurn_list]
  have no : ∀ {E' : Value → Shared → Prop} (v : Value) (s' : Shared), False → E' v s' := fun _ _ z => z.elim
  refine wpAny_bind (wpAny_standAt (wpAny_bind (wpAny_mono (turn n s hI) (fun r s₁ h₁ => ?_) (no))))
  cases r with
  | none => exact wpAny_pure h₁
  | some v =>
    refine wpAny_bind (wpAny_mono h₁ (fun _ s₁' h₁' => wpAny_bind (wpAny_mono h₁' (fun _ s₂ h₂ => wpAny_bind (wpAny_mono h₂ (fun ok s₃ h₃ => ?_) no)) no)) no)
    cases ok with
    | false => exact wpAny_pure ⟨rfl, h₃⟩
    | true =>
      exact wpAny_bind (wpAny_bind (wpAny_mono h₃ (fun x s₄ h₄ => wpAny_bind (wpAny_mono h₄ (fun _ s₅ h₅ => wpAny_pure (wpAny_pure ⟨rfl, h₅⟩)) no)) no))
end

/-- the tests of a comprehension's clause: none, or one -/
def PIfs (X : Cx) (ifs : List Expr) (t : TT) : Prop :=
  ∀ (pins : List (Addr × Obj)) (s : Shared) (σ : St) (H : Hp) (Q : Bool → Hp → Prop), Inv X pins σ H s → t σ H Q →
    wpAny (model X.prog X.w) X.A (forIn ifs true fun c r => if r = true then do let ok ← isTrue c X.env (eval c X.env); pure (ForInStep.yield ok) else pure (ForInStep.yield r)) (TP X pins σ Q) X.xe s
def tNoIf : TT := fun _ H Q => Q true H
theorem pifs_nil {X : Cx} : PIfs X [] tNoIf := fun _ _ _ H _ I h => wpAny_tests_nil ⟨H, I, h⟩
theorem pifs_one {X : Cx} {c : Expr} {t : TT} (h : PT X c t) : PIfs X [c] t := fun pins s σ H Q I q => wpAny_tests_one (h pins s σ H Q I q)
end L2

namespace L2
open PySem PySem.Spec PyProof.Rows

structure CompF (osc : Scope) (N : List Str) (sc : Scope) (idx : List Nat) : Prop where
  kind : sc.kind = .function
  nocell : ∀ y ∈ sc.names, y.2 ≠ .cell
  locs : ∀ y ∈ sc.names, y.2 = .local → sc.names.lookup y.1 = some .local
  frees : ∀ y ∈ sc.names, y.2 = .free → osc.names.lookup y.1 = some .cell ∨ osc.names.lookup y.1 = some .free
  cap : ∀ i ∈ idx, ∃ y, N[i]? = some y ∧ (osc.names.lookup y = some .cell ∨ osc.names.lookup y = some .free) ∧ ((relS sc osc).lookup y = some .cell ∨ (relS sc osc).lookup y = some .free)
theorem compB_f {osc : Scope} {N : List Str} {sc : Scope} {idx : List Nat} (h : compB osc N sc idx = true) : CompF osc N sc idx := by
  unfold compB at h
  simp only [Bool.and_eq_true, List.all_eq_true, decide_eq_true_eq, Bool.or_eq_true] at h
  obtain ⟨⟨⟨⟨h1, h2⟩, h3⟩, h4⟩, h5⟩ := h
  refine ⟨h1, fun y hy => h2 y hy, fun y hy e => ?_, fun y hy e => ?_, fun i hi => ?_⟩
  · rcases h3 y hy with z | z
    · exact absurd e z
    · exact z
  · rcases h4 y hy with (z | z) | z
    · exact absurd e z
    · exact .inl z
    · exact .inr z
  · have q := h5 i hi
    cases e : N[i]? with
    | none => rw [e] at q; cases q
    | some y =>
      rw [e] at q
      simp only [Bool.and_eq_true, decide_eq_true_eq, Bool.or_eq_true] at q
      exact ⟨y, rfl, q.1, q.2⟩

/-- a name of the block that is a cell or free there is free in the block's own scope -/
theorem relS_free {sc osc : Scope} {x : Str} (hno : ∀ y ∈ sc.names, y.2 ≠ .cell) (h : (relS sc osc).lookup x = some .cell ∨ (relS sc osc).lookup x = some .free) : (x, NameKind.free) ∈ sc.names := by
  have key : ∀ k', (k' = .cell ∨ k' = .free) → (x, k') ∈ relS sc osc → (x, NameKind.free) ∈ sc.names := by
    intro k' hk' hm
    unfold relS at hm
    obtain ⟨⟨n, k⟩, hy, e⟩ := List.mem_map.mp hm
    dsimp only at e
    split at e
    · rename_i hc
      cases e
      rw [Bool.and_eq_true, Bool.and_eq_true] at hc
      have : k = .free := by simpa using hc.1.1
      subst this
      exact hy
    · cases e
      rcases hk' with rfl | rfl
      · exact absurd rfl (hno _ hy)
      · exact hy
  rcases h with h | h
  · exact key _ (.inl rfl) (PySem.mem_of_lookup h)
  · exact key _ (.inr rfl) (PySem.mem_of_lookup h)

section
variable {X : Cx} {pins : List (Addr × Obj)} {σ : St} {H1 : Hp} {s₂ : Shared} {sc : Scope} {T : List Str} {idx : List Nat} {C : Addr} {fp : List Addr}

theorem clos_has (I : Inv X pins σ H1 s₂) (F : CompF X.env.scope X.N sc idx) : ∀ y ∈ sc.names, y.2 = .free → ∃ c, X.env.cells.lookup y.1 = some c :=
  fun y hy e => I.ok.has y.1 (F.frees y hy e)
theorem clos_look (I : Inv X pins σ H1 s₂) (F : CompF X.env.scope X.N sc idx) {x : Str} {c : Addr} (e : (closL X.env sc.names []).lookup x = some c) : X.env.cells.lookup x = some c :=
  closL_sound sc.names [] (clos_has I F) (fun _ z => nomatch z) (x, c) (PySem.mem_of_lookup e)
theorem clos_of (I : Inv X pins σ H1 s₂) (F : CompF X.env.scope X.N sc idx) {x : Str} {c : Addr} (hx : (x, NameKind.free) ∈ sc.names) (e : X.env.cells.lookup x = some c) : (closL X.env sc.names []).lookup x = some c := by
  obtain ⟨c', h'⟩ := lookup_of_mem (closL_there (env := X.env) sc.names [] x hx)
  rw [h']
  rw [clos_look I F h'] at e
  exact e

theorem cxComp_ok (I : Inv X pins σ H1 s₂) (F : CompF X.env.scope X.N sc idx) (hC : s₂.heap.objs.size ≤ C) (hfp : ∀ b ∈ fp, FpOk X pins H1 b) (hlt : ∀ b ∈ fp, b < s₂.heap.objs.size) : (cxComp X sc T idx C s₂ H1 fp).Ok where
  mod := I.ok.mod
  kind := F.kind
  glob := I.ok.glob
  blt := I.ok.blt
  above := hC
  inj := fun x y c h1 h2 => I.ok.inj x y c (clos_look I F h1) (clos_look I F h2)
  has := fun x hx => by
    have hx' : (relS sc X.env.scope).lookup x = some .cell ∨ (relS sc X.env.scope).lookup x = some .free := hx
    exact lookup_of_mem (closL_there sc.names [] x (relS_free F.nocell hx'))
  cab := fun x c h _ => nomatch h
  hd := I.ok.hd
  frames := I.ok.frames
  stk := .inl rfl
  exf := fun b hb => ⟨Nat.ne_of_lt (Nat.lt_of_lt_of_le (hlt b hb) hC), fun x c e => (hfp b hb).2.2.2.2.1 x c (clos_look I F e)⟩
  bs := I.bs
  bsz := Nat.le_trans I.ok.bsz I.sz
  noex := fun b o e hb => by
    rcases (hfp b hb).2.2.2.1 with z | z
    · exact I.ok.noex b o e z
    · exact absurd (Nat.lt_of_lt_of_le (Heap.lt_size e) (Nat.le_trans I.ok.bsz z)) (Nat.lt_irrefl _)
  exfs := fun b hb z => by
    rcases List.mem_cons.mp (I.stkSub b z) with e | e
    · exact (hfp b hb).2.1 e
    · exact (hfp b hb).2.2.1 e
  funs := I.stack
  frf := I.stkFree

/-- the block's entry: its frame at C -/
theorem cxComp_inv {s₄ : Shared} {m : Str → Option Value} (I : Inv X pins σ H1 s₂) (F : CompF X.env.scope X.N sc idx) (hC : s₂.heap.objs.size ≤ C) (hfp : ∀ b ∈ fp, FpOk X pins H1 b) (hlt : ∀ b ∈ fp, b < s₂.heap.objs.size)
    (kp : ∀ b o, s₂.heap.get? b = some o → s₄.heap.get? b = some o) (ho : s₄.os = s₂.os) (hg : s₄.gens = s₂.gens) (hn : s₄.heap.Ns C m) :
    Inv (cxComp X sc T idx C s₂ H1 fp) [] (T.map (fun _ => none) ++ caps σ idx) H1 s₄ := by
  have cellK : ∀ c v, s₂.heap.IsCell c v → s₄.heap.IsCell c v := fun c v ⟨o, h1, h2⟩ => ⟨o, kp c o h1, h2⟩
  refine ⟨cxComp_ok I F hC hfp hlt, ho, by rw [hg]; exact I.bare, Un.kept kp, ⟨m, hn, fun i x v e1 e2 e3 => ?_⟩, fun x c e => ?_, I.hok.fresh hC, fun x c e => I.freeC x c (clos_look I F e), fun p hp => absurd (show p ∈ ([] : List (Addr × Obj)) from hp) (by simp), I.hok.kept kp, ?_⟩
  · have e1' : (T ++ idx.map fun i => (X.N[i]?).getD Str.empty)[i]? = some x := e1
    by_cases hi : i < T.length
    · rw [List.getElem?_append_left (by simpa using hi), List.getElem?_map] at e2
      cases z : T[i]? with
      | none => rw [z] at e2; cases e2
      | some y => rw [z] at e2; cases e2
    · rw [List.getElem?_append_right (by simpa using hi)] at e2
      rw [List.getElem?_append_right (by omega)] at e1'
      rw [List.length_map] at e2
      unfold caps at e2
      rw [List.getElem?_map] at e1' e2
      cases z : idx[i - T.length]? with
      | none => rw [z] at e2; cases e2
      | some j =>
        rw [z] at e1' e2
        have hj : j ∈ idx := List.mem_of_getElem? z
        obtain ⟨y, hy, k1, k2⟩ := F.cap j hj
        have ex : y = x := by
          have q : (X.N[j]?).getD Str.empty = x := Option.some.inj e1'
          rw [hy] at q; exact q
        subst ex
        have ev : σ[j]? = some (some v) := by
          have q : (σ[j]?).join = some v := Option.some.inj e2
          cases w' : σ[j]? with
          | none => rw [w'] at q; cases q
          | some a => rw [w'] at q; have q' : a = some v := q; rw [q']
        obtain ⟨m0, hn0, hl0⟩ := I.loc
        have vis : Vis X.env.scope y := k1.elim (fun z => .inr (.inl z)) fun z => .inr (.inr z)
        obtain ⟨u, r, l⟩ := hl0 j y v hy ev vis
        refine ⟨u, r, ?_⟩
        rcases l with ⟨kl, _⟩ | ⟨_, c, hc, q⟩
        · have kl' : X.env.scope.names.lookup y = some .local := kl
          rcases k1 with z | z <;> rw [z] at kl' <;> cases kl'
        · exact .inr ⟨k2, c, clos_of I F (relS_free F.nocell k2) hc, cellK c _ q⟩
  · obtain ⟨v, q⟩ := I.cell x c (clos_look I F e)
    exact ⟨v, cellK c v q⟩
  · show (T.map (fun _ => (none : Option V)) ++ caps σ idx).length = (T ++ idx.map fun i => (X.N[i]?).getD Str.empty).length
    rw [List.length_append, List.length_append, List.length_map, List.length_map, caps_length]

/-- behind the block: the list at D is tracked -/
theorem cxComp_end {σ1 : St} {H' : Hp} {s' : Shared} {h' : Heap} {D : Addr} {ys : List V} {its : List Value} {n : Nat} (I : Inv X pins σ H1 s₂) (hC : s₂.heap.objs.size ≤ C) (hfp : ∀ b ∈ fp, FpOk X pins H1 b)
    (J : Inv (cxComp X sc T idx C s₂ H1 fp) [] σ1 H' s') (hs : Heap.SameBut C s'.heap h') (hD : s₂.heap.objs.size ≤ D) (hDC : D ≠ C) (eD : s'.heap.get? D = some { cls := .type "list", data := .seq its.toArray n }) (nD : H' D = none) (r : Vals ys its) (hz : ys.length ≤ sizeLine) :
    Inv X pins σ (upd H' D (.lst ys)) { s' with heap := h' } := by
  have old : ∀ b o, s₂.heap.get? b = some o → b ≠ C ∧ b ≠ D := fun b o e => ⟨Nat.ne_of_lt (Nat.lt_of_lt_of_le (Heap.lt_size e) hC), Nat.ne_of_lt (Nat.lt_of_lt_of_le (Heap.lt_size e) hD)⟩
  have oldH : ∀ b u, H1 b = some u → b ≠ D := fun b u e => Nat.ne_of_lt (Nat.lt_of_lt_of_le (I.hok.lt e) hD)
  have nC : H' C = none := J.free
  have B : Un (frs X.stack) fp H1 H' s₂.heap s'.heap := J.base
  have mv : ∀ b o, b ≠ C → s'.heap.get? b = some o → h'.get? b = some o := fun b o hb e => (hs.2 b hb).trans e
  refine I.call' (s' := { s' with heap := h' }) (ch := fp) J.os ⟨fun b o e q hb hx => ?_, fun b o e q hb hx => ?_, fun b o e q hx => ?_, fun b o e hx => ?_, fun b xs e => ?_, fun b o u e => ?_, fun b ps e => ?_⟩ ?_ J.bare fun b hb => ⟨(hfp b hb).2.2.2.1, (hfp b hb).2.1, (hfp b hb).2.2.2.2.1, (hfp b hb).2.2.2.2.2⟩
  · exact mv b o (old b o e).1 (B.keep b o e q hb hx)
  · obtain ⟨sl, z⟩ := B.slot b o e q hb hx
    exact ⟨sl, mv b _ (old b o e).1 z⟩
  · rw [upd_ne (old b o e).2]; exact B.free b o e q hx
  · obtain ⟨o', z⟩ := B.there b o e hx
    exact ⟨o', mv b o' (old b o e).1 z⟩
  · rw [upd_ne (oldH b _ e)]; exact B.tups b xs e
  · rw [upd_ne (oldH b _ e)]; exact B.frzs b o u e
  · obtain ⟨more, z⟩ := B.tbls b ps e
    exact ⟨more, by rw [upd_ne (oldH b _ e)]; exact z⟩
  · intro b u e
    by_cases hb : b = D
    · subst hb
      rw [upd_same] at e; cases e
      exact ⟨hz, its, n, r, mv b _ hDC eD⟩
    · rw [upd_ne hb] at e
      refine (J.hok b u e).stay (fun c v hc q => mv c v ?_ q) (fun c q => by rw [upd_ne (ne_of_none q nD)]; exact q) fun c xs q => by rw [upd_ne (ne_of_none q nD)]; exact q
      rcases hc with z | z
      · rw [z]; exact ne_of_none e nC
      · exact ne_of_none z nC
end
end L2

namespace L2
open PySem PySem.Spec PyProof.Rows
section
variable {X : Cx}
/-- THE RULE for [elt for tg in iter if ..], one clause; nothing raises within -/
theorem pe_comp {elt tg iter : Expr} {ifs : List Expr} {pos : Pos} {sc : Scope} {wi : TI} {g : TG} {tc : Addr → Shared → Hp → List Addr → TT} {te : Addr → Shared → Hp → List Addr → TE} (T : List Str) (idx : List Nat)
    (hi : PI X tg iter wi) (hcalm : X.calm = true) (hB : compB X.env.scope X.N sc idx = true)
    (hg : ∀ C s₂ H1 fp, PG (cxComp X sc T idx C s₂ H1 fp) tg g)
    (hc : ∀ C s₂ H1 fp, PIfs (cxComp X sc T idx C s₂ H1 fp) ifs (tc C s₂ H1 fp))
    (he : ∀ C s₂ H1 fp, PE (cxComp X sc T idx C s₂ H1 fp) elt (te C s₂ H1 fp))
    (hs : ∀ x, foldedSetIterable iter X.env x = pure x := by intro _; rfl) :
    PE X (.ListComp elt [⟨tg, iter, ifs, 0⟩] sc pos) (tComp wi g tc te T.length idx) := by
  intro pins s σ H Q I h
  rw [eval_ListComp]
  have cf := compB_f hB
  refine wpAny_comprehension_free (use := none) (cl := closL X.env sc.names []) rfl hs (closureFor_of (clos_has I cf)) cf.kind cf.locs ?_
  refine thn (hi pins s σ H _ I h) fun v s1 h1 => thn h1 fun itv s2 h2 => ?_
  obtain ⟨it, fp, tn, J, H2, e, I2, Tn, st2, f2, W, ⟨m0, w0⟩, turn⟩ := h2
  subst e
  have hlt : ∀ b ∈ fp, b < s2.heap.objs.size := fun b hb => let ⟨o, e, _⟩ := Tn.obj _ _ st2 b hb; Heap.lt_size e
  refine wpAny_newObj_type (wpAny_newFunctionEnv cf.nocell (by intro y hy; simp at hy) (fun h₁ hns₁ hsb₁ => ?_) cf.kind)
  dsimp only at hns₁ hsb₁ ⊢
  generalize hH2 : s2.heap.push { cls := .type "list", dict := none, data := .seq ([] : List Value).toArray } = HH at hns₁ hsb₁ ⊢
  have hC : HH.objs.size = s2.heap.objs.size + 1 := by rw [← hH2, Heap.size_push]
  have hDC : s2.heap.objs.size ≠ HH.objs.size := by rw [hC]; exact Nat.ne_of_lt (Nat.lt_succ_self _)
  have hCle : s2.heap.objs.size ≤ HH.objs.size := by rw [hC]; exact Nat.le_succ _
  have old : ∀ b o, s2.heap.get? b = some o → h₁.get? b = some o := fun b o e => hsb₁.extBut b o (by rw [hC]; exact Nat.ne_of_lt (Nat.lt_succ_of_lt (Heap.lt_size e))) (Heap.get?_push_of_some _ (hH2 ▸ Heap.get?_push_of_some _ e))
  have eD0 : h₁.get? s2.heap.objs.size = some { cls := .type "list", data := .seq ([] : List Value).toArray 0 } := hsb₁.extBut _ _ hDC (Heap.get?_push_of_some _ (hH2 ▸ Heap.get?_push_size _ rfl))
  have nD0 : H2 s2.heap.objs.size = none := I2.hok.fresh (Nat.le_refl _)
  have cD : ∀ x c, (closL X.env sc.names []).lookup x = some c → c ≠ s2.heap.objs.size := fun x c e => by
    obtain ⟨v, q⟩ := I2.cell x c (clos_look I2 cf e)
    exact Nat.ne_of_lt q.lt
  have loop : ∀ s4 : Shared, s4 = { s2 with heap := h₁, toks := s2.toks + ([] : List (Str × Value)).length } →
      codeAny (model X.prog X.w) X.A (.compLoop (.ListComp elt [⟨tg, iter, ifs, 0⟩] sc pos) 0 (.ref it) (.ref s2.heap.objs.size) (compEnvC sc (closL X.env sc.names []) HH.objs.size X.env))
        (compPost (model X.prog X.w) X.A X.xe none (EP X pins σ Q) (.ref s2.heap.objs.size) HH.objs.size) s4 := by
    rintro s4 rfl
    have J0 : Inv (cxComp X sc T idx HH.objs.size s2 H2 fp) [] (T.map (fun _ => none) ++ caps σ idx) H2 { s2 with heap := h₁, toks := s2.toks + ([] : List (Str × Value)).length } :=
      cxComp_inv I2 cf hCle f2 hlt old rfl rfl hns₁
    refine compLoop_gen (fun k s' => ∃ (i : Nat) (ys : List V) (its : List Value) (n : Nat) (H' : Hp) (τ : St), Inv (cxComp X sc T idx HH.objs.size s2 H2 fp) [] (τ ++ caps σ idx) H' s' ∧ τ.length = T.length ∧ tn i s'.heap ∧ (∀ b ∈ fp, H' b = none) ∧
      s'.heap.get? s2.heap.objs.size = some { cls := .type "list", data := .seq its.toArray n } ∧ H' s2.heap.objs.size = none ∧ Vals ys its ∧ W i k ys H') ?_ m0
      ⟨0, [], [], 0, H2, T.map (fun _ => none), J0, by rw [List.length_map], Tn.keep _ _ _ st2 fun b _ o e => old b o e, fun b hb => (f2 b hb).1, eD0, nD0, .nil, w0⟩
    rintro k s3 ⟨i, ys, its, n, H3, τ, I3, hτ, st3, fr3, eD3, nD3, r3, w3⟩
    obtain ⟨hz, alt⟩ := turn i k ys H3 w3
    have hDfs : s2.heap.objs.size ∉ (cxComp X sc T idx HH.objs.size s2 H2 fp).fs := fun z => by
      obtain ⟨_, o, ho, _⟩ := I2.stack.mem (show s2.heap.objs.size ∈ frs X.stack from z)
      exact absurd (Heap.lt_size ho) (Nat.lt_irrefl _)
    have pinD : ∀ {H' : Hp} {s' : Shared}, s'.heap.get? s2.heap.objs.size = some { cls := .type "list", data := .seq its.toArray n } → H' s2.heap.objs.size = none →
        ∀ p ∈ [(s2.heap.objs.size, ({ cls := .type "list", data := .seq its.toArray n } : Obj))], s'.heap.get? p.1 = some p.2 ∧ H' p.1 = none ∧ p.1 ≠ (cxComp X sc T idx HH.objs.size s2 H2 fp).env.locals ∧ p.1 ∉ (cxComp X sc T idx HH.objs.size s2 H2 fp).fs ∧ ∀ v, p.2.data ≠ .cell v :=
      fun {H' s'} e1 e2 p hp => by
        have ep : p = (s2.heap.objs.size, { cls := .type "list", data := .seq its.toArray n }) := by simpa using hp
        subst ep
        exact ⟨e1, e2, hDC, hDfs, fun v z => by cases z⟩
    have P3 : Inv (cxComp X sc T idx HH.objs.size s2 H2 fp) [(s2.heap.objs.size, { cls := .type "list", data := .seq its.toArray n })] (τ ++ caps σ idx) H3 s3 := I3.pins_of (pinD eD3 nD3)
    have stat : ∀ {H' : Hp}, (∀ b ∈ fp, H' b = none) → ∀ b ∈ fp, FpOk (cxComp X sc T idx HH.objs.size s2 H2 fp) [(s2.heap.objs.size, { cls := .type "list", data := .seq its.toArray n })] H' b := fun {H'} hn b hb => by
      have hb2 := hlt b hb
      refine ⟨hn b hb, Nat.ne_of_lt (Nat.lt_of_lt_of_le hb2 hCle), I3.ok.exfs b hb, .inl hb, fun x c e => (f2 b hb).2.2.2.2.1 x c (clos_look I2 cf e), fun p hp => ?_⟩
      have ep : p = (s2.heap.objs.size, ({ cls := .type "list", data := .seq its.toArray n } : Obj)) := by simpa [cxComp] using hp
      subst ep
      exact Nat.ne_of_gt hb2
    rcases alt with ⟨stop, q⟩ | ⟨go, hl2, step⟩
    · refine thn (Tn.done (cxComp X sc T idx HH.objs.size s2 H2 fp) rfl rfl rfl hcalm i _ s3 _ H3 (fun _ _ => False) P3 (stat fr3) st3 stop) fun r s4 ⟨hr, I4⟩ => ?_
      subst hr
      obtain ⟨m, hn, _⟩ := id I4.loc
      refine ⟨m, hn, fun h' hs' => ?_⟩
      have eD4 := (I4.pin (s2.heap.objs.size, { cls := .type "list", data := .seq its.toArray n }) (by simp)).1
      exact ⟨.ref s2.heap.objs.size, _, cxComp_end I2 hCle f2 (I4.pins_of (fun p hp => nomatch hp)) hs' (Nat.le_refl _) hDC eD4 nD3 r3 hz, rfl, q _ nD3⟩
    · refine thn (Tn.item (cxComp X sc T idx HH.objs.size s2 H2 fp) rfl rfl rfl hcalm i _ s3 _ H3 (fun _ _ => False) P3 (stat fr3) st3 go) fun r s4 ⟨u, hr, h4⟩ => ?_
      subst hr
      refine thn h4 fun _ s5 ⟨x, H5, I5, r5, y5, st5, fr5⟩ => ?_
      have I5' := I5.pinned (stat fr5) (Tn.obj _ _ st5)
      refine thn (hg HH.objs.size s2 H2 fp _ s5 _ H5 x u _ I5' r5 (step x H5 y5 τ hτ)) fun _ s6 ⟨σ6, H6, I6, ⟨τ', e6, l6⟩, q6⟩ => ?_
      subst e6
      refine thn (hc HH.objs.size s2 H2 fp _ s6 _ H6 _ I6 (q6 HH.objs.size s2 fp)) fun ok s7 ⟨H7, I7, q7⟩ => ?_
      have mD : (s2.heap.objs.size, ({ cls := .type "list", data := .seq its.toArray n } : Obj)) ∈ (cxComp X sc T idx HH.objs.size s2 H2 fp).pn ++ ([(s2.heap.objs.size, { cls := .type "list", data := .seq its.toArray n })] ++ pinsAt fp s5.heap) :=
        List.mem_append_right _ (List.mem_append_left _ (by simp))
      have mF : ∀ b ∈ fp, ∀ o, s5.heap.get? b = some o → (b, o) ∈ (cxComp X sc T idx HH.objs.size s2 H2 fp).pn ++ ([(s2.heap.objs.size, { cls := .type "list", data := .seq its.toArray n })] ++ pinsAt fp s5.heap) := fun b hb o e =>
        List.mem_append_right _ (List.mem_append_right _ (mem_pinsAt hb e))
      cases ok with
      | false =>
        rw [if_neg Bool.false_ne_true] at q7 ⊢
        obtain ⟨m', hm', w7⟩ := q7
        refine ⟨m', hm', i + 1, ys, its, n, H7, τ', I7.pins_of (fun p hp => nomatch hp), l6, Tn.keep _ _ _ st5 fun b hb o e => (I7.pin _ (mF b hb o e)).1, fun b hb => ?_, (I7.pin _ mD).1, (I7.pin _ mD).2.1, r3, w7⟩
        obtain ⟨o, e, d⟩ := Tn.obj _ _ st5 b hb
        exact (I7.pin _ (mF b hb o e)).2.1
      | true =>
        rw [if_pos rfl] at q7 ⊢
        refine thn (he HH.objs.size s2 H2 fp _ s7 _ H7 _ I7 q7) fun y s8 ⟨yv, H8, I8, r8, m', hm', w8⟩ => ?_
        have eD8 := (I8.pin _ mD).1
        have nD8 := (I8.pin _ mD).2.1
        have hl := r3.length
        have q := PySem.IsL.update eD8 (fun z => z.push y)
        rw [show its.toArray.push y = (its ++ [y]).toArray by simp] at q
        refine call_meets PySem.F.slot_list_append ⟨_, eD8, rfl⟩ PySem.F.entry_list_append (PySem.F.args_list_append_2 _ _) (PySem.list_append s2.heap.objs.size its.toArray n y (by rw [List.size_toArray]; omega)) ⟨eD8, ?_⟩
        have I9 : Inv (cxComp X sc T idx HH.objs.size s2 H2 fp) [] (τ' ++ caps σ idx) H8 s8 := I8.pins_of (fun p hp => nomatch hp)
        have up : ∀ b o, b ≠ s2.heap.objs.size → s8.heap.get? b = some o → (s8.heap.update s2.heap.objs.size (Obj.mapSeq fun z => z.push y)).get? b = some o := fun b o hb e => (Heap.get?_update_other s8.heap _ (Ne.symm hb)).trans e
        refine ⟨m', hm', i + 1, ys ++ [yv], its ++ [y], _, H8, τ', I9.turned (t' := s8.toks) up nD8 hDC (.inr (Nat.le_refl _)) cD (fun p hp => nomatch hp), l6, ?_, fun b hb => ?_, q, nD8, r3.append (.cons r8 .nil), w8⟩
        · exact Tn.keep _ _ _ st5 fun b hb o e => up b o (Nat.ne_of_lt (hlt b hb)) (I8.pin _ (mF b hb o e)).1
        · obtain ⟨o, e, d⟩ := Tn.obj _ _ st5 b hb
          exact (I8.pin _ (mF b hb o e)).2.1
  exact codeAny_compStart_list (loop _ rfl) (Tn.self X.A 0 _ _ _ (Tn.keep _ _ _ st2 fun b _ o e => old b o e) (loop _ rfl))
end
end L2

namespace L2
open PySem PySem.Spec PyProof.Rows

/-! ### texts as lists of codes -/
def mkS (x : List Nat) : Str := ⟨x.toArray⟩
theorem mkS_len (x : List Nat) : (mkS x).length = x.length := by simp [mkS, Str.length]
theorem mkS_cps (x : List Nat) : (mkS x).cps.toList = x := by simp [mkS]
theorem mkS_inj {x y : List Nat} (h : mkS x = mkS y) : x = y := by
  have := congrArg (fun s => s.cps.toList) h
  simpa [mkS] using this
theorem mkS_app (x y : List Nat) : mkS x ++ mkS y = mkS (x ++ y) := by
  show Str.append (mkS x) (mkS y) = _
  simp [Str.append, mkS]
theorem mkS_one (c : Nat) : (⟨#[c]⟩ : Str) = mkS [c] := rfl

/-- what x[lo:hi] picks -/
def cutL {α : Type} (xs : List α) (lo hi : Option Int) : List α := (xs.drop (HT.sIx xs.length 0 lo)).take (HT.sIx xs.length xs.length hi - HT.sIx xs.length 0 lo)
theorem strIdx (lo hi : Option Int) (n : Nat) : Builtin.Str.strSliceIndices lo hi 1 n = (List.range (HT.sIx n n hi - HT.sIx n 0 lo)).map (HT.sIx n 0 lo + ·) := by
  have e1 : (match lo with | none => (if (1 : Int) > 0 then (0 : Int) else (n : Int) - 1) | some i => if (1 : Int) > 0 then max 0 (min (if i < 0 then i + (n : Int) else i) (n : Int)) else max (-1) (min (if i < 0 then i + (n : Int) else i) ((n : Int) - 1))) = ((HT.sIx n 0 lo : Nat) : Int) := by
    cases lo with
    | none => simp [HT.sIx]
    | some i =>
      simp only [HT.sIx, show (1 : Int) > 0 by decide, if_true]
      by_cases h : i < 0
      · simp only [h, if_true]; omega
      · simp only [h, if_false]; omega
  have e2 : (match hi with | none => (if (1 : Int) > 0 then (n : Int) else -1) | some i => if (1 : Int) > 0 then max 0 (min (if i < 0 then i + (n : Int) else i) (n : Int)) else max (-1) (min (if i < 0 then i + (n : Int) else i) ((n : Int) - 1))) = ((HT.sIx n n hi : Nat) : Int) := by
    cases hi with
    | none => simp [HT.sIx]
    | some i =>
      simp only [HT.sIx, show (1 : Int) > 0 by decide, if_true]
      by_cases h : i < 0
      · simp only [h, if_true]; omega
      · simp only [h, if_false]; omega
  rw [← sliceRange_one]
  unfold Builtin.Str.strSliceIndices
  dsimp only
  rw [← e1, ← e2]
  cases lo <;> cases hi <;> rfl
theorem slice_cut (x : List Nat) (lo hi : Option Int) : Txt.slice (mkS x) lo hi = mkS (cutL x lo hi) := by
  unfold Txt.slice
  rw [strIdx, mkS_len]
  have hp : ((List.range (HT.sIx x.length x.length hi - HT.sIx x.length 0 lo)).map (HT.sIx x.length 0 lo + ·)).filterMap ((mkS x).cps[·]?) = cutL x lo hi := by
    have := pick_run (mkS x).cps (HT.sIx x.length 0 lo) (HT.sIx x.length x.length hi - HT.sIx x.length 0 lo)
    rw [mkS_cps] at this
    exact this
  rw [hp]
  split
  · rename_i hc
    rw [Bool.and_eq_true] at hc
    have hl : HT.sIx x.length x.length hi - HT.sIx x.length 0 lo = x.length := by simpa using hc.2
    have h2 : HT.sIx x.length x.length hi ≤ x.length := HT.sIx_le _ _ (Nat.le_refl _) _
    have h3 : HT.sIx x.length 0 lo ≤ x.length := HT.sIx_le _ _ (Nat.zero_le _) _
    have e : HT.sIx x.length 0 lo = 0 := by omega
    unfold cutL
    rw [hl, e]
    simp
  · rfl

section
variable {X : Cx}
def rSlS : V → Option Int → Option Int → Hp → VK → Prop := fun x lo hi H Q => ∃ cs, x = .str (mkS cs) ∧ cs.length ≤ sizeLine ∧ Q (.str (mkS (cutL cs lo hi))) H
theorem sl_str : SlR X rSlS := by
  intro pins s σ H x v vl vu lo hi sl Q I rx hs pl pu h
  obtain ⟨cs, rfl, hz, q⟩ := h
  obtain ⟨t, rfl⟩ := rx
  have hl : (Txt.slice (mkS cs) lo hi).length ≤ sizeLine := Nat.le_trans (Txt.slice_le _ _ _) (by rw [mkS_len]; exact hz)
  rw [← slice_cut] at q
  refine ⟨"str", _, slot_str_getitem.lookup, typeIs_str _ _ _, ?_⟩
  obtain ⟨o, ho, hc, hd⟩ := hs
  cases pl with
  | none =>
    cases pu with
    | none => exact wpAny_getItem_str_slice (l := none) (u := none) (st := none) ⟨o, ho, hc, hd⟩ rfl (post_val_or_str ⟨hl, fun t' k => ⟨.str _, H, I.tok _, ⟨_, rfl⟩, q⟩⟩)
    | int j uj => exact wpAny_getItem_str_slice (l := none) (u := some (j, uj)) (st := none) ⟨o, ho, hc, hd⟩ rfl (post_val_or_str ⟨hl, fun t' k => ⟨.str _, H, I.tok _, ⟨_, rfl⟩, q⟩⟩)
  | int i ui =>
    cases pu with
    | none => exact wpAny_getItem_str_slice (l := some (i, ui)) (u := none) (st := none) ⟨o, ho, hc, hd⟩ rfl (post_val_or_str ⟨hl, fun t' k => ⟨.str _, H, I.tok _, ⟨_, rfl⟩, q⟩⟩)
    | int j uj => exact wpAny_getItem_str_slice (l := some (i, ui)) (u := some (j, uj)) (st := none) ⟨o, ho, hc, hd⟩ rfl (post_val_or_str ⟨hl, fun t' k => ⟨.str _, H, I.tok _, ⟨_, rfl⟩, q⟩⟩)

theorem op_le_str : OpR X (compareOp .LtE) (fun x y H Q => ∃ i j, x = .str i ∧ y = .str j ∧ Q (.bl (!(j.cps.toList < i.cps.toList))) H) := by
  intro pins s σ H x y v u Q I rx ry h
  obtain ⟨i, j, rfl, rfl, q⟩ := h
  obtain ⟨t, rfl⟩ := rx
  obtain ⟨t', rfl⟩ := ry
  exact PySem.P.le_str ⟨.bl _, H, I, rfl, q⟩

/-- a text times an int -/
def repL (cs : List Nat) (k : Int) : List Nat := (List.replicate k.toNat cs).flatten
theorem foldl_app (cs : List Nat) : ∀ (k : Nat) (acc : List Nat), List.foldl (fun x1 x2 => x1 ++ x2) acc.toArray (List.replicate k cs.toArray) = (acc ++ (List.replicate k cs).flatten).toArray
  | 0, acc => by simp
  | k + 1, acc => by
    rw [List.replicate_succ, List.foldl_cons, List.replicate_succ, List.flatten_cons, ← List.append_assoc, ← foldl_app cs k (acc ++ cs)]
    simp
theorem op_mul_str : OpR X (binaryOp .Mult) (fun x y H Q => ∃ cs k, x = .str (mkS cs) ∧ y = .int k ∧ 0 ≤ k ∧ k < 1000 ∧ cs.length ≤ 1000 ∧ Q (.str (mkS (repL cs k))) H) := by
  intro pins s σ H x y v u Q I rx ry h
  obtain ⟨cs, k, rfl, rfl, h0, h1, hc, q⟩ := h
  obtain ⟨t, rfl⟩ := rx
  obtain ⟨t', rfl⟩ := ry
  have hs : sizeLine = 16777216 := sizeLine_eq
  have hprod : cs.length * k.toNat ≤ 1000 * 1000 := Nat.mul_le_mul hc (by omega)
  have e : ∀ b, Q (.str b) H → b = mkS (repL cs k) → True := fun _ _ _ => trivial
  refine PySem.P.mul_str (by rw [decide_eq_false (by omega), decide_eq_false (by omega)]; rfl) (fun h2 _ => ?_) (fun _ _ => ?_) ?_
  · rw [mkS_len]
    have hk : 1 ≤ k := by omega
    have : (1000 : Int) ≤ (2 ^ 63 - 1) / k := by
      rw [Int.le_ediv_iff_mul_le (by omega)]
      omega
    omega
  · rw [mkS_len]
    unfold PySem.Builtin.Str.tooLong
    exact decide_eq_false (by omega)
  · have made : ∀ (z : Str), z = mkS (repL cs k) → z.length ≤ sizeLine → (Made.str z).post (EP X pins σ Q) s := fun z ez hz => ⟨hz, by rw [ez]; exact ⟨.str _, H, I.tok _, ⟨_, rfl⟩, q⟩⟩
    have hlen : (repL cs k).length = k.toNat * cs.length := by
      unfold repL; rw [len_rep]
    by_cases hn : k < 1
    · rw [if_pos hn]
      have hk : k.toNat = 0 := by omega
      refine made _ ?_ (by decide)
      unfold repL; rw [hk]; rfl
    · rw [if_neg hn]
      by_cases h3 : (k == 1 || (mkS cs).length == 0) = true
      · rw [if_pos h3]
        refine ⟨.str (mkS cs), H, I, ⟨_, rfl⟩, ?_⟩
        have : repL cs k = cs := by
          unfold repL
          rw [Bool.or_eq_true] at h3
          rcases h3 with h3 | h3
          · have : k = 1 := by simpa using h3
            subst this
            simp
          · rw [mkS_len] at h3
            have : cs = [] := by cases cs with | nil => rfl | cons _ _ => simp at h3
            subst this
            simp
        rw [this] at q
        exact q
      · rw [if_neg h3]
        refine made _ ?_ ?_
        · unfold repL mkS
          have := foldl_app cs k.toNat []
          rw [List.nil_append] at this
          exact congrArg Str.mk this
        · have e3 : (List.foldl (fun x1 x2 => x1 ++ x2) #[] (List.replicate k.toNat (mkS cs).cps)) = (repL cs k).toArray := by
            have := foldl_app cs k.toNat []
            rw [List.nil_append] at this
            exact this
          show (List.foldl (fun x1 x2 => x1 ++ x2) #[] (List.replicate k.toNat (mkS cs).cps)).size ≤ sizeLine
          rw [e3, List.size_toArray, hlen, Nat.mul_comm]
          omega

/-- all(xs), xs a list of bools -/
theorem call_all_bls : CallR X (.builtin "all") (fun xs H Q => ∃ (a : Addr) (bs : List Bool), xs = [.ref a] ∧ SqL X.K H a (bs.map V.bl) ∧ X.calm = true ∧ Q (.bl (bs.all id)) H) := by
  intro pins s σ H xs us Q I r h
  obtain ⟨a, bs, rfl, hq, hc, q⟩ := h
  obtain ⟨u, rfl, ru⟩ := vals1 r
  cases ru
  obtain ⟨its, rv, pl, hz⟩ := I.list hq
  have hlen : its.length = bs.length := by rw [← rv.length, List.length_map]
  refine PySem.call_all_walk (wpAny_pyIter_list pl.isList ?_)
  have hI : a ≠ s.heap.objs.size := by
    obtain ⟨o, ho, _⟩ := pl.isList
    exact Nat.ne_of_lt (Heap.lt_size ho)
  have I1 : ∀ (h' : Heap) (tk : Nat), (∀ b o, b ∉ [s.heap.objs.size] → (s.heap.push { cls := .type "list_iterator", data := .fields #[.ref a, .int 0 0] }).get? b = some o → h'.get? b = some o) → Inv X pins σ H { s with heap := h', toks := tk } := fun h' tk k =>
    I.kept fun b o e => k b o (by simpa using Nat.ne_of_lt (Heap.lt_size e)) (Heap.get?_push_of_some _ e)
  refine ⟨s.heap.objs.size, [s.heap.objs.size, a], [s.heap.objs.size], its.toArray.size, _, _, fun i => bs.getD i false, rfl, PySem.Walks.list (by first | exact I.ok.hd hc | exact (show X.A.in1.handled = none from I.ok.hd hc)) _ a hI its.toArray, ⟨⟨_, Heap.get?_push_size _ rfl, rfl, rfl⟩, pl.isList.at fun o e => Heap.get?_push_of_some _ e⟩, ?_, fun h' tk k => ?_⟩
  · intro i v s' Q' E' hv hQ'
    have hv' : its[i]? = some v := by simpa using hv
    have hi : i < bs.length := by rw [← hlen]; exact (List.getElem?_eq_some_iff.mp hv').1
    have hb : (bs.map V.bl)[i]? = some (V.bl (bs.getD i false)) := by
      rw [List.getElem?_map, List.getElem?_eq_getElem hi]
      simp [List.getD_eq_getElem?_getD, hi]
    obtain ⟨u', hu', rv'⟩ := rv.get hb
    rw [hv'] at hu'
    cases hu'
    cases rv'
    exact wpAny_truthy_bool hQ'
  · refine ⟨.bl (bs.all id), H, I1 h' tk k, ?_, q⟩
    show Value.bool _ = Value.bool _
    congr 1
    rw [List.size_toArray, hlen]
    have : ∀ (l : List Bool), (List.range l.length).all (fun i => l.getD i false) = l.all id := by
      intro l
      rw [Bool.eq_iff_iff, List.all_eq_true, List.all_eq_true]
      constructor
      · intro h x hx
        obtain ⟨i, hi, rfl⟩ := List.getElem_of_mem hx
        have := h i (List.mem_range.mpr hi)
        simpa [List.getD_eq_getElem?_getD, hi] using this
      · intro h i hi
        have hi' := List.mem_range.mp hi
        have := h l[i] (List.getElem_mem hi')
        simpa [List.getD_eq_getElem?_getD, hi'] using this
    exact this bs

/-! ### a text, sign by sign -/
def Its (x : List Nat) : It := ⟨fun i _ => i < x.length, fun i H v H' => H' = H ∧ ∃ c, x[i]? = some c ∧ v = .str (mkS [c]), fun i _ => x.length ≤ i⟩
def iStr (tl : TE) : TI := fun σ H R => tl σ H fun v H1 => ∃ x, v = .str (mkS x) ∧ R (Its x) H1
theorem turn_str {P : Program} {w : World} {K : PySem.W.Frag} {tg : Expr} (it : Addr) (ty : String) (x : List Nat) (t : Tok) (hty : ty = "str_ascii_iterator" ∨ ty = "str_iterator") :
    Turn P w K tg (Its x) [it] it (fun i h => h.IsStrIter it ty (mkS x) t i) where
  mem := by simp
  obj := fun i h st b hb => by
    have e : b = it := by simpa using hb
    subst e
    obtain ⟨o, e, c, d⟩ := st
    exact ⟨o, e, fun v z => by rw [d] at z; cases z⟩
  keep := fun i h h' st k => let ⟨o, ho, r⟩ := st; ⟨o, k it (by simp) o ho, r⟩
  item := by
    intro X hP hw hK hc i pins s σ H E I hf st hg
    subst hP hw hK
    obtain ⟨f0, f1, f2, f3, f4, f5⟩ := hf it (by simp)
    have hi : i < x.length := hg
    have hxi : (mkS x).cps[i]? = some x[i] := by simp [mkS, hi]
    have fin : ∀ (h' : Heap), h'.IsStrIter it ty (mkS x) t (i + 1) → Heap.SameBut it s.heap h' → ∃ u, some (Value.str ⟨#[x[i]]⟩ s.toks) = some u ∧
        wpAny (model X.prog X.w) X.A (letOwnedTupleGo tg (.ref it) u) (fun _ s2 => ∃ y H', Inv X pins σ H' s2 ∧ RelV y u ∧ (Its x).yld i H y H' ∧ s2.heap.IsStrIter it ty (mkS x) t (i + 1) ∧ ∀ b ∈ [it], H' b = none) E { s with heap := h', toks := s.toks + 1 } := fun h' st' sb => by
      have I1 : Inv X pins σ H { s with heap := h', toks := s.toks + 1 } := I.turned (fun b o hb e => (sb.2 b hb).trans e) f0 f1 f3 f4 f5
      obtain ⟨o, e, c, d⟩ := id st'
      refine ⟨_, rfl, go_of (s := { s with heap := h', toks := s.toks + 1 }) e c d (by rcases hty with rfl | rfl <;> decide) ⟨.str (mkS [x[i]]), H, I1, ⟨_, rfl⟩, ⟨rfl, x[i], by simp [hi], rfl⟩, st', fun b hb => (hf b hb).1⟩⟩
    rcases hty with rfl | rfl
    · exact wpAny_pyNext_ascii_item st hxi fun h' st' sb => fin h' st' sb
    · exact wpAny_pyNext_wide_item st hxi fun h' st' sb => fin h' st' sb
  done := by
    intro X hP hw hK hc i pins s σ H E I hf st hg
    subst hP hw hK
    obtain ⟨f0, f1, f2, f3, f4, f5⟩ := hf it (by simp)
    have hi : x.length ≤ i := hg
    have hxi : (mkS x).cps[i]? = none := by simp [mkS, hi]
    rcases hty with rfl | rfl
    · exact wpAny_pyNext_ascii_end (I.ok.hd hc) st hxi fun h' eb => ⟨rfl, I.turned (t' := s.toks) (fun b o hb e => eb b o hb e) f0 f1 f3 f4 f5⟩
    · exact wpAny_pyNext_wide_end (I.ok.hd hc) st hxi fun h' eb => ⟨rfl, I.turned (t' := s.toks) (fun b o hb e => eb b o hb e) f0 f1 f3 f4 f5⟩
  self := fun _ _ _ _ _ st h => by
    rcases hty with rfl | rfl
    · exact wpAny_pyIter_striter_ascii st h
    · exact wpAny_pyIter_striter_wide st h
theorem pi_str {tg l : Expr} {tl : TE} (hl : PE X l tl) : PI X tg l (iStr tl) := by
  intro pins s σ H R I h
  refine thn (hl pins s σ H _ I h) fun v s1 ⟨x, H1, I1, r1, q1⟩ => ?_
  obtain ⟨cs, e, q⟩ := q1
  subst e
  obtain ⟨t, rfl⟩ := r1
  have fp : ∀ (o : Obj), ∀ b ∈ [s1.heap.objs.size], FpOk X pins H1 b := fun o b hb => by
    have e : b = s1.heap.objs.size := by simpa using hb
    subst e
    exact I1.fpOk (Nat.le_refl _) (I1.hok.fresh (Nat.le_refl _))
  cases ha : (mkS cs).cps.all (· < 128)
  · refine wpAny_pyIter_wide ha ?_
    exact ⟨s1.heap.objs.size, [s1.heap.objs.size], _, _, H1, rfl, I1.kept (t' := s1.toks) fun b o e => Heap.get?_push_of_some _ e, turn_str _ "str_iterator" cs t (.inr rfl), ⟨_, Heap.get?_push_size _ rfl, rfl, rfl⟩, fp default, q⟩
  · refine wpAny_pyIter_ascii ha ?_
    exact ⟨s1.heap.objs.size, [s1.heap.objs.size], _, _, H1, rfl, I1.kept (t' := s1.toks) fun b o e => Heap.get?_push_of_some _ e, turn_str _ "str_ascii_iterator" cs t (.inl rfl), ⟨_, Heap.get?_push_size _ rfl, rfl, rfl⟩, fp default, q⟩
end
end L2

namespace L2
namespace D2
open PySem PySem.Spec PyProof.Rows

/-! ## Data without the heap: what pure code reckons with -/
inductive Dt where
  | non | bl (b : Bool) | int (i : Int) | str (x : List Nat) | tup (ds : List Dt)
instance : Inhabited Dt := ⟨.non⟩

mutual
def Den (K : PySem.W.Frag) (H : Hp) : Dt → V → Prop
  | .non, v => v = .non
  | .bl b, v => v = .bl b
  | .int i, v => v = .int i
  | .str x, v => v = .str (mkS x)
  | .tup ds, v => ∃ a vs, v = .ref a ∧ SqT K H a vs ∧ DenL K H ds vs
def DenL (K : PySem.W.Frag) (H : Hp) : List Dt → List V → Prop
  | [], vs => vs = []
  | d :: ds, vs => ∃ v r, vs = v :: r ∧ Den K H d v ∧ DenL K H ds r
end

/-- the tuples stay (every step keeps them) -/
def Stay (H H' : Hp) : Prop := (∀ b xs, H b = some (.tup xs) → H' b = some (.tup xs)) ∧ ∀ b o u, H b = some (.frz o u) → H' b = some (.frz o u)
theorem Stay.of {H H' : Hp} (h : Same H H') : Stay H H' := ⟨fun b xs => h b _, fun b o u => h b _⟩
theorem Stay.sqT {K : PySem.W.Frag} {H H' : Hp} (h : Stay H H') {a : Addr} {vs : List V} (q : SqT K H a vs) : SqT K H' a vs := by
  rcases q with (q | ⟨o, q⟩) | q
  · exact .inl (.inl (h.1 a vs q))
  · exact .inl (.inr ⟨o, h.2 a o _ q⟩)
  · exact .inr q
mutual
theorem Den.stay {K : PySem.W.Frag} {H H' : Hp} (h : Stay H H') : ∀ {d : Dt} {v : V}, Den K H d v → Den K H' d v
  | .non, _, q => by unfold Den at q ⊢; exact q
  | .bl _, _, q => by unfold Den at q ⊢; exact q
  | .int _, _, q => by unfold Den at q ⊢; exact q
  | .str _, _, q => by unfold Den at q ⊢; exact q
  | .tup ds, _, q => by
    unfold Den at q ⊢
    obtain ⟨a, vs, e, s, l⟩ := q
    exact ⟨a, vs, e, h.sqT s, DenL.stay h l⟩
theorem DenL.stay {K : PySem.W.Frag} {H H' : Hp} (h : Stay H H') : ∀ {ds : List Dt} {vs : List V}, DenL K H ds vs → DenL K H' ds vs
  | [], _, q => by unfold DenL at q ⊢; exact q
  | d :: ds, _, q => by
    unfold DenL at q ⊢
    obtain ⟨v, r, e, a, l⟩ := q
    exact ⟨v, r, e, Den.stay h a, DenL.stay h l⟩
end
section
variable {K : PySem.W.Frag} {H H' : Hp}
theorem den_non : Den K H .non .non := by unfold Den; rfl
theorem den_bl (b : Bool) : Den K H (.bl b) (.bl b) := by unfold Den; rfl
theorem den_int (i : Int) : Den K H (.int i) (.int i) := by unfold Den; rfl
theorem den_str (x : List Nat) : Den K H (.str x) (.str (mkS x)) := by unfold Den; rfl
theorem den_tup {ds : List Dt} {a : Addr} {vs : List V} (s : SqT K H a vs) (l : DenL K H ds vs) : Den K H (.tup ds) (.ref a) := by unfold Den; exact ⟨a, vs, rfl, s, l⟩
theorem denl_nil : DenL K H [] [] := by unfold DenL; rfl
theorem denl_cons {d : Dt} {v : V} {ds : List Dt} {vs : List V} (a : Den K H d v) (l : DenL K H ds vs) : DenL K H (d :: ds) (v :: vs) := by unfold DenL; exact ⟨v, vs, rfl, a, l⟩
theorem DenL.length : ∀ {ds : List Dt} {vs : List V}, DenL K H ds vs → vs.length = ds.length
  | [], _, q => by unfold DenL at q; subst q; rfl
  | d :: ds, _, q => by
    unfold DenL at q
    obtain ⟨v, r, rfl, _, l⟩ := q
    rw [List.length_cons, List.length_cons, DenL.length l]
theorem DenL.append : ∀ {ds es : List Dt} {vs us : List V}, DenL K H ds vs → DenL K H es us → DenL K H (ds ++ es) (vs ++ us)
  | [], _, _, _, q, l => by unfold DenL at q; subst q; exact l
  | d :: ds, _, _, _, q, l => by
    unfold DenL at q
    obtain ⟨v, r, rfl, a, l'⟩ := q
    exact denl_cons a (DenL.append l' l)
theorem DenL.drop : ∀ {ds : List Dt} {vs : List V} (n : Nat), DenL K H ds vs → DenL K H (ds.drop n) (vs.drop n)
  | _, _, 0, q => q
  | [], _, n + 1, q => by unfold DenL at q; subst q; exact denl_nil
  | d :: ds, _, n + 1, q => by
    unfold DenL at q
    obtain ⟨v, r, rfl, _, l⟩ := q
    exact DenL.drop n l
theorem DenL.take : ∀ {ds : List Dt} {vs : List V} (n : Nat), DenL K H ds vs → DenL K H (ds.take n) (vs.take n)
  | _, _, 0, q => denl_nil
  | [], _, n + 1, q => by unfold DenL at q; subst q; exact denl_nil
  | d :: ds, _, n + 1, q => by
    unfold DenL at q
    obtain ⟨v, r, rfl, a, l⟩ := q
    exact denl_cons a (DenL.take n l)
theorem DenL.get : ∀ {ds : List Dt} {vs : List V} {i : Nat} {v : V}, DenL K H ds vs → vs[i]? = some v → ∃ d, ds[i]? = some d ∧ Den K H d v
  | [], _, _, _, q, e => by unfold DenL at q; subst q; simp at e
  | d :: ds, _, 0, _, q, e => by
    unfold DenL at q
    obtain ⟨v, r, rfl, a, l⟩ := q
    simp at e; subst e
    exact ⟨d, rfl, a⟩
  | d :: ds, _, i + 1, _, q, e => by
    unfold DenL at q
    obtain ⟨v, r, rfl, a, l⟩ := q
    obtain ⟨d', h1, h2⟩ := DenL.get (i := i) l (by simpa using e)
    exact ⟨d', by simpa using h1, h2⟩
theorem DenL.at : ∀ {ds : List Dt} {vs : List V} {i : Nat} {d : Dt}, DenL K H ds vs → ds[i]? = some d → ∃ v, vs[i]? = some v ∧ Den K H d v := fun {ds vs i d} q e => by
  have hi : i < ds.length := (List.getElem?_eq_some_iff.mp e).1
  have hv : i < vs.length := by rw [q.length]; exact hi
  obtain ⟨d', h1, h2⟩ := q.get (List.getElem?_eq_getElem hv)
  rw [e] at h1; cases h1
  exact ⟨_, List.getElem?_eq_getElem hv, h2⟩
theorem DenL.cut {ds : List Dt} {vs : List V} (q : DenL K H ds vs) (lo hi : Option Int) : DenL K H (cutL ds lo hi) (cutV vs lo hi) := by
  unfold cutL cutV
  rw [q.length]
  exact (q.drop _).take _
theorem denl_bls : ∀ (bs : List Bool), DenL K H (bs.map Dt.bl) (bs.map V.bl)
  | [] => denl_nil
  | b :: bs => denl_cons (den_bl b) (denl_bls bs)
theorem denl_ints : ∀ (ns : List Int), DenL K H (ns.map Dt.int) (ns.map V.int)
  | [] => denl_nil
  | b :: bs => denl_cons (den_int b) (denl_ints bs)
end

/-! ## results -/
inductive R (α : Type) where
  | ok (a : α) | exc (c : Nat) (fs : List Dt) | no
def R.bind {α β : Type} : R α → (α → R β) → R β
  | .ok a, k => k a
  | .exc c fs, _ => .exc c fs
  | .no, _ => .no
theorem R.bind_ok {α β : Type} (a : α) (k : α → R β) : (R.ok a).bind k = k a := rfl
/-- an expression's: data; a list that is read (lst: tracked or known; scr: the script); a list just made -/
inductive Er where
  | val (d : Dt) | lst (ds : List Dt) | new (ds : List Dt) | scr (ds : List Dt) | typ (n : String)

/-- readable as that -/
def DenX (K : PySem.W.Frag) (H : Hp) : Er → V → Prop
  | .val d, v => Den K H d v
  | .lst ds, v => ∃ a vs, v = .ref a ∧ H a = some (.lst vs) ∧ DenL K H ds vs
  | .new ds, v => ∃ a vs, v = .ref a ∧ H a = some (.lst vs) ∧ DenL K H ds vs
  | .scr ds, v => ∃ a vs, v = .ref a ∧ SqL K H a vs ∧ DenL K H ds vs
  | .typ n, v => v = .ty n
/-- .. what an expression leaves, seen from the heap H ahead of it: a list just made was not there -/
def DenE (K : PySem.W.Frag) (H H' : Hp) (r : Er) (v : V) : Prop := DenX K H' r v ∧ match r with | .new _ => ∀ a, v = .ref a → H a = none | _ => True

theorem DenX.same {K : PySem.W.Frag} {H H' : Hp} (h : Same H H') : ∀ {r : Er} {v : V}, DenX K H r v → DenX K H' r v
  | .val d, _, q => Den.stay (.of h) q
  | .lst ds, _, ⟨a, vs, e, s, l⟩ => ⟨a, vs, e, h _ _ s, l.stay (.of h)⟩
  | .new ds, _, ⟨a, vs, e, s, l⟩ => ⟨a, vs, e, h _ _ s, l.stay (.of h)⟩
  | .scr ds, _, ⟨a, vs, e, s, l⟩ => ⟨a, vs, e, h.seq s, l.stay (.of h)⟩
  | .typ n, _, q => q
theorem DenE.from {K : PySem.W.Frag} {H0 H H' : Hp} (h : Same H0 H) {r : Er} {v : V} (q : DenE K H H' r v) : DenE K H0 H' r v := by
  refine ⟨q.1, ?_⟩
  cases r with
  | new ds => exact fun a e => h.free (q.2 a e)
  | _ => trivial
theorem DenE.val {K : PySem.W.Frag} {H H' : Hp} {d : Dt} {v : V} (q : Den K H' d v) : DenE K H H' (.val d) v := ⟨q, trivial⟩
theorem same_upd {H : Hp} {p : Addr} {o : HO} (h : H p = none) : Same H (upd H p o) := fun b u e => by rw [upd_ne (ne_of_none e h)]; exact e
theorem DenE.new {K : PySem.W.Frag} {H H1 : Hp} (h : Same H H1) {p : Addr} {ds : List Dt} {vs : List V} (hp : H1 p = none) (l : DenL K H1 ds vs) : DenE K H (upd H1 p (.lst vs)) (.new ds) (.ref p) :=
  ⟨⟨p, vs, rfl, upd_same, l.stay (.of (same_upd hp))⟩, fun a e => by cases e; exact h.free hp⟩
theorem DenE.tup {K : PySem.W.Frag} {H H1 : Hp} {p : Addr} {ds : List Dt} {vs : List V} (hp : H1 p = none) (l : DenL K H1 ds vs) : DenE K H (upd H1 p (.tup vs)) (.val (.tup ds)) (.ref p) :=
  .val (den_tup (.of upd_same) (l.stay (.of (same_upd hp))))

/-- what is wanted of an exception: its class, its fields, the heap -/
abbrev XW := Nat → List Dt → Hp → Prop
abbrev W0 : XW := fun _ _ _ => False

def PostE (K : PySem.W.Frag) (W : XW) : R Er → Hp → VK → Prop
  | .ok r, H, Q => ∀ v H', Same H H' → DenE K H H' r v → Q v H'
  | .exc c fs, H, _ => ∀ H', Same H H' → W c fs H'
  | .no, _, _ => False
def PostB (W : XW) : R Bool → Hp → (Bool → Hp → Prop) → Prop
  | .ok b, H, Q => ∀ H', Same H H' → Q b H'
  | .exc c fs, H, _ => ∀ H', Same H H' → W c fs H'
  | .no, _, _ => False
/-- argument lists -/
inductive ArgsX (K : PySem.W.Frag) (H : Hp) : List Er → List V → Prop
  | nil : ArgsX K H [] []
  | cons {r v rs vs} : DenX K H r v → ArgsX K H rs vs → ArgsX K H (r :: rs) (v :: vs)
theorem ArgsX.same {K : PySem.W.Frag} {H H' : Hp} (h : Same H H') : ∀ {rs : List Er} {vs : List V}, ArgsX K H rs vs → ArgsX K H' rs vs
  | _, _, .nil => .nil
  | _, _, .cons q t => .cons (q.same h) (ArgsX.same h t)
theorem ArgsX.length {K : PySem.W.Frag} {H : Hp} : ∀ {rs : List Er} {vs : List V}, ArgsX K H rs vs → vs.length = rs.length
  | _, _, .nil => rfl
  | _, _, .cons _ t => by rw [List.length_cons, List.length_cons, ArgsX.length t]
inductive ArgsE (K : PySem.W.Frag) (H H' : Hp) : List Er → List V → Prop
  | nil : ArgsE K H H' [] []
  | cons {r v rs vs} : DenE K H H' r v → ArgsE K H H' rs vs → ArgsE K H H' (r :: rs) (v :: vs)
theorem ArgsE.x {K : PySem.W.Frag} {H H' : Hp} : ∀ {rs : List Er} {vs : List V}, ArgsE K H H' rs vs → ArgsX K H' rs vs
  | _, _, .nil => .nil
  | _, _, .cons q t => .cons q.1 (ArgsE.x t)
theorem ArgsE.from {K : PySem.W.Frag} {H0 H H' : Hp} (h : Same H0 H) : ∀ {rs : List Er} {vs : List V}, ArgsE K H H' rs vs → ArgsE K H0 H' rs vs
  | _, _, .nil => .nil
  | _, _, .cons q t => .cons (q.from h) (ArgsE.from h t)
theorem ArgsE.length {K : PySem.W.Frag} {H H' : Hp} {rs : List Er} {vs : List V} (q : ArgsE K H H' rs vs) : vs.length = rs.length := q.x.length
theorem ArgsE.get {K : PySem.W.Frag} {H H' : Hp} : ∀ {rs : List Er} {vs : List V} {i : Nat} {r : Er}, ArgsE K H H' rs vs → rs[i]? = some r → ∃ v, vs[i]? = some v ∧ DenE K H H' r v
  | _, _, _, _, .nil, e => by simp at e
  | _, _, 0, _, .cons q t, e => by simp at e; subst e; exact ⟨_, rfl, q⟩
  | _, _, i + 1, _, .cons q t, e => by
    obtain ⟨v, h1, h2⟩ := ArgsE.get (i := i) t (by simpa using e)
    exact ⟨v, by simpa using h1, h2⟩
theorem DenE.to {K : PySem.W.Frag} {H H1 H2 : Hp} (h : Same H1 H2) {r : Er} {v : V} (q : DenE K H H1 r v) : DenE K H H2 r v := ⟨q.1.same h, q.2⟩
def PostA (K : PySem.W.Frag) (W : XW) : R (List Er) → Hp → (List V → Hp → Prop) → Prop
  | .ok rs, H, Q => ∀ vs H', Same H H' → ArgsE K H H' rs vs → Q vs H'
  | .exc c fs, H, _ => ∀ H', Same H H' → W c fs H'
  | .no, _, _ => False
theorem PostE.from {K : PySem.W.Frag} {W : XW} {H H' : Hp} (h : Same H H') : ∀ {r : R Er} {Q : VK}, PostE K W r H Q → PostE K W r H' Q
  | .ok r, Q, q => fun v H2 s d => q v H2 (h.trans s) (d.from h)
  | .exc c fs, _, q => fun H2 s => q H2 (h.trans s)
  | .no, _, q => q
theorem PostB.from {W : XW} {H H' : Hp} (h : Same H H') : ∀ {r : R Bool} {Q : Bool → Hp → Prop}, PostB W r H Q → PostB W r H' Q
  | .ok r, Q, q => fun H2 s => q H2 (h.trans s)
  | .exc c fs, _, q => fun H2 s => q H2 (h.trans s)
  | .no, _, q => q
theorem PostA.from {K : PySem.W.Frag} {W : XW} {H H' : Hp} (h : Same H H') : ∀ {r : R (List Er)} {Q : List V → Hp → Prop}, PostA K W r H Q → PostA K W r H' Q
  | .ok r, Q, q => fun v H2 s d => q v H2 (h.trans s) (d.from h)
  | .exc c fs, _, q => fun H2 s => q H2 (h.trans s)
  | .no, _, q => q

/-! ## the names of a body -/
inductive Sl where
  | val (d : Dt) | ro (ds : List Dt) | own (ds : List Dt) | scr (ds : List Dt)
abbrev Rho := List (Option Sl)
def isOwn (ρ : Rho) (i : Nat) : Prop := ∃ ds, ρ[i]? = some (some (.own ds))
/-- a list that nothing here changes: it stood at the entry, or it is no name's own -/
def RoL (H0 : Hp) (ρ : Rho) (σ : St) (H : Hp) (a : Addr) (vs : List V) : Prop :=
  H0 a = some (.lst vs) ∨ (H a = some (.lst vs) ∧ ∀ (i : Nat), isOwn ρ i → σ[i]? ≠ some (some (.ref a)))
/-- what a name (or a thing that a loop walks) holds -/
def SlOk (K : PySem.W.Frag) (H0 : Hp) (ρ : Rho) (σ : St) (H : Hp) : Sl → V → Prop
  | .val d, v => Den K H d v
  | .ro ds, v => ∃ a vs, v = .ref a ∧ RoL H0 ρ σ H a vs ∧ DenL K H ds vs
  | .own ds, v => ∃ a vs, v = .ref a ∧ H a = some (.lst vs) ∧ H0 a = none ∧ DenL K H ds vs
  | .scr ds, v => ∃ a vs, v = .ref a ∧ SqL K H0 a vs ∧ DenL K H ds vs
structure RelS (K : PySem.W.Frag) (H0 : Hp) (Z : List (V × Sl)) (ρ : Rho) (σ : St) (H : Hp) : Prop where
  len : σ.length = ρ.length
  slot : ∀ (i : Nat) (s : Sl), ρ[i]? = some (some s) → ∃ v, σ[i]? = some (some v) ∧ SlOk K H0 ρ σ H s v
  dst : ∀ (i j : Nat), isOwn ρ i → isOwn ρ j → σ[i]? = σ[j]? → i = j
  zs : ∀ v s, (v, s) ∈ Z → SlOk K H0 ρ σ H s v ∧ ∀ ds, s ≠ .own ds
  ext : Same H0 H
section
variable {K : PySem.W.Frag} {H0 H H' : Hp} {Z : List (V × Sl)} {ρ : Rho} {σ : St}
theorem RoL.same (h : Same H H') {a : Addr} {vs : List V} (q : RoL H0 ρ σ H a vs) : RoL H0 ρ σ H' a vs := by
  rcases q with q | ⟨q, n⟩
  · exact .inl q
  · exact .inr ⟨h _ _ q, n⟩
theorem RoL.rd (x : Same H0 H) {a : Addr} {vs : List V} (q : RoL H0 ρ σ H a vs) : H a = some (.lst vs) := by
  rcases q with q | ⟨q, _⟩
  · exact x _ _ q
  · exact q
theorem SlOk.same (h : Same H H') : ∀ {s : Sl} {v : V}, SlOk K H0 ρ σ H s v → SlOk K H0 ρ σ H' s v
  | .val d, _, q => Den.stay (.of h) q
  | .ro ds, _, ⟨a, vs, e, r, l⟩ => ⟨a, vs, e, r.same h, l.stay (.of h)⟩
  | .own ds, _, ⟨a, vs, e, r, n, l⟩ => ⟨a, vs, e, h _ _ r, n, l.stay (.of h)⟩
  | .scr ds, _, ⟨a, vs, e, r, l⟩ => ⟨a, vs, e, r, l.stay (.of h)⟩
theorem RelS.same (h : Same H H') (q : RelS K H0 Z ρ σ H) : RelS K H0 Z ρ σ H' where
  len := q.len
  slot := fun i s e => let ⟨v, h1, h2⟩ := q.slot i s e; ⟨v, h1, h2.same h⟩
  dst := q.dst
  zs := fun v s e => ⟨(q.zs v s e).1.same h, (q.zs v s e).2⟩
  ext := q.ext.trans h
/-- a name's value, read -/
def rdSl : Option (Option Sl) → R Er
  | some (some (.val d)) => .ok (.val d)
  | some (some (.ro ds)) => .ok (.lst ds)
  | some (some (.own ds)) => .ok (.lst ds)
  | some (some (.scr ds)) => .ok (.scr ds)
  | _ => .no
theorem RelS.get (q : RelS K H0 Z ρ σ H) {i : Nat} {r : Er} (e : rdSl (ρ[i]?) = .ok r) : ∃ v, σ[i]? = some (some v) ∧ DenX K H r v ∧ DenE K H H r v := by
  cases z : ρ[i]? with
  | none => rw [z] at e; cases e
  | some o =>
    cases o with
    | none => rw [z] at e; cases e
    | some s =>
      rw [z] at e
      obtain ⟨v, h1, h2⟩ := q.slot i s z
      cases s with
      | val d =>
        cases e
        exact ⟨v, h1, h2, h2, trivial⟩
      | ro ds =>
        cases e
        obtain ⟨a, vs, rfl, h3, h4⟩ := h2
        exact ⟨_, h1, ⟨a, vs, rfl, h3.rd q.ext, h4⟩, ⟨a, vs, rfl, h3.rd q.ext, h4⟩, trivial⟩
      | own ds =>
        cases e
        obtain ⟨a, vs, rfl, h3, h4, h5⟩ := h2
        exact ⟨_, h1, ⟨a, vs, rfl, h3, h5⟩, ⟨a, vs, rfl, h3, h5⟩, trivial⟩
      | scr ds =>
        cases e
        obtain ⟨a, vs, rfl, h3, h4⟩ := h2
        exact ⟨_, h1, ⟨a, vs, rfl, q.ext.seq h3, h4⟩, ⟨a, vs, rfl, q.ext.seq h3, h4⟩, trivial⟩
theorem set_get {α : Type} {l : List α} {i j : Nat} {x y : α} (h : (l.set i x)[j]? = some y) : (j = i ∧ y = x ∧ i < l.length) ∨ (j ≠ i ∧ l[j]? = some y) := by
  by_cases hj : i = j
  · subst hj
    by_cases hl : i < l.length
    · rw [List.getElem?_set_self hl] at h
      exact .inl ⟨rfl, (Option.some.inj h).symm, hl⟩
    · rw [List.getElem?_eq_none (by rw [List.length_set]; omega)] at h; cases h
  · rw [List.getElem?_set_ne hj] at h
    exact .inr ⟨fun z => hj z.symm, h⟩
/-- a slot is overwritten by something that is no name's own list -/
theorem isOwn_set {i j : Nat} {s : Option Sl} (hs : ∀ ds, s ≠ some (.own ds)) (h : isOwn (ρ.set i s) j) : isOwn ρ j ∧ j ≠ i := by
  obtain ⟨ds, e⟩ := h
  rcases set_get e with ⟨_, e', _⟩ | ⟨hj, e'⟩
  · exact absurd e'.symm (hs ds)
  · exact ⟨⟨ds, e'⟩, hj⟩
theorem RoL.set {i : Nat} {s : Option Sl} {x : Option V} (hs : ∀ ds, s ≠ some (.own ds)) {a : Addr} {vs : List V} (q : RoL H0 ρ σ H a vs) : RoL H0 (ρ.set i s) (σ.set i x) H a vs := by
  rcases q with q | ⟨q, n⟩
  · exact .inl q
  · refine .inr ⟨q, fun j hj => ?_⟩
    obtain ⟨h1, h2⟩ := isOwn_set hs hj
    rw [List.getElem?_set_ne (Ne.symm h2)]
    exact n j h1
theorem SlOk.set {i : Nat} {s : Option Sl} {x : Option V} (hs : ∀ ds, s ≠ some (.own ds)) : ∀ {s' : Sl} {v : V}, SlOk K H0 ρ σ H s' v → SlOk K H0 (ρ.set i s) (σ.set i x) H s' v
  | .val d, _, q => q
  | .ro ds, _, ⟨a, vs, e, r, l⟩ => ⟨a, vs, e, r.set hs, l⟩
  | .own ds, _, q => q
  | .scr ds, _, q => q
theorem RelS.setVal (q : RelS K H0 Z ρ σ H) {i : Nat} {d : Dt} {v : V} (h : Den K H d v) : RelS K H0 Z (ρ.set i (some (.val d))) (σ.set i (some v)) H := by
  have hs : ∀ ds, some (Sl.val d) ≠ some (.own ds) := fun ds z => by cases z
  refine ⟨by rw [List.length_set, List.length_set]; exact q.len, fun j s e => ?_, fun j k hj hk e => ?_, fun u s hz => ⟨(q.zs u s hz).1.set hs, (q.zs u s hz).2⟩, q.ext⟩
  · rcases set_get e with ⟨rfl, e', hl⟩ | ⟨hj, e'⟩
    · cases e'
      exact ⟨v, by rw [List.getElem?_set_self (by rw [q.len]; exact hl)], h⟩
    · obtain ⟨u, h1, h2⟩ := q.slot j s e'
      exact ⟨u, by rw [List.getElem?_set_ne (Ne.symm hj)]; exact h1, h2.set hs⟩
  · obtain ⟨h1, n1⟩ := isOwn_set hs hj
    obtain ⟨h2, n2⟩ := isOwn_set hs hk
    rw [List.getElem?_set_ne (Ne.symm n1), List.getElem?_set_ne (Ne.symm n2)] at e
    exact q.dst j k h1 h2 e
/-- a slot gets a list that was not there in H (the state is H', H kept) -/
theorem RelS.setNew (q : RelS K H0 Z ρ σ H) (s : Same H H') {i : Nat} {a : Addr} {ds : List Dt} {vs : List V} (hn : H a = none) (ha : H' a = some (.lst vs)) (h : DenL K H' ds vs) :
    RelS K H0 Z (ρ.set i (some (.own ds))) (σ.set i (some (.ref a))) H' := by
  have q' := q.same s
  have own' : ∀ j, isOwn (ρ.set i (some (.own ds))) j → j = i ∨ (j ≠ i ∧ isOwn ρ j) := fun j ⟨es, e⟩ => by
    rcases set_get e with ⟨rfl, _⟩ | ⟨hj, e'⟩
    · exact .inl rfl
    · exact .inr ⟨hj, es, e'⟩
  have hro : ∀ {s' : Sl} {v : V}, SlOk K H0 ρ σ H s' v → SlOk K H0 (ρ.set i (some (.own ds))) (σ.set i (some (.ref a))) H' s' v := fun {s' v} r => by
    match s', r with
    | .val d, r => exact Den.stay (.of s) r
    | .own es, ⟨b, us, e, r, n, l⟩ => exact ⟨b, us, e, s _ _ r, n, l.stay (.of s)⟩
    | .scr es, ⟨b, us, e, r, l⟩ => exact ⟨b, us, e, r, l.stay (.of s)⟩
    | .ro es, ⟨b, us, e, r, l⟩ =>
      refine ⟨b, us, e, ?_, l.stay (.of s)⟩
      rcases r with r | ⟨r, n⟩
      · exact .inl r
      · refine .inr ⟨s _ _ r, fun j hj => ?_⟩
        have hza : b ≠ a := ne_of_none r hn
        rcases own' j hj with rfl | ⟨nj, oj⟩
        · intro e
          rcases set_get e with ⟨_, e', _⟩ | ⟨nj, _⟩
          · cases e'; exact hza rfl
          · exact nj rfl
        · rw [List.getElem?_set_ne (Ne.symm nj)]
          exact n j oj
  refine ⟨by rw [List.length_set, List.length_set]; exact q.len, fun j s' e => ?_, fun j k hj hk e => ?_, fun u s' hz => ⟨hro (q.zs u s' hz).1, (q.zs u s' hz).2⟩, q'.ext⟩
  · rcases set_get e with ⟨rfl, e', hl⟩ | ⟨hj, e'⟩
    · cases e'
      exact ⟨_, by rw [List.getElem?_set_self (by rw [q.len]; exact hl)], a, vs, rfl, ha, q.ext.free hn, h⟩
    · obtain ⟨u, h1, h2⟩ := q.slot j s' e'
      exact ⟨u, by rw [List.getElem?_set_ne (Ne.symm hj)]; exact h1, hro h2⟩
  · have key : ∀ (k' : Nat), isOwn ρ k' → k' ≠ i → (σ.set i (some (.ref a)))[i]? = (σ.set i (some (.ref a)))[k']? → False := fun k' hk' nk e' => by
      obtain ⟨es, ek⟩ := hk'
      obtain ⟨u, h1, b, us, rfl, h2, _⟩ := q.slot k' _ ek
      rw [List.getElem?_set_ne (Ne.symm nk), h1] at e'
      rcases set_get e' with ⟨_, e', _⟩ | ⟨nj, _⟩
      · cases e'; rw [hn] at h2; cases h2
      · exact nj rfl
    rcases own' j hj with ej | ⟨nj, oj⟩
    · rcases own' k hk with ek | ⟨nk, ok⟩
      · rw [ej, ek]
      · subst ej; exact (key k ok nk e).elim
    · rcases own' k hk with ek | ⟨nk, ok⟩
      · subst ek; exact (key j oj nj e.symm).elim
      · rw [List.getElem?_set_ne (Ne.symm nj), List.getElem?_set_ne (Ne.symm nk)] at e
        exact q.dst j k oj ok e
/-- one thing more is walked -/
theorem RelS.more (q : RelS K H0 Z ρ σ H) {v : V} {s : Sl} (h : SlOk K H0 ρ σ H s v) (n : ∀ ds, s ≠ .own ds) : RelS K H0 ((v, s) :: Z) ρ σ H :=
  ⟨q.len, q.slot, q.dst, fun u s' hz => (List.mem_cons.mp hz).elim (fun e => by cases e; exact ⟨h, n⟩) (q.zs u s'), q.ext⟩
theorem RelS.less {v : V} {s : Sl} (q : RelS K H0 ((v, s) :: Z) ρ σ H) : RelS K H0 Z ρ σ H :=
  ⟨q.len, q.slot, q.dst, fun u s' hz => q.zs u s' (List.mem_cons_of_mem _ hz), q.ext⟩
/-- a list just made is no name's own -/
theorem RelS.newRo (q : RelS K H0 Z ρ σ H) (s : Same H H') {a : Addr} {ds : List Dt} {vs : List V} (hn : H a = none) (ha : H' a = some (.lst vs)) (h : DenL K H' ds vs) : SlOk K H0 ρ σ H' (.ro ds) (.ref a) := by
  refine ⟨a, vs, rfl, .inr ⟨ha, fun i ⟨es, e⟩ z => ?_⟩, h⟩
  obtain ⟨u, h1, b, us, rfl, h2, _⟩ := q.slot i _ e
  rw [h1] at z
  cases z
  rw [hn] at h2
  cases h2
end
end D2
end L2

namespace L2
namespace D2
open PySem PySem.Spec PyProof.Rows

/-! ## the judgements -/
def PEd (X : Cx) (W : XW) (H0 : Hp) (e : Expr) (f : Rho → R Er) : Prop :=
  ∃ t, PE X e t ∧ ∀ Z ρ σ H Q, RelS X.K H0 Z ρ σ H → PostE X.K W (f ρ) H Q → t σ H Q
def PTd (X : Cx) (W : XW) (H0 : Hp) (e : Expr) (f : Rho → R Bool) : Prop :=
  ∃ t, PT X e t ∧ ∀ Z ρ σ H Q, RelS X.K H0 Z ρ σ H → PostB W (f ρ) H Q → t σ H Q
def PWd (X : Cx) (W : XW) (H0 : Hp) (e : Expr) (f : Rho → R Bool) : Prop :=
  ∃ t, PW X e t ∧ ∀ Z ρ σ H Q, RelS X.K H0 Z ρ σ H → PostB W (f ρ) H Q → t σ H Q
def PAd (X : Cx) (W : XW) (H0 : Hp) (es : List Expr) (f : Rho → R (List Er)) : Prop :=
  ∃ t, PA X es t ∧ ∀ Z ρ σ H Q, RelS X.K H0 Z ρ σ H → PostA X.K W (f ρ) H Q → t σ H Q

section
variable {X : Cx} {W : XW} {H0 : Hp} {a b c e : Expr} {es : List Expr} {f g h : Rho → R Er} {pos : Pos}

/-- run f, go on with what it leaves -/
theorem PostE.seq {m : R Er} {k : Er → R Er} {H : Hp} {Q : VK} (q : PostE X.K W (m.bind k) H Q) : PostE X.K W m H fun v H' => ∃ r, m = .ok r ∧ DenX X.K H' r v ∧ Same H H' ∧ PostE X.K W (k r) H' Q := by
  cases m with
  | ok r => exact fun v H' s d => ⟨r, rfl, d.1, s, PostE.from s q⟩
  | exc c fs => exact q
  | no => exact q
theorem PostE.seqB {m : R Er} {k : Er → R Bool} {H : Hp} {Q : Bool → Hp → Prop} (q : PostB W (m.bind k) H Q) : PostE X.K W m H fun v H' => ∃ r, m = .ok r ∧ DenX X.K H' r v ∧ Same H H' ∧ PostB W (k r) H' Q := by
  cases m with
  | ok r => exact fun v H' s d => ⟨r, rfl, d.1, s, PostB.from s q⟩
  | exc c fs => exact q
  | no => exact q
theorem PostE.seqA {m : R Er} {k : Er → R (List Er)} {H : Hp} {Q : List V → Hp → Prop} (q : PostA X.K W (m.bind k) H Q) : PostE X.K W m H fun v H' => ∃ r, m = .ok r ∧ DenX X.K H' r v ∧ Same H H' ∧ PostA X.K W (k r) H' Q := by
  cases m with
  | ok r => exact fun v H' s d => ⟨r, rfl, d.1, s, PostA.from s q⟩
  | exc c fs => exact q
  | no => exact q
theorem PostB.seq {m : R Bool} {k : Bool → R Bool} {H : Hp} {Q : Bool → Hp → Prop} (q : PostB W (m.bind k) H Q) : PostB W m H fun v H' => m = .ok v ∧ Same H H' ∧ PostB W (k v) H' Q := by
  cases m with
  | ok r => exact fun H' s => ⟨rfl, s, PostB.from s q⟩
  | exc c fs => exact q
  | no => exact q
theorem PostB.seqE {m : R Bool} {k : Bool → R Er} {H : Hp} {Q : VK} (q : PostE X.K W (m.bind k) H Q) : PostB W m H fun v H' => m = .ok v ∧ Same H H' ∧ PostE X.K W (k v) H' Q := by
  cases m with
  | ok r => exact fun H' s => ⟨rfl, s, PostE.from s q⟩
  | exc c fs => exact q
  | no => exact q
theorem PostA.seqE {m : R (List Er)} {k : List Er → R Er} {H : Hp} {Q : VK} (q : PostE X.K W (m.bind k) H Q) : PostA X.K W m H fun vs H' => ∃ rs, m = .ok rs ∧ ArgsX X.K H' rs vs ∧ Same H H' ∧ PostE X.K W (k rs) H' Q := by
  cases m with
  | ok r => exact fun v H' s d => ⟨r, rfl, d.x, s, PostE.from s q⟩
  | exc c fs => exact q
  | no => exact q
/-- a value, the heap as it stands -/
theorem PostE.here {r : Er} {H : Hp} {Q : VK} {v : V} (q : PostE X.K W (.ok r) H Q) (d : DenX X.K H r v) (n : ∀ ds, r ≠ .new ds) : Q v H := by
  refine q v H (.refl H) ⟨d, ?_⟩
  cases r with
  | new ds => exact absurd rfl (n ds)
  | _ => trivial
theorem PostE.val {d : Dt} {H : Hp} {Q : VK} {v : V} (q : PostE X.K W (.ok (.val d)) H Q) (k : Den X.K H d v) : Q v H := q v H (.refl H) (.val k)

/-! ### names, constants -/
theorem pd_var (i : Nat) {x : Str} (hN : X.N[i]? = some x := by rfl) (hv : Vis X.env.scope x := by first | exact Or.inl rfl | exact Or.inr (Or.inl rfl) | exact Or.inr (Or.inr rfl)) (hd : (x == ("__debug__" : Str)) = false := by decide)
    (hcd : (x == ("__classdict__" : Str)) = false := by decide) : PEd X W H0 (.Name x pos) (fun ρ => rdSl (ρ[i]?)) := by
  refine ⟨_, pv i hN hv hd hcd, fun Z ρ σ H Q rel q => ?_⟩
  (try dsimp only at q)
  cases z : rdSl (ρ[i]?) with
  | ok r =>
    rw [z] at q
    obtain ⟨v, h1, h2, h3⟩ := rel.get z
    exact ⟨v, h1, q v H (.refl H) h3⟩
  | exc c fs =>
    have : ∀ o, rdSl o ≠ R.exc c fs := by
      intro o
      match o with
      | none => intro h; cases h
      | some none => intro h; cases h
      | some (some (.val d)) => intro h; cases h
      | some (some (.ro d)) => intro h; cases h
      | some (some (.own d)) => intro h; cases h
      | some (some (.scr d)) => intro h; cases h
    exact absurd z (this _)
  | no => rw [z] at q; exact q.elim
theorem pd_int {i : Int} {j : Nat} : PEd X W H0 (.Constant (.int i) j pos) (fun _ => .ok (.val (.int i))) := ⟨_, pe_int, fun Z ρ σ H Q rel q => PostE.val (X := X) q (den_int i)⟩
theorem pd_bl {i : Bool} {j : Nat} : PEd X W H0 (.Constant (.bool i) j pos) (fun _ => .ok (.val (.bl i))) := ⟨_, pe_bl, fun Z ρ σ H Q rel q => PostE.val (X := X) q (den_bl i)⟩
theorem pd_non {j : Nat} : PEd X W H0 (.Constant .none j pos) (fun _ => .ok (.val .non)) := ⟨_, pe_non, fun Z ρ σ H Q rel q => PostE.val (X := X) q den_non⟩
theorem pd_str {x : Str} {j : Nat} (cs : List Nat) (hx : x = mkS cs := by rfl) : PEd X W H0 (.Constant (.str x) j pos) (fun _ => .ok (.val (.str cs))) :=
  ⟨_, pe_str, fun Z ρ σ H Q rel q => PostE.val (X := X) q (by rw [hx]; exact den_str cs)⟩
/-- a module's constant: an int or a text -/
theorem pd_gint {x : Str} {i : Int} {t : Tok} (hg : Gl X x) (hm : X.mg x = some (.int i t)) (hd : (x == ("__debug__" : Str)) = false := by decide) : PEd X W H0 (.Name x pos) (fun _ => .ok (.val (.int i))) :=
  ⟨_, pe_glob (v := .int i) hg hm ⟨t, rfl⟩ hd, fun Z ρ σ H Q rel q => PostE.val (X := X) q (den_int i)⟩
theorem pd_gstr {x : Str} {y : List Nat} {t : Tok} (hg : Gl X x) (hm : X.mg x = some (.str (mkS y) t)) (hd : (x == ("__debug__" : Str)) = false := by decide) : PEd X W H0 (.Name x pos) (fun _ => .ok (.val (.str y))) :=
  ⟨_, pe_glob (v := .str (mkS y)) hg hm ⟨t, rfl⟩ hd, fun Z ρ σ H Q rel q => PostE.val (X := X) q (den_str y)⟩

/-! ### two-place operations -/
/-- r does what F tells -/
def Op2 (X : Cx) (W : XW) (r : R2) (F : Er → Er → R Er) : Prop := ∀ p q x y H Q, DenX X.K H p x → DenX X.K H q y → PostE X.K W (F p q) H Q → r x y H Q
theorem pd_op {op : Operator} {r : R2} {F : Er → Er → R Er} (ho : OpR X (binaryOp op) r) (hF : Op2 X W r F) (ha : PEd X W H0 a f) (hb : PEd X W H0 b g) : PEd X W H0 (.BinOp a op b pos) (fun ρ => (f ρ).bind fun p => (g ρ).bind fun q => F p q) := by
  obtain ⟨ta, ha, fa⟩ := ha
  obtain ⟨tb, hb, fb⟩ := hb
  refine ⟨_, pe_op ho ha hb, fun Z ρ σ H Q rel q => fa Z ρ σ H _ rel ?_⟩
  (try dsimp only at q)
  have q1 := PostE.seq (X := X) q
  cases z : f ρ with
  | ok p =>
    rw [z] at q1
    intro v H1 s d
    obtain ⟨p', e, d1, s1, q1⟩ := q1 v H1 s d
    cases e
    refine fb Z ρ σ H1 _ (rel.same s1) ?_
    have q2 := PostE.seq (X := X) q1
    cases z2 : g ρ with
    | ok p2 =>
      rw [z2] at q2
      intro v2 H2 s2 d2
      obtain ⟨p', e, d3, s3, q3⟩ := q2 v2 H2 s2 d2
      cases e
      exact hF p p2 v v2 H2 Q (d1.same s3) d3 q3
    | exc c fs => rw [z2] at q2; exact q2
    | no => rw [z2] at q2; exact q2
  | exc c fs => rw [z] at q1; exact q1
  | no => rw [z] at q1; exact q1
theorem pd_cmp {op : CmpOp} {r : R2} {F : Er → Er → R Er} (ho : OpR X (compareOp op) r) (hF : Op2 X W r F) (ha : PEd X W H0 a f) (hb : PEd X W H0 b g) (hm : behindInMarks op b = false := by first | exact nomark _ | with_unfolding_all rfl) :
    PEd X W H0 (.Compare a [op] [b] pos) (fun ρ => (f ρ).bind fun p => (g ρ).bind fun q => F p q) := by
  obtain ⟨ta, ha, fa⟩ := ha
  obtain ⟨tb, hb, fb⟩ := hb
  refine ⟨_, pe_cmpR ho ha hb hm, fun Z ρ σ H Q rel q => fa Z ρ σ H _ rel ?_⟩
  (try dsimp only at q)
  have q1 := PostE.seq (X := X) q
  cases z : f ρ with
  | ok p =>
    rw [z] at q1
    intro v H1 s d
    obtain ⟨p', e, d1, s1, q1⟩ := q1 v H1 s d
    cases e
    refine fb Z ρ σ H1 _ (rel.same s1) ?_
    have q2 := PostE.seq (X := X) q1
    cases z2 : g ρ with
    | ok p2 =>
      rw [z2] at q2
      intro v2 H2 s2 d2
      obtain ⟨p', e, d3, s3, q3⟩ := q2 v2 H2 s2 d2
      cases e
      exact hF p p2 v v2 H2 Q (d1.same s3) d3 q3
    | exc c fs => rw [z2] at q2; exact q2
    | no => rw [z2] at q2; exact q2
  | exc c fs => rw [z] at q1; exact q1
  | no => rw [z] at q1; exact q1
/-- a[b] -/
theorem pd_ix {r : R2} {F : Er → Er → R Er} (ho : IxR X r) (hF : Op2 X W r F) (ha : PEd X W H0 a f) (hb : PEd X W H0 b g) (hs : PlainIx b := by exact fun _ _ => rfl) :
    PEd X W H0 (.Subscript a b pos) (fun ρ => (f ρ).bind fun p => (g ρ).bind fun q => F p q) := by
  obtain ⟨ta, ha, fa⟩ := ha
  obtain ⟨tb, hb, fb⟩ := hb
  refine ⟨_, pe_ix ho ha hb hs, fun Z ρ σ H Q rel q => fa Z ρ σ H _ rel ?_⟩
  (try dsimp only at q)
  have q1 := PostE.seq (X := X) q
  cases z : f ρ with
  | ok p =>
    rw [z] at q1
    intro v H1 s d
    obtain ⟨p', e, d1, s1, q1⟩ := q1 v H1 s d
    cases e
    refine fb Z ρ σ H1 _ (rel.same s1) ?_
    have q2 := PostE.seq (X := X) q1
    cases z2 : g ρ with
    | ok p2 =>
      rw [z2] at q2
      intro v2 H2 s2 d2
      obtain ⟨p', e, d3, s3, q3⟩ := q2 v2 H2 s2 d2
      cases e
      exact hF p p2 v v2 H2 Q (d1.same s3) d3 q3
    | exc c fs => rw [z2] at q2; exact q2
    | no => rw [z2] at q2; exact q2
  | exc c fs => rw [z] at q1; exact q1
  | no => rw [z] at q1; exact q1
/-- a op1 b op2 c -/
def chF (F G : Er → Er → R Er) (p q : Er) (k : R Er) : R Er := (F p q).bind fun z => match z with
  | .val (.bl true) => k.bind fun r => G q r
  | .val (.bl false) => .ok (.val (.bl false))
  | _ => .no
theorem pd_chain {op op' : CmpOp} {r r' : R2} {F G : Er → Er → R Er} (ho : OpR X (compareOp op) r) (ho' : OpR X (compareOp op') r') (hF : Op2 X W r F) (hG : Op2 X W r' G) (ha : PEd X W H0 a f) (hb : PEd X W H0 b g) (hc : PEd X W H0 c h)
    (hm : lastMarks [op, op'] [b, c] = false := by with_unfolding_all rfl) :
    PEd X W H0 (.Compare a [op, op'] [b, c] pos) (fun ρ => (f ρ).bind fun p => (g ρ).bind fun q => chF F G p q (h ρ)) := by
  obtain ⟨ta, ha, fa⟩ := ha
  obtain ⟨tb, hb, fb⟩ := hb
  obtain ⟨tc, hc, fc⟩ := hc
  refine ⟨_, pe_chain ho ho' ha hb hc hm, fun Z ρ σ H Q rel q => fa Z ρ σ H _ rel ?_⟩
  (try dsimp only at q)
  have q1 := PostE.seq (X := X) q
  cases z : f ρ with
  | ok p =>
    rw [z] at q1
    intro v H1 s d
    obtain ⟨p', e, d1, s1, q1⟩ := q1 v H1 s d
    cases e
    refine fb Z ρ σ H1 _ (rel.same s1) ?_
    have q2 := PostE.seq (X := X) q1
    cases z2 : g ρ with
    | ok p2 =>
      rw [z2] at q2
      intro v2 H2 s2 d2
      obtain ⟨p', e, d3, s3, q3⟩ := q2 v2 H2 s2 d2
      cases e
      refine hF p p2 v v2 H2 _ (d1.same s3) d3 ?_
      unfold chF at q3
      have q4 := PostE.seq (X := X) q3
      cases z3 : F p p2 with
      | ok p3 =>
        rw [z3] at q4
        intro v3 H3 s4 d4
        obtain ⟨p', e, d5, s5, q5⟩ := q4 v3 H3 s4 d4
        cases e
        match p3, d5, q5 with
        | .val (.bl true), d5, q5 =>
          have e3 : v3 = .bl true := by unfold DenX Den at d5; exact d5
          refine ⟨true, e3, ?_⟩
          rw [if_pos rfl]
          refine fc Z ρ σ H3 _ (((rel.same s1).same s3).same s5) ?_
          have q6 := PostE.seq (X := X) q5
          cases z4 : h ρ with
          | ok p4 =>
            rw [z4] at q6
            intro v4 H4 s6 d6
            obtain ⟨p', e, d7, s7, q7⟩ := q6 v4 H4 s6 d6
            cases e
            exact hG p2 p4 v2 v4 H4 Q ((d3.same s5).same s7) d7 q7
          | exc c fs => rw [z4] at q6; exact q6
          | no => rw [z4] at q6; exact q6
        | .val (.bl false), d5, q5 =>
          have e3 : v3 = .bl false := by unfold DenX Den at d5; exact d5
          refine ⟨false, e3, ?_⟩
          rw [if_neg Bool.false_ne_true]
          exact PostE.val (X := X) q5 (den_bl false)
        | .val .non, _, q5 => exact q5.elim
        | .val (.int _), _, q5 => exact q5.elim
        | .val (.str _), _, q5 => exact q5.elim
        | .val (.tup _), _, q5 => exact q5.elim
        | .lst _, _, q5 => exact q5.elim
        | .new _, _, q5 => exact q5.elim
        | .scr _, _, q5 => exact q5.elim
        | .typ _, _, q5 => exact q5.elim
      | exc c fs => rw [z3] at q4; exact q4
      | no => rw [z3] at q4; exact q4
    | exc c fs => rw [z2] at q2; exact q2
    | no => rw [z2] at q2; exact q2
  | exc c fs => rw [z] at q1; exact q1
  | no => rw [z] at q1; exact q1

/-! ### truth, and, or, not, if -/
def truF : Er → R Bool
  | .val .non => .ok false
  | .val (.bl b) => .ok b
  | .val (.int i) => .ok (i != 0)
  | .val (.str x) => if x.length ≤ sizeLine then .ok (!x.isEmpty) else .no
  | .val (.tup ds) => .ok (!ds.isEmpty)
  | .lst ds => .ok (!ds.isEmpty)
  | .new ds => .ok (!ds.isEmpty)
  | .scr ds => .ok (!ds.isEmpty)
  | .typ _ => .no
theorem empty_len {ds : List Dt} {vs : List V} {K : PySem.W.Frag} {H : Hp} (l : DenL K H ds vs) : (!vs.isEmpty) = !ds.isEmpty := by
  have := l.length
  cases ds <;> cases vs <;> simp_all
theorem tru_of {p : Er} {x : V} {H : Hp} {k : Bool} (d : DenX X.K H p x) (e : truF p = .ok k) : TruV X.K x H k := by
  match p, d, e with
  | .val .non, d, e => unfold DenX Den at d; subst d; cases e; exact rfl
  | .val (.bl b), d, e => unfold DenX Den at d; subst d; cases e; exact rfl
  | .val (.int i), d, e => unfold DenX Den at d; subst d; cases e; exact rfl
  | .val (.str z), d, e =>
    unfold DenX Den at d; subst d
    have e' : (if z.length ≤ sizeLine then R.ok (!z.isEmpty) else R.no) = R.ok k := e
    split at e'
    · rename_i hz
      cases e'
      refine ⟨by rw [mkS_len]; exact hz, ?_⟩
      rw [mkS_len]
      cases z with
      | nil => rfl
      | cons c r =>
        have h0 : ((r.length : Int) + 1) ≠ 0 := by omega
        simp [h0]
    · cases e'
  | .val (.tup ds), d, e =>
    unfold DenX Den at d
    obtain ⟨a, vs, rfl, s, l⟩ := d
    cases e
    exact .inr (.inl ⟨vs, s, (empty_len l).symm⟩)
  | .lst ds, ⟨a, vs, ex, s, l⟩, e => subst ex; cases e; exact .inl ⟨vs, .of s, (empty_len l).symm⟩
  | .new ds, ⟨a, vs, ex, s, l⟩, e => subst ex; cases e; exact .inl ⟨vs, .of s, (empty_len l).symm⟩
  | .scr ds, ⟨a, vs, ex, s, l⟩, e => subst ex; cases e; exact .inl ⟨vs, s, (empty_len l).symm⟩
  | .typ _, _, e => cases e
/-- a name, a call, a subscript .. as a test -/
theorem td_plain (ha : PEd X W H0 a f) (he : ∀ whole, isTrue a X.env whole = (do let v ← whole; standAt a.pos; holding [v] (truthy v)) := by intro _; rfl) : PTd X W H0 a (fun ρ => (f ρ).bind truF) := by
  obtain ⟨ta, ha, fa⟩ := ha
  refine ⟨_, pt_truth ha he, fun Z ρ σ H Q rel q => fa Z ρ σ H _ rel ?_⟩
  (try dsimp only at q)
  have q1 := PostE.seqB (X := X) q
  cases z : f ρ with
  | ok p =>
    rw [z] at q1
    intro v H1 s d
    obtain ⟨p', e, d1, s1, q1⟩ := q1 v H1 s d
    cases e
    cases z2 : truF p with
    | ok k => rw [z2] at q1; exact ⟨k, tru_of d1 z2, q1 H1 (.refl H1)⟩
    | exc c fs =>
      exfalso
      unfold truF at z2
      split at z2 <;> first | (cases z2; done) | (split at z2 <;> cases z2)
    | no => rw [z2] at q1; exact q1.elim
  | exc c fs => rw [z] at q1; exact q1
  | no => rw [z] at q1; exact q1
def asB : Er → R Bool
  | .val (.bl b) => .ok b
  | _ => .no
theorem asB_exc {p : Er} {c : Nat} {fs : List Dt} (h : asB p = .exc c fs) : False := by
  unfold asB at h
  split at h <;> cases h
theorem asB_ok {p : Er} {k : Bool} (h : asB p = .ok k) : p = .val (.bl k) := by
  unfold asB at h
  split at h
  · cases h; rfl
  · cases h
/-- a comparison as a test -/
theorem td_cmp {op : CmpOp} {r : R2} {F : Er → Er → R Er} (ho : OpR X (compareOp op) r) (hF : Op2 X W r F) (ha : PEd X W H0 a f) (hb : PEd X W H0 b g) (hm : behindInMarks op b = false := by first | exact nomark _ | with_unfolding_all rfl) :
    PTd X W H0 (.Compare a [op] [b] pos) (fun ρ => ((f ρ).bind fun p => (g ρ).bind fun q => F p q).bind asB) := by
  obtain ⟨ta, ha, fa⟩ := ha
  obtain ⟨tb, hb, fb⟩ := hb
  refine ⟨_, pt_cmpR ho ha hb hm, fun Z ρ σ H Q rel q => fa Z ρ σ H _ rel ?_⟩
  (try dsimp only at q)
  cases z : f ρ with
  | ok p =>
    rw [z] at q
    intro v H1 s d
    refine fb Z ρ σ H1 _ (rel.same s) ?_
    cases z2 : g ρ with
    | ok p2 =>
      rw [z2] at q
      intro v2 H2 s2 d2
      refine hF p p2 v v2 H2 _ (d.1.same s2) d2.1 ?_
      cases z3 : F p p2 with
      | ok p3 =>
        have q' : PostB W (asB p3) H Q := by rw [R.bind_ok, R.bind_ok, z3] at q; exact q
        intro v3 H3 s3 d3
        cases z4 : asB p3 with
        | ok k =>
          rw [z4] at q'
          have := asB_ok z4
          subst this
          have e3 : v3 = .bl k := by have := d3.1; unfold DenX Den at this; exact this
          exact ⟨k, e3, q' H3 ((s.trans s2).trans s3)⟩
        | exc c fs => exact (asB_exc z4).elim
        | no => rw [z4] at q'; exact q'.elim
      | exc c fs => rw [R.bind_ok, R.bind_ok, z3] at q; exact fun H' s' => q H' ((s.trans s2).trans s')
      | no => rw [R.bind_ok, R.bind_ok, z3] at q; exact q
    | exc c fs => rw [R.bind_ok, z2] at q; exact fun H' s' => q H' (s.trans s')
    | no => rw [R.bind_ok, z2] at q; exact q
  | exc c fs => rw [z] at q; exact q
  | no => rw [z] at q; exact q
theorem td_chain {op op' : CmpOp} {r r' : R2} {F G : Er → Er → R Er} (ho : OpR X (compareOp op) r) (ho' : OpR X (compareOp op') r') (hF : Op2 X W r F) (hG : Op2 X W r' G) (ha : PEd X W H0 a f) (hb : PEd X W H0 b g) (hc : PEd X W H0 c h)
    (hm : lastMarks [op, op'] [b, c] = false := by with_unfolding_all rfl) :
    PTd X W H0 (.Compare a [op, op'] [b, c] pos) (fun ρ => ((f ρ).bind fun p => (g ρ).bind fun q => chF F G p q (h ρ)).bind asB) := by
  obtain ⟨ta, ha, fa⟩ := ha
  obtain ⟨tb, hb, fb⟩ := hb
  obtain ⟨tc, hc, fc⟩ := hc
  refine ⟨_, pt_chain ho ho' ha hb hc hm, fun Z ρ σ H Q rel q => fa Z ρ σ H _ rel ?_⟩
  (try dsimp only at q)
  have fin : ∀ {p3 : Er} {v3 : V} {H3 : Hp}, Same H H3 → DenX X.K H3 p3 v3 → PostB W (asB p3) H Q → ∃ k, v3 = .bl k ∧ Q k H3 := fun {p3 v3 H3} s d q' => by
    cases z4 : asB p3 with
    | ok k =>
      rw [z4] at q'
      have := asB_ok z4
      subst this
      have e3 : v3 = .bl k := by unfold DenX Den at d; exact d
      exact ⟨k, e3, q' H3 s⟩
    | exc c fs => exact (asB_exc z4).elim
    | no => rw [z4] at q'; exact q'.elim
  cases z : f ρ with
  | ok p =>
    rw [z] at q
    intro v H1 s d
    refine fb Z ρ σ H1 _ (rel.same s) ?_
    cases z2 : g ρ with
    | ok p2 =>
      rw [z2] at q
      intro v2 H2 s2 d2
      refine hF p p2 v v2 H2 _ (d.1.same s2) d2.1 ?_
      rw [R.bind_ok, R.bind_ok] at q
      unfold chF at q
      cases z3 : F p p2 with
      | ok p3 =>
        rw [z3, R.bind_ok] at q
        intro v3 H3 s3 d3
        have s03 := (s.trans s2).trans s3
        match p3, d3, q with
        | .val (.bl true), d3, q =>
          have e3 : v3 = .bl true := by have := d3.1; unfold DenX Den at this; exact this
          refine ⟨true, e3, ?_⟩
          rw [if_pos rfl]
          refine fc Z ρ σ H3 _ (rel.same s03) ?_
          cases z4 : h ρ with
          | ok p4 =>
            rw [z4] at q
            intro v4 H4 s4 d4
            refine hG p2 p4 v2 v4 H4 _ ((d2.1.same s3).same s4) d4.1 ?_
            cases z5 : G p2 p4 with
            | ok p5 =>
              have q' : PostB W (asB p5) H Q := by
                have : (R.ok p4).bind (fun r => G p2 r) = R.ok p5 := z5
                rw [this] at q
                exact q
              intro v5 H5 s5 d5
              exact fin ((s03.trans s4).trans s5) d5.1 q'
            | exc c fs =>
              have : (R.ok p4).bind (fun r => G p2 r) = R.exc c fs := z5
              rw [this] at q
              exact fun H' s' => q H' ((s03.trans s4).trans s')
            | no =>
              have : (R.ok p4).bind (fun r => G p2 r) = R.no := z5
              rw [this] at q
              exact q
          | exc c fs => rw [z4] at q; exact fun H' s' => q H' (s03.trans s')
          | no => rw [z4] at q; exact q
        | .val (.bl false), d3, q =>
          have e3 : v3 = .bl false := by have := d3.1; unfold DenX Den at this; exact this
          refine ⟨false, e3, ?_⟩
          rw [if_neg Bool.false_ne_true]
          exact fin (p3 := .val (.bl false)) s03 (den_bl (K := X.K) (H := H3) false) q
        | .val .non, _, q => exact q.elim
        | .val (.int _), _, q => exact q.elim
        | .val (.str _), _, q => exact q.elim
        | .val (.tup _), _, q => exact q.elim
        | .lst _, _, q => exact q.elim
        | .new _, _, q => exact q.elim
        | .scr _, _, q => exact q.elim
        | .typ _, _, q => exact q.elim
      | exc c fs => rw [z3] at q; exact fun H' s' => q H' ((s.trans s2).trans s')
      | no => rw [z3] at q; exact q
    | exc c fs => rw [R.bind_ok, z2] at q; exact fun H' s' => q H' (s.trans s')
    | no => rw [R.bind_ok, z2] at q; exact q
  | exc c fs => rw [z] at q; exact q
  | no => rw [z] at q; exact q
variable {tf tg' : Rho → R Bool}
theorem td_not (ha : PTd X W H0 a tf) : PTd X W H0 (.UnaryOp .Not a pos) (fun ρ => (tf ρ).bind fun b => .ok !b) := by
  obtain ⟨ta, ha, fa⟩ := ha
  refine ⟨_, pt_not ha, fun Z ρ σ H Q rel q => fa Z ρ σ H _ rel ?_⟩
  (try dsimp only at q)
  cases z : tf ρ with
  | ok p => rw [z] at q; exact fun H' s => q H' s
  | exc c fs => rw [z] at q; exact q
  | no => rw [z] at q; exact q
theorem wd_pt (h : PWd X W H0 a tf) : PTd X W H0 a tf := let ⟨t, h, k⟩ := h; ⟨t, h.pt, k⟩
theorem wd_and1 (ha : PTd X W H0 a tf) : PWd X W H0 (.BoolOp .And [a] pos) tf := let ⟨t, h, k⟩ := ha; ⟨t, pw_and1 h, k⟩
theorem wd_or1 (ha : PTd X W H0 a tf) : PWd X W H0 (.BoolOp .Or [a] pos) tf := let ⟨t, h, k⟩ := ha; ⟨t, pw_or1 h, k⟩
theorem wd_and (ha : PTd X W H0 a tf) (hb : PWd X W H0 (.BoolOp .And (b :: es) pos) tg') : PWd X W H0 (.BoolOp .And (a :: b :: es) pos) (fun ρ => (tf ρ).bind fun k => if k = true then tg' ρ else .ok false) := by
  obtain ⟨ta, ha, fa⟩ := ha
  obtain ⟨tb, hb, fb⟩ := hb
  refine ⟨_, pw_and ha hb, fun Z ρ σ H Q rel q => fa Z ρ σ H _ rel ?_⟩
  (try dsimp only at q)
  cases z : tf ρ with
  | ok p =>
    rw [z] at q
    intro H' s
    cases p with
    | true => rw [if_pos rfl]; exact fb Z ρ σ H' _ (rel.same s) (PostB.from s q)
    | false => rw [if_neg Bool.false_ne_true]; exact q H' s
  | exc c fs => rw [z] at q; exact q
  | no => rw [z] at q; exact q
theorem wd_or (ha : PTd X W H0 a tf) (hb : PWd X W H0 (.BoolOp .Or (b :: es) pos) tg') : PWd X W H0 (.BoolOp .Or (a :: b :: es) pos) (fun ρ => (tf ρ).bind fun k => if k = true then .ok true else tg' ρ) := by
  obtain ⟨ta, ha, fa⟩ := ha
  obtain ⟨tb, hb, fb⟩ := hb
  refine ⟨_, pw_or ha hb, fun Z ρ σ H Q rel q => fa Z ρ σ H _ rel ?_⟩
  (try dsimp only at q)
  cases z : tf ρ with
  | ok p =>
    rw [z] at q
    intro H' s
    cases p with
    | true => rw [if_pos rfl]; exact q H' s
    | false => rw [if_neg Bool.false_ne_true]; exact fb Z ρ σ H' _ (rel.same s) (PostB.from s q)
  | exc c fs => rw [z] at q; exact q
  | no => rw [z] at q; exact q
/-- as values -/
def andF (p : Er) (k : R Er) : R Er := (asB p).bind fun b => if b = true then k else .ok (.val (.bl false))
def orF (p : Er) (k : R Er) : R Er := (asB p).bind fun b => if b = true then .ok (.val (.bl true)) else k
theorem pd_one {op : BoolOp} (ha : PEd X W H0 a f) : PEd X W H0 (.BoolOp op [a] pos) f := let ⟨t, h, k⟩ := ha; ⟨t, pe_one h, k⟩
theorem pd_and (ha : PEd X W H0 a f) (hb : PEd X W H0 (.BoolOp .And (b :: es) pos) g) : PEd X W H0 (.BoolOp .And (a :: b :: es) pos) (fun ρ => (f ρ).bind fun p => andF p (g ρ)) := by
  obtain ⟨ta, ha, fa⟩ := ha
  obtain ⟨tb, hb, fb⟩ := hb
  refine ⟨_, pe_and ha hb, fun Z ρ σ H Q rel q => fa Z ρ σ H _ rel ?_⟩
  (try dsimp only at q)
  cases z : f ρ with
  | ok p =>
    rw [z, R.bind_ok] at q
    unfold andF at q
    intro v H1 s d
    cases z2 : asB p with
    | ok k =>
      rw [z2, R.bind_ok] at q
      have := asB_ok z2
      subst this
      have e3 : v = .bl k := by have := d.1; unfold DenX Den at this; exact this
      refine ⟨k, e3, ?_⟩
      cases k with
      | true => rw [if_pos rfl] at q ⊢; exact fb Z ρ σ H1 _ (rel.same s) (PostE.from s q)
      | false => rw [if_neg Bool.false_ne_true] at q ⊢; exact PostE.val (X := X) (PostE.from s q) (den_bl false)
    | exc c fs => exact (asB_exc z2).elim
    | no => rw [z2] at q; exact q.elim
  | exc c fs => rw [z] at q; exact q
  | no => rw [z] at q; exact q
theorem pd_or (ha : PEd X W H0 a f) (hb : PEd X W H0 (.BoolOp .Or (b :: es) pos) g) : PEd X W H0 (.BoolOp .Or (a :: b :: es) pos) (fun ρ => (f ρ).bind fun p => orF p (g ρ)) := by
  obtain ⟨ta, ha, fa⟩ := ha
  obtain ⟨tb, hb, fb⟩ := hb
  refine ⟨_, pe_or ha hb, fun Z ρ σ H Q rel q => fa Z ρ σ H _ rel ?_⟩
  (try dsimp only at q)
  cases z : f ρ with
  | ok p =>
    rw [z, R.bind_ok] at q
    unfold orF at q
    intro v H1 s d
    cases z2 : asB p with
    | ok k =>
      rw [z2, R.bind_ok] at q
      have := asB_ok z2
      subst this
      have e3 : v = .bl k := by have := d.1; unfold DenX Den at this; exact this
      refine ⟨k, e3, ?_⟩
      cases k with
      | true => rw [if_pos rfl] at q ⊢; exact PostE.val (X := X) (PostE.from s q) (den_bl true)
      | false => rw [if_neg Bool.false_ne_true] at q ⊢; exact fb Z ρ σ H1 _ (rel.same s) (PostE.from s q)
    | exc c fs => exact (asB_exc z2).elim
    | no => rw [z2] at q; exact q.elim
  | exc c fs => rw [z] at q; exact q
  | no => rw [z] at q; exact q
theorem pd_not (ha : PEd X W H0 a f) : PEd X W H0 (.UnaryOp .Not a pos) (fun ρ => (f ρ).bind fun p => (asB p).bind fun k => .ok (.val (.bl !k))) := by
  obtain ⟨ta, ha, fa⟩ := ha
  refine ⟨_, pe_not ha, fun Z ρ σ H Q rel q => fa Z ρ σ H _ rel ?_⟩
  (try dsimp only at q)
  cases z : f ρ with
  | ok p =>
    rw [z, R.bind_ok] at q
    intro v H1 s d
    cases z2 : asB p with
    | ok k =>
      rw [z2, R.bind_ok] at q
      have := asB_ok z2
      subst this
      have e3 : v = .bl k := by have := d.1; unfold DenX Den at this; exact this
      exact ⟨k, e3, PostE.val (X := X) (PostE.from s q) (den_bl _)⟩
    | exc c fs => exact (asB_exc z2).elim
    | no => rw [z2] at q; exact q.elim
  | exc c fs => rw [z] at q; exact q
  | no => rw [z] at q; exact q
theorem pd_if (hc : PTd X W H0 c tf) (ha : PEd X W H0 a f) (hb : PEd X W H0 b g) : PEd X W H0 (.IfExp c a b pos) (fun ρ => (tf ρ).bind fun k => if k = true then f ρ else g ρ) := by
  obtain ⟨tc, hc, fc⟩ := hc
  obtain ⟨ta, ha, fa⟩ := ha
  obtain ⟨tb, hb, fb⟩ := hb
  refine ⟨_, pe_ifExp hc ha hb, fun Z ρ σ H Q rel q => fc Z ρ σ H _ rel ?_⟩
  (try dsimp only at q)
  cases z : tf ρ with
  | ok p =>
    rw [z, R.bind_ok] at q
    intro H1 s
    cases p with
    | true => rw [if_pos rfl] at q ⊢; exact fa Z ρ σ H1 _ (rel.same s) (PostE.from s q)
    | false => rw [if_neg Bool.false_ne_true] at q ⊢; exact fb Z ρ σ H1 _ (rel.same s) (PostE.from s q)
  | exc c fs => rw [z] at q; exact q
  | no => rw [z] at q; exact q

/-! ### arguments, displays, calls -/
variable {af : Rho → R (List Er)}
theorem ad_nil : PAd X W H0 [] (fun _ => .ok []) := ⟨_, pa_nil, fun Z ρ σ H Q rel q => q [] H (.refl H) .nil⟩
theorem ad_cons (ha : PEd X W H0 a f) (hr : PAd X W H0 es af) (hs : starEach (a :: es) X.env = (false, eval a X.env) :: starEach es X.env := by rfl) : PAd X W H0 (a :: es) (fun ρ => (f ρ).bind fun p => (af ρ).bind fun ps => .ok (p :: ps)) := by
  obtain ⟨ta, ha, fa⟩ := ha
  obtain ⟨tr, hr, fr⟩ := hr
  refine ⟨_, pa_cons ha hr hs, fun Z ρ σ H Q rel q => fa Z ρ σ H _ rel ?_⟩
  (try dsimp only at q)
  cases z : f ρ with
  | ok p =>
    rw [z, R.bind_ok] at q
    intro v H1 s d
    refine fr Z ρ σ H1 _ (rel.same s) ?_
    cases z2 : af ρ with
    | ok ps =>
      rw [z2, R.bind_ok] at q
      intro vs H2 s2 d2
      exact q (v :: vs) H2 (s.trans s2) (.cons (d.to s2) (d2.from s))
    | exc c fs => rw [z2] at q; exact fun H' s' => q H' (s.trans s')
    | no => rw [z2] at q; exact q
  | exc c fs => rw [z] at q; exact q
  | no => rw [z] at q; exact q
/-- all data -/
def vals : List Er → R (List Dt)
  | [] => .ok []
  | .val d :: r => (vals r).bind fun ds => .ok (d :: ds)
  | _ => .no
theorem vals_den {H : Hp} : ∀ {rs : List Er} {vs : List V} {ds : List Dt}, ArgsX X.K H rs vs → vals rs = .ok ds → DenL X.K H ds vs
  | _, _, _, .nil, e => by cases e; exact denl_nil
  | .val d :: r, _, ds, .cons q t, e => by
    unfold vals at e
    cases z : vals r with
    | ok es => rw [z] at e; cases e; exact denl_cons q (vals_den t z)
    | exc c fs => rw [z] at e; cases e
    | no => rw [z] at e; cases e
  | .lst _ :: _, _, _, .cons _ _, e => by cases e
  | .new _ :: _, _, _, .cons _ _, e => by cases e
  | .scr _ :: _, _, _, .cons _ _, e => by cases e
  | .typ _ :: _, _, _, .cons _ _, e => by cases e
theorem vals_exc : ∀ {rs : List Er} {c : Nat} {fs : List Dt}, vals rs ≠ .exc c fs
  | [], _, _, e => by cases e
  | .val d :: r, c, fs, e => by
    unfold vals at e
    cases z : vals r with
    | ok es => rw [z] at e; cases e
    | exc c fs => exact vals_exc z
    | no => rw [z] at e; cases e
  | .lst _ :: _, _, _, e => by cases e
  | .new _ :: _, _, _, e => by cases e
  | .scr _ :: _, _, _, e => by cases e
  | .typ _ :: _, _, _, e => by cases e
def tupF (rs : List Er) : R Er := (vals rs).bind fun ds => if ds.length ≤ sizeLine then .ok (.val (.tup ds)) else .no
def lstF (rs : List Er) : R Er := (vals rs).bind fun ds => if ds.length ≤ sizeLine then .ok (.new ds) else .no
theorem pd_tup {x1} (h : PAd X W H0 es af) : PEd X W H0 (.Tuple es x1 pos) (fun ρ => (af ρ).bind tupF) := by
  obtain ⟨t, h, k⟩ := h
  refine ⟨_, pe_tup h, fun Z ρ σ H Q rel q => k Z ρ σ H _ rel ?_⟩
  (try dsimp only at q)
  cases z : af ρ with
  | ok rs =>
    rw [z, R.bind_ok] at q
    intro vs H1 s d
    unfold tupF at q
    cases z2 : vals rs with
    | ok ds =>
      rw [z2, R.bind_ok] at q
      have l := vals_den d.x z2
      split at q
      · rename_i hz
        refine ⟨by rw [l.length]; exact hz, fun p hp => q _ _ (s.trans (same_upd hp)) (.tup hp l)⟩
      · exact q.elim
    | exc c fs => exact absurd z2 vals_exc
    | no => rw [z2] at q; exact q.elim
  | exc c fs => rw [z] at q; exact q
  | no => rw [z] at q; exact q
theorem pd_lst (h : PAd X W H0 es af) : PEd X W H0 (.List es pos) (fun ρ => (af ρ).bind lstF) := by
  obtain ⟨t, h, k⟩ := h
  refine ⟨_, pe_lst h, fun Z ρ σ H Q rel q => k Z ρ σ H _ rel ?_⟩
  (try dsimp only at q)
  cases z : af ρ with
  | ok rs =>
    rw [z, R.bind_ok] at q
    intro vs H1 s d
    unfold lstF at q
    cases z2 : vals rs with
    | ok ds =>
      rw [z2, R.bind_ok] at q
      have l := vals_den d.x z2
      split at q
      · rename_i hz
        refine ⟨by rw [l.length]; exact hz, fun p hp => q _ _ (s.trans (same_upd hp)) (.new s hp l)⟩
      · exact q.elim
    | exc c fs => exact absurd z2 vals_exc
    | no => rw [z2] at q; exact q.elim
  | exc c fs => rw [z] at q; exact q
  | no => rw [z] at q; exact q
/-- [a, b, ..][i]: a list written out and read at once, whatever its items are -/
def pickF (rs : List Er) : Er → R Er
  | .val (.int i) => match atI rs i with | some r => .ok r | none => .no
  | _ => .no
theorem pd_pick {p2 : Pos} (hl : PAd X W H0 es af) (hb : PEd X W H0 b g) (hs : PlainIx b := by exact fun _ _ => rfl) :
    PEd X W H0 (.Subscript (.List es p2) b pos) (fun ρ => (af ρ).bind fun rs => if rs.length ≤ sizeLine then (g ρ).bind fun q => pickF rs q else .no) := by
  obtain ⟨t, hl, k⟩ := hl
  obtain ⟨tb, hb, fb⟩ := hb
  refine ⟨_, pe_ix ix_list (pe_lst hl) hb hs, fun Z ρ σ H Q rel q => k Z ρ σ H _ rel ?_⟩
  (try dsimp only at q)
  cases z : af ρ with
  | ok rs =>
    rw [z, R.bind_ok] at q
    intro vs H1 s d
    have hlen := d.length
    split at q
    · rename_i hz
      refine ⟨by rw [hlen]; exact hz, fun a ha => fb Z ρ σ _ _ (rel.same (s.trans (same_upd ha))) ?_⟩
      cases z2 : g ρ with
      | ok p =>
        rw [z2, R.bind_ok] at q
        intro v H3 s3 d3
        unfold pickF at q
        split at q
        · rename_i i
          have e3 : v = .int i := by have := d3.1; unfold DenX Den at this; exact this
          cases z4 : atI rs i with
          | none => rw [z4] at q; exact q.elim
          | some r =>
            rw [z4] at q
            obtain ⟨j, h1, h2, h3, h4, h5⟩ := atI_get z4
            obtain ⟨u, hu, du⟩ := d.get h2
            have hat : atI vs i = some u := by
              have e0 : ixN rs.length i = some j := by
                unfold atI at z4
                cases z6 : ixN rs.length i with
                | none => rw [z6] at z4; cases z4
                | some j' =>
                  obtain ⟨g1, _⟩ := ixN_seq z6
                  rw [h1] at g1
                  rw [Option.some.inj g1]
              unfold atI
              rw [hlen, e0]
              exact hu
            exact ⟨a, vs, i, u, rfl, e3, .of (s3 _ _ upd_same), hat, q u H3 ((s.trans (same_upd ha)).trans s3) (du.to ((same_upd ha).trans s3))⟩
        · exact q.elim
      | exc c fs => rw [z2] at q; exact fun H' s' => q H' ((s.trans (same_upd ha)).trans s')
      | no => rw [z2] at q; exact q.elim
    · exact q.elim
  | exc c fs => rw [z] at q; exact q
  | no => rw [z] at q; exact q
def CallD (X : Cx) (W : XW) (r : List V → Hp → VK → Prop) (F : List Er → R Er) : Prop := ∀ rs vs H Q, ArgsX X.K H rs vs → PostE X.K W (F rs) H Q → r vs H Q
theorem pd_callB {id : String} {r : List V → Hp → VK → Prop} {F : List Er → R Er} {x : Str} {p : Pos} (hc : CallR X (.builtin id) r) (hF : CallD X W r F) (hg : Gl X x) (hm : X.mg x = none) (hv : bootBuiltins x = some (.builtin id)) (ha : PAd X W H0 (e :: es) af)
    (hn : x ≠ "__name__" := by decide) (hdb : (x == ("__debug__" : Str)) = false := by decide)
    (he : starEach (e :: es) X.env = (false, eval e X.env) :: starEach es X.env := by rfl) (hpl : (backTo pos (starEach es X.env)).any (·.1) = false := by rfl) : PEd X W H0 (.Call (.Name x p) (e :: es) [] pos) (fun ρ => (af ρ).bind F) := by
  obtain ⟨t, ha, k⟩ := ha
  refine ⟨_, pe_callB hc hg hm hv ha hn hdb he hpl, fun Z ρ σ H Q rel q => k Z ρ σ H _ rel ?_⟩
  (try dsimp only at q)
  cases z : af ρ with
  | ok rs => rw [z, R.bind_ok] at q; exact fun vs H1 s d => hF rs vs H1 Q d.x (PostE.from s q)
  | exc c fs => rw [z] at q; exact q
  | no => rw [z] at q; exact q
theorem pd_callTy {T : String} {r : List V → Hp → VK → Prop} {F : List Er → R Er} {x : Str} {p : Pos} (hc : CallR X (.type T) r) (hF : CallD X W r F) (hg : Gl X x) (hm : X.mg x = none) (hv : bootBuiltins x = some (.type T)) (ha : PAd X W H0 (e :: es) af)
    (hn : x ≠ "__name__" := by decide) (hdb : (x == ("__debug__" : Str)) = false := by decide)
    (he : starEach (e :: es) X.env = (false, eval e X.env) :: starEach es X.env := by rfl) (hpl : (backTo pos (starEach es X.env)).any (·.1) = false := by rfl) : PEd X W H0 (.Call (.Name x p) (e :: es) [] pos) (fun ρ => (af ρ).bind F) := by
  obtain ⟨t, ha, k⟩ := ha
  refine ⟨_, pe_callTy hc hg hm hv ha hn hdb he hpl, fun Z ρ σ H Q rel q => k Z ρ σ H _ rel ?_⟩
  (try dsimp only at q)
  cases z : af ρ with
  | ok rs => rw [z, R.bind_ok] at q; exact fun vs H1 s d => hF rs vs H1 Q d.x (PostE.from s q)
  | exc c fs => rw [z] at q; exact q
  | no => rw [z] at q; exact q
/-- a def's promise by a function of its data; nothing raises -/
def spD (K : PySem.W.Frag) (n : Nat) (F : List Er → R Er) : Sp := fun vs H Q _ => ∃ rs, ArgsX K H rs vs ∧ rs.length = n ∧ PostE K W0 (F rs) H Q
theorem pd_call {k n : Nat} {fa : Addr} {fd : FuncData} {ps : List Str} {F : List Er → R Er} {x : Str} {p : Pos} (G : FnOk X.prog X.w X.K X.mg X.base CX0 k fa fd ps (spD X.K n F)) (hr : Room k X.A) (hg : Gl X x) (hm : X.mg x = some (.ref fa))
    (hk : PySem.W.keepIn X.K (.ref fa) = true) (hb : Binds X.K fd ps []) (ha : PAd X W0 H0 (e :: es) af) (hdb : (x == ("__debug__" : Str)) = false := by decide)
    (he : starEach (e :: es) X.env = (false, eval e X.env) :: starEach es X.env := by rfl) (hpl : (backTo pos (starEach es X.env)).any (·.1) = false := by rfl) :
    PEd X W0 H0 (.Call (.Name x p) (e :: es) [] pos) (fun ρ => (af ρ).bind fun rs => if rs.length = n then F rs else .no) := by
  obtain ⟨t, ha, kk⟩ := ha
  refine ⟨_, pe_call G hr hg hm hk hb .nil pass0 ha hdb he hpl, fun Z ρ σ H Q rel q => kk Z ρ σ H _ rel ?_⟩
  (try dsimp only at q)
  cases z : af ρ with
  | ok rs =>
    rw [z, R.bind_ok] at q
    intro vs H1 s d
    split at q
    · rename_i hl
      rw [List.append_nil]
      exact ⟨rs, d.x, hl, PostE.from s q⟩
    · exact q.elim
  | exc c fs => rw [z] at q; exact q
  | no => rw [z] at q; exact q
/-- a[lo:hi] -/
def POd (X : Cx) (W : XW) (H0 : Hp) (e : Option Expr) (f : Rho → R (Option Int)) : Prop :=
  ∃ t, PO X e t ∧ ∀ Z ρ σ H Q, RelS X.K H0 Z ρ σ H → (match f ρ with | .ok o => ∀ H', Same H H' → Q o H' | .exc c fs => ∀ H', Same H H' → W c fs H' | .no => False) → t σ H Q
theorem od_none : POd X W H0 none (fun _ => .ok none) := ⟨_, po_none, fun Z ρ σ H Q rel q => q H (.refl H)⟩
def asI : Er → R (Option Int)
  | .val (.int i) => .ok (some i)
  | _ => .no
theorem asI_ok {p : Er} {o : Option Int} (h : asI p = .ok o) : ∃ i, p = .val (.int i) ∧ o = some i := by
  unfold asI at h
  split at h
  · cases h; exact ⟨_, rfl, rfl⟩
  · cases h
theorem asI_exc {p : Er} {c : Nat} {fs : List Dt} (h : asI p = .exc c fs) : False := by
  unfold asI at h
  split at h <;> cases h
theorem od_some (ha : PEd X W H0 a f) : POd X W H0 (some a) (fun ρ => (f ρ).bind asI) := by
  obtain ⟨ta, ha, fa⟩ := ha
  refine ⟨_, po_some ha, fun Z ρ σ H Q rel q => fa Z ρ σ H _ rel ?_⟩
  (try dsimp only at q)
  cases z : f ρ with
  | ok p =>
    rw [z, R.bind_ok] at q
    intro v H1 s d
    cases z2 : asI p with
    | ok o =>
      rw [z2] at q
      obtain ⟨i, rfl, rfl⟩ := asI_ok z2
      have e3 : v = .int i := by have := d.1; unfold DenX Den at this; exact this
      exact ⟨i, e3, q H1 s⟩
    | exc c fs => exact (asI_exc z2).elim
    | no => rw [z2] at q; exact q.elim
  | exc c fs => rw [z] at q; exact q
  | no => rw [z] at q; exact q
def Sl3 (X : Cx) (W : XW) (r : V → Option Int → Option Int → Hp → VK → Prop) (F : Er → Option Int → Option Int → R Er) : Prop := ∀ p lo hi x H Q, DenX X.K H p x → PostE X.K W (F p lo hi) H Q → r x lo hi H Q
theorem pd_slice {lo hi : Option Expr} {r : V → Option Int → Option Int → Hp → VK → Prop} {F : Er → Option Int → Option Int → R Er} {lf hf : Rho → R (Option Int)} {p2 : Pos} (hr : SlR X r) (hF : Sl3 X W r F) (ha : PEd X W H0 a f) (hl : POd X W H0 lo lf) (hh : POd X W H0 hi hf) :
    PEd X W H0 (.Subscript a (.Slice lo hi none p2) pos) (fun ρ => (f ρ).bind fun p => (lf ρ).bind fun l => (hf ρ).bind fun u => F p l u) := by
  obtain ⟨ta, ha, fa⟩ := ha
  obtain ⟨tl, hl, fl⟩ := hl
  obtain ⟨th, hh, fh⟩ := hh
  refine ⟨_, pe_slice hr ha hl hh, fun Z ρ σ H Q rel q => fa Z ρ σ H _ rel ?_⟩
  (try dsimp only at q)
  cases z : f ρ with
  | ok p =>
    rw [z, R.bind_ok] at q
    intro v H1 s d
    refine fl Z ρ σ H1 _ (rel.same s) ?_
    cases z2 : lf ρ with
    | ok l =>
      rw [z2, R.bind_ok] at q
      intro H2 s2
      refine fh Z ρ σ H2 _ ((rel.same s).same s2) ?_
      cases z3 : hf ρ with
      | ok u =>
        rw [z3, R.bind_ok] at q
        intro H3 s3
        exact hF p l u v H3 Q ((d.1.same s2).same s3) (PostE.from ((s.trans s2).trans s3) q)
      | exc c fs => rw [z3] at q; exact fun H' s' => q H' ((s.trans s2).trans s')
      | no => rw [z3] at q; exact q
    | exc c fs => rw [z2] at q; exact fun H' s' => q H' (s.trans s')
    | no => rw [z2] at q; exact q
  | exc c fs => rw [z] at q; exact q
  | no => rw [z] at q; exact q
end
end D2
end L2

namespace L2
namespace D2
open PySem PySem.Spec PyProof.Rows

/-! ## statements -/
inductive Fl where
  | next (ρ : Rho) | ret (r : Er) | brk (ρ : Rho) | cont (ρ : Rho)
def PostS (K : PySem.W.Frag) (W : XW) (H0 : Hp) (Z : List (V × Sl)) (D : Ends) : R Fl → Prop
  | .ok (.next ρ) => ∀ σ H, RelS K H0 Z ρ σ H → D.nx σ H
  | .ok (.ret r) => ∀ v H, Same H0 H → DenE K H0 H r v → D.rt v H
  | .ok (.brk ρ) => ∀ σ H, RelS K H0 Z ρ σ H → D.bk σ H
  | .ok (.cont ρ) => ∀ σ H, RelS K H0 Z ρ σ H → D.ct σ H
  | .exc c fs => ∀ H, Same H0 H → W c fs H
  | .no => False
def PSd (X : Cx) (W : XW) (H0 : Hp) (st : Stmt) (F : Rho → R Fl) : Prop :=
  ∃ t, PS X st t ∧ ∀ Z ρ σ H D, RelS X.K H0 Z ρ σ H → PostS X.K W H0 Z D (F ρ) → t D σ H
def PSsd (X : Cx) (W : XW) (H0 : Hp) (st : List Stmt) (F : Rho → R Fl) : Prop :=
  ∃ t, PSs X st t ∧ ∀ Z ρ σ H D, RelS X.K H0 Z ρ σ H → PostS X.K W H0 Z D (F ρ) → t D σ H
def seqF (F G : Rho → R Fl) : Rho → R Fl := fun ρ => (F ρ).bind fun fl => match fl with
  | .next ρ' => G ρ'
  | .ret r => .ok (.ret r)
  | .brk ρ' => .ok (.brk ρ')
  | .cont ρ' => .ok (.cont ρ')

section
variable {X : Cx} {W : XW} {H0 : Hp} {st : Stmt} {sts as bs : List Stmt} {F G : Rho → R Fl} {f g : Rho → R Er} {tf : Rho → R Bool} {e c : Expr} {pos : Pos}
theorem sd_nil : PSsd X W H0 [] (fun ρ => .ok (.next ρ)) := ⟨_, pss_nil, fun Z ρ σ H D rel q => q σ H rel⟩
theorem sd_one (h : PSd X W H0 st F) : PSsd X W H0 [st] F := let ⟨t, h, k⟩ := h; ⟨t, pss_one h, k⟩
theorem sd_cons (h1 : PSd X W H0 st F) (h2 : PSsd X W H0 sts G) : PSsd X W H0 (st :: sts) (seqF F G) := by
  obtain ⟨t, h1, k1⟩ := h1
  obtain ⟨u, h2, k2⟩ := h2
  refine ⟨_, pss_cons h1 h2, fun Z ρ σ H D rel q => k1 Z ρ σ H _ rel ?_⟩
  (try dsimp only at q)
  unfold seqF at q
  cases z : F ρ with
  | ok fl =>
    rw [z, R.bind_ok] at q
    cases fl with
    | next ρ' => exact fun σ' H' rel' => k2 Z ρ' σ' H' D rel' q
    | ret r => exact q
    | brk ρ' => exact q
    | cont ρ' => exact q
  | exc c fs => rw [z] at q; exact q
  | no => rw [z] at q; exact q
theorem sd_ret (he : PEd X W H0 e f) : PSd X W H0 (.Return (some e) pos) (fun ρ => (f ρ).bind fun r => .ok (.ret r)) := by
  obtain ⟨t, he, k⟩ := he
  refine ⟨_, ps_ret he, fun Z ρ σ H D rel q => k Z ρ σ H _ rel ?_⟩
  (try dsimp only at q)
  cases z : f ρ with
  | ok r => rw [z, R.bind_ok] at q; exact fun v H' s d => q v H' (rel.ext.trans s) (d.from rel.ext)
  | exc c fs => rw [z] at q; exact fun H' s => q H' (rel.ext.trans s)
  | no => rw [z] at q; exact q
/-- return x, x a list of the body's own -/
def ownF : Option (Option Sl) → R Er
  | some (some (.own ds)) => .ok (.new ds)
  | some (some (.val d)) => .ok (.val d)
  | _ => .no
theorem sd_retOwn (i : Nat) {x : Str} {p : Pos} (hN : X.N[i]? = some x := by rfl) (hv : Vis X.env.scope x := by first | exact Or.inl rfl | exact Or.inr (Or.inl rfl) | exact Or.inr (Or.inr rfl)) (hd : (x == ("__debug__" : Str)) = false := by decide)
    (hcd : (x == ("__classdict__" : Str)) = false := by decide) : PSd X W H0 (.Return (some (.Name x p)) pos) (fun ρ => (ownF (ρ[i]?)).bind fun r => .ok (.ret r)) := by
  refine ⟨_, ps_ret (pv i hN hv hd hcd), fun Z ρ σ H D rel q => ?_⟩
  (try dsimp only at q)
  cases z : ρ[i]? with
  | none => rw [z] at q; exact q.elim
  | some o =>
    cases o with
    | none => rw [z] at q; exact q.elim
    | some s =>
      rw [z] at q
      obtain ⟨v, h1, h2⟩ := rel.slot i s z
      cases s with
      | own ds =>
        obtain ⟨a, vs, rfl, h3, h4, h5⟩ := h2
        exact ⟨_, h1, q _ H rel.ext ⟨⟨a, vs, rfl, h3, h5⟩, fun b e => by cases e; exact h4⟩⟩
      | val d => exact ⟨v, h1, q v H rel.ext (.val h2)⟩
      | ro ds => exact q.elim
      | scr ds => exact q.elim
def setSl (ρ : Rho) (i : Nat) : Er → R Fl
  | .val d => .ok (.next (ρ.set i (some (.val d))))
  | .new ds => .ok (.next (ρ.set i (some (.own ds))))
  | _ => .no
theorem sd_set (i : Nat) {x : Str} {pos' : Pos} (hN : X.N.Nodup) (he : PEd X W H0 e f) (hi : X.N[i]? = some x := by rfl) (hx : Loc X.env.scope x := by first | exact Or.inl rfl | exact Or.inr rfl)
    (hs : swapsWith e (some (.Name x pos')) pos.line X.env = pure false := by rfl) (hf : X.fn x = true ∨ X.env.scope.names.lookup x = some .local := by first | exact .inl rfl | exact .inr rfl | assumption) :
    PSd X W H0 (.Assign [.Name x pos'] e pos) (fun ρ => (f ρ).bind (setSl ρ i)) := by
  obtain ⟨t, he, k⟩ := he
  refine ⟨_, ps_set hN hi hx he hs hf, fun Z ρ σ H D rel q => k Z ρ σ H _ rel ?_⟩
  (try dsimp only at q)
  cases z : f ρ with
  | ok r =>
    rw [z, R.bind_ok] at q
    intro v H' s d
    cases r with
    | val dd => exact q _ H' ((rel.same s).setVal d.1)
    | new ds =>
      obtain ⟨⟨a, vs, rfl, h1, h2⟩, h3⟩ := d
      exact q _ H' (rel.setNew s (h3 a rfl) h1 h2)
    | lst ds => exact q.elim
    | scr ds => exact q.elim
    | typ n => exact q.elim
  | exc c fs => rw [z] at q; exact fun H' s => q H' (rel.ext.trans s)
  | no => rw [z] at q; exact q
theorem sd_if (hc : PTd X W H0 c tf) (ha : PSsd X W H0 as F) (hb : PSsd X W H0 bs G) : PSd X W H0 (.If c as bs pos) (fun ρ => (tf ρ).bind fun k => if k = true then F ρ else G ρ) := by
  obtain ⟨tc, hc, kc⟩ := hc
  obtain ⟨ta, ha, ka⟩ := ha
  obtain ⟨tb, hb, kb⟩ := hb
  refine ⟨_, ps_if hc ha hb, fun Z ρ σ H D rel q => kc Z ρ σ H _ rel ?_⟩
  (try dsimp only at q)
  cases z : tf ρ with
  | ok k =>
    rw [z, R.bind_ok] at q
    intro H' s
    cases k with
    | true => rw [if_pos rfl] at q ⊢; exact ka Z ρ σ H' D (rel.same s) q
    | false => rw [if_neg Bool.false_ne_true] at q ⊢; exact kb Z ρ σ H' D (rel.same s) q
  | exc c fs => rw [z] at q; exact fun H' s => q H' (rel.ext.trans s)
  | no => rw [z] at q; exact q

/-! ### what a loop walks -/
/-- J gives the data ds, one by one, wherever P holds -/
def ItD (K : PySem.W.Frag) (J : It) (P : Hp → Prop) (ds : List Dt) : Prop := ∀ i H, P H → (i < ds.length → J.go i H ∧ ∀ x H', J.yld i H x H' → H' = H ∧ ∃ d, ds[i]? = some d ∧ Den K H d x) ∧ (ds.length ≤ i → J.stop i H)
/-- the thing walked (zx) is kept by the body; P follows -/
def PostI (K : PySem.W.Frag) (W : XW) (H0 : Hp) : R (List Dt) → Hp → (It → Hp → Prop) → List (V × Sl) → Rho → St → Prop
  | .ok ds, H, Rc, Z, ρ, σ => ∀ J H' z P, Same H H' → ItD K J P ds → RelS K H0 (z :: Z) ρ σ H' → (∀ Z' ρ' σ' H'', RelS K H0 (z :: Z') ρ' σ' H'' → P H'') → Rc J H'
  | .exc c fs, H, _, _, _, _ => ∀ H', Same H H' → W c fs H'
  | .no, _, _, _, _, _ => False
def PId (X : Cx) (W : XW) (H0 : Hp) (tg iter : Expr) (f : Rho → R (List Dt)) : Prop :=
  ∃ wi, PI X tg iter wi ∧ ∀ Z ρ σ H Rc, RelS X.K H0 Z ρ σ H → PostI X.K W H0 (f ρ) H Rc Z ρ σ → wi σ H Rc
variable {tg iter : Expr}
theorem itd_list {a : Addr} {ds : List Dt} : ItD X.K (Itl X.K a) (fun H => ∃ vs, SqL X.K H a vs ∧ DenL X.K H ds vs) ds := by
  intro i H ⟨vs, s, l⟩
  have hl := l.length
  refine ⟨fun hi => ?_, fun hi => ⟨vs, s, by omega⟩⟩
  have hv : i < vs.length := by omega
  refine ⟨⟨vs, vs[i], s, List.getElem?_eq_getElem hv⟩, fun x H' y => ?_⟩
  obtain ⟨e, y⟩ := y
  obtain ⟨d, h1, h2⟩ := l.get (y vs s)
  exact ⟨e, d, h1, h2⟩
theorem itd_tup {a : Addr} {ds : List Dt} : ItD X.K (Itt X.K a) (fun H => ∃ vs, SqT X.K H a vs ∧ DenL X.K H ds vs) ds := by
  intro i H ⟨vs, s, l⟩
  have hl := l.length
  refine ⟨fun hi => ?_, fun hi => ⟨vs, s, by omega⟩⟩
  have hv : i < vs.length := by omega
  refine ⟨⟨vs, vs[i], s, List.getElem?_eq_getElem hv⟩, fun x H' y => ?_⟩
  obtain ⟨e, y⟩ := y
  obtain ⟨d, h1, h2⟩ := l.get (y vs s)
  exact ⟨e, d, h1, h2⟩
theorem itd_str {x : List Nat} : ItD X.K (Its x) (fun _ => True) (x.map fun c => .str [c]) := by
  intro i H _
  refine ⟨fun hi => ⟨show i < x.length by simpa using hi, fun v H' y => ?_⟩, fun hi => by show x.length ≤ i; simpa using hi⟩
  obtain ⟨e, c, h1, h2⟩ := y
  refine ⟨e, .str [c], by rw [List.getElem?_map, h1]; rfl, ?_⟩
  rw [h2]
  exact den_str [c]
theorem itd_range {lo : Int} {n : Nat} : ItD X.K (Itr lo n) (fun _ => True) ((List.range n).map fun k => .int (lo + (k : Nat))) := by
  intro i H _
  refine ⟨fun hi => ⟨show i < n by simpa using hi, fun v H' y => ?_⟩, fun hi => by show n ≤ i; simpa using hi⟩
  obtain ⟨e, y⟩ := y
  have hi' : i < n := by simpa using hi
  refine ⟨e, .int (lo + i), by rw [List.getElem?_map, List.getElem?_range hi']; rfl, ?_⟩
  rw [y]
  exact den_int _
def itL : Er → R (List Dt)
  | .new ds => .ok ds
  | _ => .no
/-- a list just made -/
theorem id_list (he : PEd X W H0 iter f) : PId X W H0 tg iter (fun ρ => (f ρ).bind itL) := by
  obtain ⟨t, he, k⟩ := he
  refine ⟨_, pi_list he, fun Z ρ σ H Rc rel q => k Z ρ σ H _ rel ?_⟩
  (try dsimp only at q)
  cases z : f ρ with
  | ok r =>
    rw [z, R.bind_ok] at q
    intro v H' s d
    cases r with
    | new ds =>
      obtain ⟨⟨a, vs, rfl, h1, h2⟩, h3⟩ := d
      refine ⟨a, rfl, ⟨vs, .of h1⟩, q _ H' (.ref a, .ro ds) _ s itd_list ((rel.same s).more (rel.newRo s (h3 a rfl) h1 h2) fun es z => by cases z) fun Z' ρ' σ' H'' rel' => ?_⟩
      obtain ⟨b, us, e, r, l⟩ := (rel'.zs _ _ List.mem_cons_self).1
      cases e
      exact ⟨us, .of (r.rd rel'.ext), l⟩
    | scr ds => exact q.elim
    | typ n => exact q.elim
    | val d => exact q.elim
    | lst ds => exact q.elim
  | exc c fs => rw [z] at q; exact q
  | no => rw [z] at q; exact q
def itT : Er → R (List Dt)
  | .val (.tup ds) => .ok ds
  | _ => .no
theorem id_tup (he : PEd X W H0 iter f) : PId X W H0 tg iter (fun ρ => (f ρ).bind itT) := by
  obtain ⟨t, he, k⟩ := he
  refine ⟨_, pi_tup he, fun Z ρ σ H Rc rel q => k Z ρ σ H _ rel ?_⟩
  (try dsimp only at q)
  cases z : f ρ with
  | ok r =>
    rw [z, R.bind_ok] at q
    intro v H' s d
    unfold itT at q
    split at q
    · rename_i ds
      have dd := d.1
      have dd' : Den X.K H' (.tup ds) v := dd
      unfold Den at dd'
      obtain ⟨a, vs, rfl, h1, h2⟩ := dd'
      refine ⟨a, rfl, ⟨vs, h1⟩, q _ H' (.ref a, .val (.tup ds)) _ s itd_tup ((rel.same s).more dd fun es z => by cases z) fun Z' ρ' σ' H'' rel' => ?_⟩
      have r : Den X.K H'' (.tup ds) (.ref a) := (rel'.zs _ _ List.mem_cons_self).1
      unfold Den at r
      obtain ⟨b, us, e, r, l⟩ := r
      cases e
      exact ⟨us, r, l⟩
    · exact q.elim
  | exc c fs => rw [z] at q; exact q
  | no => rw [z] at q; exact q
def itS : Er → R (List Dt)
  | .val (.str x) => .ok (x.map fun c => .str [c])
  | _ => .no
theorem id_str (he : PEd X W H0 iter f) : PId X W H0 tg iter (fun ρ => (f ρ).bind itS) := by
  obtain ⟨t, he, k⟩ := he
  refine ⟨_, pi_str he, fun Z ρ σ H Rc rel q => k Z ρ σ H _ rel ?_⟩
  (try dsimp only at q)
  cases z : f ρ with
  | ok r =>
    rw [z, R.bind_ok] at q
    intro v H' s d
    unfold itS at q
    split at q
    · rename_i x
      have dd := d.1
      have dd' : Den X.K H' (.str x) v := dd
      unfold Den at dd'
      refine ⟨x, dd', q _ H' (v, .val (.str x)) _ s itd_str ((rel.same s).more dd fun es z => by cases z) fun _ _ _ _ _ => trivial⟩
    · exact q.elim
  | exc c fs => rw [z] at q; exact q
  | no => rw [z] at q; exact q
def rng1F : List Er → R (List Dt)
  | [.val (.int j)] => if -(2 ^ 62) ≤ j ∧ j < 2 ^ 62 then .ok ((List.range j.toNat).map fun k => .int (k : Nat)) else .no
  | _ => .no
variable {af : Rho → R (List Er)} {p : Pos} {a b : Expr}
theorem id_range1 (hg : Gl X "range") (hm : X.mg "range" = none) (ha : PAd X W H0 [a] af) (hs : starEach [a] X.env = [(false, eval a X.env)] := by rfl) : PId X W H0 tg (.Call (.Name "range" p) [a] [] pos) (fun ρ => (af ρ).bind rng1F) := by
  obtain ⟨t, ha, k⟩ := ha
  refine ⟨_, pi_range1 hg hm ha hs, fun Z ρ σ H Rc rel q => k Z ρ σ H _ rel ?_⟩
  (try dsimp only at q)
  cases z : af ρ with
  | ok rs =>
    rw [z, R.bind_ok] at q
    intro vs H' s d
    match rs, d, q with
    | [.val (.int j)], .cons (v := v0) dj .nil, q =>
      have e : v0 = V.int j := by have := dj.1; unfold DenX Den at this; exact this
      subst e
      have q' : PostI X.K W H0 (if -(2 ^ 62) ≤ j ∧ j < 2 ^ 62 then .ok ((List.range j.toNat).map fun k => .int (k : Nat)) else .no) H Rc Z ρ σ := q
      by_cases hj : -(2 ^ 62) ≤ j ∧ j < 2 ^ 62
      · rw [if_pos hj] at q'
        refine ⟨j, rfl, hj.1, hj.2, ?_⟩
        have := itd_range (X := X) (lo := 0) (n := j.toNat)
        simp only [Int.zero_add] at this
        exact q' _ H' (.int j, .val (.int j)) _ s this ((rel.same s).more (s := .val (.int j)) (den_int (K := X.K) (H := H') j) fun es z => by cases z) fun _ _ _ _ _ => trivial
      · rw [if_neg hj] at q'
        exact q'.elim
    | [], _, q => exact q.elim
    | [.val .non], _, q => exact q.elim
    | [.val (.bl _)], _, q => exact q.elim
    | [.val (.str _)], _, q => exact q.elim
    | [.val (.tup _)], _, q => exact q.elim
    | [.lst _], _, q => exact q.elim
    | [.new _], _, q => exact q.elim
    | [.scr _], _, q => exact q.elim
    | [.typ _], _, q => exact q.elim
    | .val .non :: _ :: _, _, q => exact q.elim
    | .val (.bl _) :: _ :: _, _, q => exact q.elim
    | .val (.int _) :: _ :: _, _, q => exact q.elim
    | .val (.str _) :: _ :: _, _, q => exact q.elim
    | .val (.tup _) :: _ :: _, _, q => exact q.elim
    | .lst _ :: _ :: _, _, q => exact q.elim
    | .new _ :: _ :: _, _, q => exact q.elim
    | .scr _ :: _ :: _, _, q => exact q.elim
    | .typ _ :: _ :: _, _, q => exact q.elim
  | exc c fs => rw [z] at q; exact q
  | no => rw [z] at q; exact q

/-! ### for -/
def forF (i : Nat) (body : Rho → R Fl) : List Dt → Rho → R Fl
  | [], ρ => .ok (.next ρ)
  | d :: ds, ρ => (body (ρ.set i (some (.val d)))).bind fun fl => match fl with
    | .next ρ' => forF i body ds ρ'
    | .cont ρ' => forF i body ds ρ'
    | .brk ρ' => .ok (.next ρ')
    | .ret r => .ok (.ret r)
theorem sd_for (i : Nat) {x : Str} {px : Pos} {itf : Rho → R (List Dt)} (hN : X.N.Nodup) (hp : PassesOwn (model X.prog X.w) X.A X.env X.xe) (hc : X.calm = true) (hi : PId X W H0 (.Name x px) iter itf) (hb : PSsd X W H0 as F)
    (hx : X.N[i]? = some x := by rfl) (hl : Loc X.env.scope x := by first | exact Or.inl rfl | exact Or.inr rfl) (hf : X.fn x = true ∨ X.env.scope.names.lookup x = some .local := by first | exact .inl rfl | exact .inr rfl | assumption)
    (hs : ∀ y, foldedSetIterable iter X.env y = pure y := by intro _; rfl) : PSd X W H0 (.For (.Name x px) iter as [] pos) (fun ρ => (itf ρ).bind fun ds => forF i F ds ρ) := by
  obtain ⟨wi, hi, ki⟩ := hi
  obtain ⟨tb, hb, kb⟩ := hb
  refine ⟨_, ps_for hp hc hi (pg_name hN hx hl hf) hb hs, fun Z ρ σ H D rel q => ki Z ρ σ H _ rel ?_⟩
  (try dsimp only at q)
  cases z : itf ρ with
  | ok ds =>
    rw [z, R.bind_ok] at q
    intro J H' zz P s it rel' hP
    refine ⟨fun n m σ1 H1 => m = ds.length - n ∧ n ≤ ds.length ∧ ∃ ρ1, RelS X.K H0 (zz :: Z) ρ1 σ1 H1 ∧ PostS X.K W H0 Z D (forF i F (ds.drop n) ρ1), ⟨_, rfl, Nat.zero_le _, ρ, rel', by simpa using q⟩, ?_⟩
    rintro n m σ1 H1 ⟨rfl, hn, ρ1, rel1, q1⟩
    obtain ⟨i1, i2⟩ := it n H1 (hP Z ρ1 σ1 H1 rel1)
    by_cases hlt : n < ds.length
    · obtain ⟨go, yl⟩ := i1 hlt
      refine .inr ⟨go, fun σ2 H2 => ∃ ρ2, RelS X.K H0 (zz :: Z) ρ2 σ2 H2 ∧ PostS X.K W H0 Z D (forF i F (ds.drop (n + 1)) ρ2), fun σ2 H2 ⟨ρ2, r2, q2⟩ => ⟨ds.length - (n + 1), by omega, rfl, hlt, ρ2, r2, q2⟩, fun v H2 y => ?_⟩
      obtain ⟨rfl, d, hd, dv⟩ := yl v H2 y
      have hdrop : ds.drop n = d :: ds.drop (n + 1) := by
        rw [List.drop_eq_getElem_cons hlt]
        have := List.getElem?_eq_getElem hlt
        rw [hd] at this
        rw [← Option.some.inj this]
      rw [hdrop] at q1
      unfold forF at q1
      refine kb (zz :: Z) (ρ1.set i (some (.val d))) _ _ _ (rel1.setVal dv) ?_
      cases z2 : F (ρ1.set i (some (.val d))) with
      | ok fl =>
        rw [z2, R.bind_ok] at q1
        cases fl with
        | next ρ' => exact fun σ2 H2 r2 => ⟨ρ', r2, q1⟩
        | cont ρ' => exact fun σ2 H2 r2 => ⟨ρ', r2, q1⟩
        | brk ρ' => exact fun σ2 H2 r2 => q1 σ2 H2 r2.less
        | ret r => exact q1
      | exc c fs => rw [z2] at q1; exact q1
      | no => rw [z2] at q1; exact q1
    · have e : n = ds.length := by omega
      subst e
      refine .inl ⟨i2 (Nat.le_refl _), ?_⟩
      rw [List.drop_length] at q1
      exact q1 σ1 H1 rel1.less
  | exc c fs => rw [z] at q; exact fun H' s => q H' (rel.ext.trans s)
  | no => rw [z] at q; exact q

/-! ### comprehensions -/
/-- a name of the block: a captured list is only read there -/
def capSl : Option Sl → Option Sl
  | some (.own ds) => some (.ro ds)
  | s => s
def blk (d : Dt) (idx : List Nat) (ρ : Rho) : Rho := some (.val d) :: idx.map fun i => capSl (ρ[i]?).join
def compF (cf : Rho → R Bool) (ef : Rho → R Er) (idx : List Nat) (ρ : Rho) : List Dt → R (List Dt)
  | [] => .ok []
  | d :: ds => (cf (blk d idx ρ)).bind fun k => if k = true then (ef (blk d idx ρ)).bind fun r => match r with
      | .val y => (compF cf ef idx ρ ds).bind fun out => .ok (y :: out)
      | _ => .no
    else compF cf ef idx ρ ds
theorem no_own {d : Dt} {idx : List Nat} {ρ : Rho} {i : Nat} (h : isOwn (blk d idx ρ) i) : False := by
  obtain ⟨ds, e⟩ := h
  cases i with
  | zero => cases e
  | succ j =>
    have e' : (idx.map fun i => capSl (ρ[i]?).join)[j]? = some (some (.own ds)) := e
    rw [List.getElem?_map] at e'
    cases z : idx[j]? with
    | none => rw [z] at e'; cases e'
    | some k =>
      rw [z] at e'
      have e2 : capSl (ρ[k]?).join = some (.own ds) := Option.some.inj e'
      cases z2 : (ρ[k]?).join with
      | none => rw [z2] at e2; cases e2
      | some s => rw [z2] at e2; cases s <;> cases e2
theorem rel_blk {K : PySem.W.Frag} {Z : List (V × Sl)} {ρ : Rho} {σ : St} {H : Hp} (q : RelS K H0 Z ρ σ H) {d : Dt} {x : V} (idx : List Nat) (h : Den K H d x) : RelS K H0 Z (blk d idx ρ) (some x :: caps σ idx) H := by
  have mv : ∀ {s : Sl} {v : V}, SlOk K H0 ρ σ H s v → (∀ ds, s ≠ .own ds) → SlOk K H0 (blk d idx ρ) (some x :: caps σ idx) H s v := fun {s v} r n => by
    match s, r with
    | .val d, r => exact r
    | .own ds, _ => exact absurd rfl (n ds)
    | .scr ds, r => exact r
    | .ro ds, ⟨a, vs, e, r, l⟩ =>
      refine ⟨a, vs, e, ?_, l⟩
      rcases r with r | ⟨r, _⟩
      · exact .inl r
      · exact .inr ⟨r, fun i hi => (no_own hi).elim⟩
  refine ⟨by unfold blk; rw [List.length_cons, List.length_cons, caps_length, List.length_map], fun i s e => ?_, fun i j hi => (no_own hi).elim, fun v s hz => ⟨mv (q.zs v s hz).1 (q.zs v s hz).2, (q.zs v s hz).2⟩, q.ext⟩
  cases i with
  | zero => cases e; exact ⟨x, rfl, h⟩
  | succ j =>
    have e' : (idx.map fun i => capSl (ρ[i]?).join)[j]? = some (some s) := e
    rw [List.getElem?_map] at e'
    cases z : idx[j]? with
    | none => rw [z] at e'; cases e'
    | some k =>
      rw [z] at e'
      have e2 : capSl (ρ[k]?).join = some s := Option.some.inj e'
      have key : ∀ s0, ρ[k]? = some (some s0) → ∃ v, (some x :: caps σ idx)[j + 1]? = some (some v) ∧ SlOk K H0 ρ σ H s0 v := fun s0 e0 => by
        obtain ⟨v, h1, h2⟩ := q.slot k s0 e0
        refine ⟨v, ?_, h2⟩
        show (caps σ idx)[j]? = some (some v)
        unfold caps
        rw [List.getElem?_map, z]
        show some (σ[k]?).join = some (some v)
        rw [h1]; rfl
      cases z2 : ρ[k]? with
      | none => rw [z2] at e2; cases e2
      | some o =>
        cases o with
        | none => rw [z2] at e2; cases e2
        | some s0 =>
          obtain ⟨v, h1, h2⟩ := key s0 z2
          rw [z2] at e2
          refine ⟨v, h1, ?_⟩
          cases s0 with
          | val d' => cases e2; exact mv h2 fun ds z => by cases z
          | ro ds => cases e2; exact mv h2 fun ds z => by cases z
          | scr ds => cases e2; exact mv h2 fun ds z => by cases z
          | own ds =>
            cases e2
            obtain ⟨a, vs, e, r, n, l⟩ := h2
            exact ⟨a, vs, e, .inr ⟨r, fun i hi => (no_own hi).elim⟩, l⟩
def PIfD (X : Cx) (W : XW) (H0 : Hp) (ifs : List Expr) (f : Rho → R Bool) : Prop :=
  ∃ t, PIfs X ifs t ∧ ∀ Z ρ σ H Q, RelS X.K H0 Z ρ σ H → PostB W (f ρ) H Q → t σ H Q
theorem ifd_nil : PIfD X W H0 [] (fun _ => .ok true) := ⟨_, pifs_nil, fun Z ρ σ H Q rel q => q H (.refl H)⟩
theorem ifd_one (h : PTd X W H0 c tf) : PIfD X W H0 [c] tf := let ⟨t, h, k⟩ := h; ⟨t, pifs_one h, k⟩
theorem pd_comp {elt : Expr} {ifs : List Expr} {sc : Scope} {x : Str} {px : Pos} {itf : Rho → R (List Dt)} {cf : Rho → R Bool} {ef : Rho → R Er} (osc : Scope) (N : List Str) (idx : List Nat)
    (hi : PId X W0 H0 (.Name x px) iter itf) (hcalm : X.calm = true)
    (hc : ∀ C s₂ H1 fp, PIfD (cxComp X sc [x] idx C s₂ H1 fp) W0 H0 ifs cf) (he : ∀ C s₂ H1 fp, PEd (cxComp X sc [x] idx C s₂ H1 fp) W0 H0 elt ef)
    (e1 : X.env.scope = osc := by rfl) (e2 : X.N = N := by rfl) (hB : compB osc N sc idx = true := by decide +kernel) (hN : ([x] ++ idx.map fun i => (N[i]?).getD Str.empty).Nodup := by decide +kernel)
    (hx : (relS sc osc).lookup x = some .local := by decide +kernel)
    (hs : ∀ y, foldedSetIterable iter X.env y = pure y := by intro _; rfl) :
    PEd X W0 H0 (.ListComp elt [⟨.Name x px, iter, ifs, 0⟩] sc pos) (fun ρ => (itf ρ).bind fun ds => if ds.length < 1000000 then (compF cf ef idx ρ ds).bind fun out => .ok (.new out) else .no) := by
  obtain ⟨wi, hi, ki⟩ := hi
  subst e1 e2
  have big : (1000000 : Nat) < sizeLine := by rw [sizeLine_eq]; decide
  have hg : ∀ C s₂ H1 fp, PG (cxComp X sc [x] idx C s₂ H1 fp) (.Name x px) (gName 0) := fun C s₂ H1 fp => pg_name hN rfl (.inl hx) (.inr hx)
  refine ⟨_, pe_comp [x] idx hi hcalm hB hg (fun C s₂ H1 fp => (Classical.choose_spec (hc C s₂ H1 fp)).1) (fun C s₂ H1 fp => (Classical.choose_spec (he C s₂ H1 fp)).1) hs, fun Z ρ σ H Q rel q => ki Z ρ σ H _ rel ?_⟩
  (try dsimp only at q)
  cases z : itf ρ with
  | ok ds =>
    rw [z, R.bind_ok] at q
    split at q
    · rename_i hlen
      intro J H' zz P s it rel' hP
      refine ⟨fun n m ys H2 => m = ds.length - n ∧ n ≤ ds.length ∧ ys.length ≤ n ∧ Same H H2 ∧ RelS X.K H0 (zz :: Z) ρ σ H2 ∧ ∃ outs, DenL X.K H2 outs ys ∧ PostE X.K W0 ((compF cf ef idx ρ (ds.drop n)).bind fun o => .ok (.new (outs ++ o))) H Q,
        ⟨_, rfl, Nat.zero_le _, Nat.le_refl _, s, rel', [], denl_nil, by simpa using q⟩, ?_⟩
      rintro n m ys H2 ⟨rfl, hn, hy, s2, rel2, outs, l, q2⟩
      obtain ⟨i1, i2⟩ := it n H2 (hP Z ρ σ H2 rel2)
      refine ⟨by omega, ?_⟩
      by_cases hlt : n < ds.length
      · obtain ⟨go, yl⟩ := i1 hlt
        refine .inr ⟨go, by omega, fun v H3 y τ hτ => ?_⟩
        obtain ⟨rfl, d, hd, dv⟩ := yl v H3 y
        have hdrop : ds.drop n = d :: ds.drop (n + 1) := by
          rw [List.drop_eq_getElem_cons hlt]
          have := List.getElem?_eq_getElem hlt
          rw [hd] at this
          rw [← Option.some.inj this]
        rw [hdrop] at q2
        unfold compF at q2
        have eσ : (τ ++ caps σ idx).set 0 (some v) = some v :: caps σ idx := by
          match τ, hτ with
          | [t0], _ => rfl
        refine ⟨⟨[some v], by rw [eσ]; rfl, rfl⟩, fun C s₂ fp => ?_⟩
        rw [eσ]
        have relb := rel_blk rel2 idx dv
        refine (Classical.choose_spec (hc C s₂ H' fp)).2 (zz :: Z) (blk d idx ρ) _ H3 _ relb ?_
        cases z3 : cf (blk d idx ρ) with
        | ok k =>
          rw [z3, R.bind_ok] at q2
          intro H4 s4
          cases k with
          | false =>
            rw [if_neg Bool.false_ne_true] at q2 ⊢
            exact ⟨ds.length - (n + 1), by omega, rfl, hlt, by omega, s2.trans s4, rel2.same s4, outs, l.stay (.of s4), q2⟩
          | true =>
            rw [if_pos rfl] at q2 ⊢
            refine (Classical.choose_spec (he C s₂ H' fp)).2 (zz :: Z) (blk d idx ρ) _ H4 _ (relb.same s4) ?_
            cases z4 : ef (blk d idx ρ) with
            | ok r =>
              rw [z4, R.bind_ok] at q2
              intro u H5 s5 du
              have s45 := s4.trans s5
              cases r with
              | val yd =>
                have q3 : PostE X.K W0 ((compF cf ef idx ρ (ds.drop (n + 1))).bind fun o => .ok (.new ((outs ++ [yd]) ++ o))) H Q := by
                  have q2' : PostE X.K W0 (((compF cf ef idx ρ (ds.drop (n + 1))).bind fun out => R.ok (yd :: out)).bind fun o => .ok (.new (outs ++ o))) H Q := q2
                  cases z5 : compF cf ef idx ρ (ds.drop (n + 1)) with
                  | ok o =>
                    rw [z5] at q2'
                    have e : (outs ++ [yd]) ++ o = outs ++ (yd :: o) := by simp
                    show PostE X.K W0 (.ok (.new ((outs ++ [yd]) ++ o))) H Q
                    rw [e]
                    exact q2'
                  | exc c fs => rw [z5] at q2'; exact q2'
                  | no => rw [z5] at q2'; exact q2'
                exact ⟨ds.length - (n + 1), by omega, rfl, hlt, by rw [List.length_append, List.length_singleton]; omega, s2.trans s45, rel2.same s45, outs ++ [yd], (l.stay (.of s45)).append (denl_cons du.1 denl_nil), q3⟩
              | lst _ => exact q2.elim
              | new _ => exact q2.elim
              | scr _ => exact q2.elim
              | typ _ => exact q2.elim
            | exc c fs => rw [z4] at q2; exact fun H5 s5 => q2 H5 ((s2.trans s4).trans s5)
            | no => rw [z4] at q2; exact q2
        | exc c fs => rw [z3] at q2; exact fun H5 s5 => q2 H5 (s2.trans s5)
        | no => rw [z3] at q2; exact q2
      · have e : n = ds.length := by omega
        subst e
        rw [List.drop_length] at q2
        have q3 : PostE X.K W0 (.ok (.new (outs ++ []))) H Q := q2
        rw [List.append_nil] at q3
        exact .inl ⟨i2 (Nat.le_refl _), fun D hD => q3 _ _ (s2.trans (same_upd hD)) (.new s2 hD l)⟩
    · exact q.elim
  | exc c fs => rw [z] at q; exact q
  | no => rw [z] at q; exact q
end

/-! ## defs -/
def argSl : Er → Option Sl
  | .val d => some (.val d)
  | .lst ds => some (.ro ds)
  | .new ds => some (.ro ds)
  | .scr ds => some (.scr ds)
  | .typ _ => none
def startR (N : List Str) (rs : List Er) : Rho := rs.map argSl ++ List.replicate (N.length - rs.length) none
def finF : R Fl → R Er
  | .ok (.next _) => .ok (.val .non)
  | .ok (.ret r) => .ok r
  | .ok (.brk _) => .no
  | .ok (.cont _) => .no
  | .exc c fs => .exc c fs
  | .no => .no
theorem args_get {K : PySem.W.Frag} {H : Hp} : ∀ {rs : List Er} {vs : List V} {i : Nat} {r : Er}, ArgsX K H rs vs → rs[i]? = some r → ∃ v, vs[i]? = some v ∧ DenX K H r v
  | _, _, _, _, .nil, e => by simp at e
  | _, _, 0, _, .cons q t, e => by simp at e; subst e; exact ⟨_, rfl, q⟩
  | _, _, i + 1, _, .cons q t, e => by
    obtain ⟨v, h1, h2⟩ := args_get (i := i) t (by simpa using e)
    exact ⟨v, by simpa using h1, h2⟩
theorem start_get {N : List Str} {rs : List Er} {i : Nat} {s : Sl} (e : (startR N rs)[i]? = some (some s)) : ∃ r, rs[i]? = some r ∧ argSl r = some s := by
  unfold startR at e
  by_cases hi : i < rs.length
  · rw [List.getElem?_append_left (by simpa using hi), List.getElem?_map] at e
    cases z : rs[i]? with
    | none => rw [z] at e; cases e
    | some r => rw [z] at e; exact ⟨r, rfl, Option.some.inj e⟩
  · rw [List.getElem?_append_right (by simpa using hi), List.getElem?_replicate] at e
    split at e <;> cases e
theorem rel_start {K : PySem.W.Frag} {N : List Str} {H : Hp} {rs : List Er} {vs : List V} (a : ArgsX K H rs vs) (hl : rs.length ≤ N.length) : RelS K H [] (startR N rs) (start N vs) H := by
  have hlen := a.length
  have noown : ∀ i, isOwn (startR N rs) i → False := fun i ⟨ds, e⟩ => by
    obtain ⟨r, _, h⟩ := start_get e
    cases r <;> cases h
  refine ⟨?_, fun i s e => ?_, fun i j hi => (noown i hi).elim, (fun v s h => nomatch h), Same.refl H⟩
  · unfold start startR
    rw [List.length_append, List.length_append, List.length_map, List.length_map, List.length_replicate, List.length_replicate, hlen]
  · obtain ⟨r, h1, h2⟩ := start_get e
    obtain ⟨v, h3, h4⟩ := args_get a h1
    have hi : i < vs.length := (List.getElem?_eq_some_iff.mp h3).1
    refine ⟨v, ?_, ?_⟩
    · unfold start
      rw [List.getElem?_append_left (by simpa using hi), List.getElem?_map, h3]; rfl
    · cases r with
      | val d => cases h2; exact h4
      | lst ds => cases h2; obtain ⟨a, us, e, h, l⟩ := h4; exact ⟨a, us, e, .inl h, l⟩
      | new ds => cases h2; obtain ⟨a, us, e, h, l⟩ := h4; exact ⟨a, us, e, .inl h, l⟩
      | scr ds => cases h2; exact h4
      | typ n => cases h2
section
variable {P : Program} {w : World} {K : PySem.W.Frag} {mg : Str → Option Value} {base : Heap}
/-- THE RULE for a def, by data -/
theorem okD {x qual : Str} {st : Stmt} {f : Addr} {fd : FuncData} {N ps : List Str} {k : Nat} (Fb : Rho → R Fl) (F : Fun K x qual st f fd) (S : FnScope N ps (defScope st))
    (hbody : ∀ (cdv : Value) (A : Around) (outer : List Env) (s : Shared) (H : Hp) (E : XK), Room k (A.deeper (envOfC qual (defScope st) s.heap.objs.size f cdv)) →
      PSsd (cxOf CX0 P w K mg base N qual (defScope st) f cdv A outer s H E).nox W0 H (defBody st) Fb) :
    FnOk P w K mg base CX0 (k + 1) f fd ps (spD K ps.length fun rs => finF (Fb (startR N rs))) := by
  refine F.ok S (fun vs H Q E h => ?_) (fun cdv A outer s H vs Q E hr h => ?_)
  · obtain ⟨rs, a, hl, _⟩ := h
    rw [a.length, hl]
  · obtain ⟨rs, a, hl, q⟩ := h
    obtain ⟨t, ht, kk⟩ := hbody cdv A outer s H E hr
    have hpl : ps.length ≤ N.length := by have := congrArg List.length S.pre; rw [List.length_take] at this; omega
    refine ⟨t, ht, kk [] (startR N rs) (start N vs) H _ (rel_start a (by omega)) ?_⟩
    show PostS K W0 H [] _ (Fb (startR N rs))
    dsimp only at q
    cases z : Fb (startR N rs) with
    | ok fl =>
      rw [z] at q
      cases fl with
      | next ρ => exact fun σ H' rel => q .non H' rel.ext (.val den_non)
      | ret r => exact q
      | brk ρ => exact q.elim
      | cont ρ => exact q.elim
    | exc c fs => rw [z] at q; exact q
    | no => rw [z] at q; exact q
theorem FnOk.same {CX : CXT} {k n : Nat} {f : Addr} {fd : FuncData} {ps : List Str} {F G : List Er → R Er} (h : FnOk P w K mg base CX k f fd ps (spD K n F)) (e : ∀ rs, rs.length = n → (G rs = .no ∨ F rs = G rs)) : FnOk P w K mg base CX k f fd ps (spD K n G) :=
  FnOk.imp h fun vs H Q E ⟨rs, a, hl, q⟩ => ⟨rs, a, hl, by
    rcases e rs hl with z | z
    · rw [z] at q; exact q.elim
    · rw [z]; exact q⟩
end
end D2
end L2

namespace L2
namespace D2
open PySem PySem.Spec PyProof.Rows
section
variable {X : Cx} {W : XW} {H0 : Hp} {pos : Pos}

/-! ## the operations by data -/
theorem den_int_of {K : PySem.W.Frag} {H : Hp} {i : Int} {v : V} (d : DenX K H (.val (.int i)) v) : v = .int i := by unfold DenX Den at d; exact d
theorem den_str_of {K : PySem.W.Frag} {H : Hp} {x : List Nat} {v : V} (d : DenX K H (.val (.str x)) v) : v = .str (mkS x) := by unfold DenX Den at d; exact d
theorem den_bl_of {K : PySem.W.Frag} {H : Hp} {x : Bool} {v : V} (d : DenX K H (.val (.bl x)) v) : v = .bl x := by unfold DenX Den at d; exact d
theorem den_non_of {K : PySem.W.Frag} {H : Hp} {v : V} (d : DenX K H (.val .non) v) : v = .non := by unfold DenX Den at d; exact d
theorem den_tup_of {K : PySem.W.Frag} {H : Hp} {ds : List Dt} {v : V} (d : DenX K H (.val (.tup ds)) v) : ∃ a vs, v = .ref a ∧ SqT K H a vs ∧ DenL K H ds vs := by unfold DenX Den at d; exact d
/-- ints in -/
def iiF (C : Int → Int → Prop) [∀ i j, Decidable (C i j)] (g : Int → Int → Int) : Er → Er → R Er
  | .val (.int i), .val (.int j) => if C i j then .ok (.val (.int (g i j))) else .no
  | _, _ => .no
def ibF (g : Int → Int → Bool) : Er → Er → R Er
  | .val (.int i), .val (.int j) => .ok (.val (.bl (g i j)))
  | _, _ => .no
theorem op2_ii {C C' : Int → Int → Prop} [∀ i j, Decidable (C i j)] {g : Int → Int → Int} (h : ∀ i j, C i j → C' i j) : Op2 X W (rI C' fun i j => .int (g i j)) (iiF C g) := by
  intro p q x y H Q dp dq post
  unfold iiF at post
  split at post
  · rename_i i j
    split at post
    · rename_i hc
      exact ⟨i, j, den_int_of dp, den_int_of dq, h i j hc, PostE.val (X := X) post (den_int _)⟩
    · exact post.elim
  · exact post.elim
theorem op2_ii0 {g : Int → Int → Int} : Op2 X W (rI0 fun i j => .int (g i j)) (iiF (fun _ _ => True) g) := by
  intro p q x y H Q dp dq post
  unfold iiF at post
  split at post
  · rename_i i j
    rw [if_pos trivial] at post
    exact ⟨i, j, den_int_of dp, den_int_of dq, PostE.val (X := X) post (den_int _)⟩
  · exact post.elim
theorem op2_ib {g : Int → Int → Bool} : Op2 X W (rI0 fun i j => .bl (g i j)) (ibF g) := by
  intro p q x y H Q dp dq post
  unfold ibF at post
  split at post
  · rename_i i j
    exact ⟨i, j, den_int_of dp, den_int_of dq, PostE.val (X := X) post (den_bl _)⟩
  · exact post.elim
variable {a b : Expr} {f g : Rho → R Er}
abbrev subF := iiF (fun _ _ => True) fun i j => i - j
theorem pd_sub (ha : PEd X W H0 a f) (hb : PEd X W H0 b g) : PEd X W H0 (.BinOp a .Sub b pos) (fun ρ => (f ρ).bind fun p => (g ρ).bind fun q => subF p q) := pd_op op_sub op2_ii0 ha hb
def divC (i j : Int) : Prop := 0 < j ∧ j < 1073741824
instance (i j : Int) : Decidable (divC i j) := inferInstanceAs (Decidable (_ ∧ _))
abbrev divF := iiF divC fun i j => i / j
theorem pd_div (ha : PEd X W H0 a f) (hb : PEd X W H0 b g) : PEd X W H0 (.BinOp a .FloorDiv b pos) (fun ρ => (f ρ).bind fun p => (g ρ).bind fun q => divF p q) := pd_op op_fdiv (op2_ii fun i j h => h) ha hb
abbrev modF := iiF (fun _ j => 0 < j) fun i j => i % j
theorem pd_mod (ha : PEd X W H0 a f) (hb : PEd X W H0 b g) : PEd X W H0 (.BinOp a .Mod b pos) (fun ρ => (f ρ).bind fun p => (g ρ).bind fun q => modF p q) := pd_op op_mod (op2_ii fun i j h => h) ha hb
def powC (i j : Int) : Prop := 0 ≤ j ∧ j ≤ 1000000 ∧ i.natAbs < 2 ^ 64
instance (i j : Int) : Decidable (powC i j) := inferInstanceAs (Decidable (_ ∧ _ ∧ _))
abbrev powF := iiF powC fun i j => i ^ j.toNat
theorem pd_pow (ha : PEd X W H0 a f) (hb : PEd X W H0 b g) : PEd X W H0 (.BinOp a .Pow b pos) (fun ρ => (f ρ).bind fun p => (g ρ).bind fun q => powF p q) := pd_op op_pow (op2_ii fun i j h => h) ha hb
/-- a + b: ints, texts, lists -/
def addF : Er → Er → R Er
  | .val (.int i), .val (.int j) => .ok (.val (.int (i + j)))
  | .val (.str x), .val (.str y) => if x.length + y.length ≤ sizeLine then .ok (.val (.str (x ++ y))) else .no
  | .new x, .new y => if x.length + y.length ≤ sizeLine then .ok (.new (x ++ y)) else .no
  | .lst x, .new y => if x.length + y.length ≤ sizeLine then .ok (.new (x ++ y)) else .no
  | .new x, .lst y => if x.length + y.length ≤ sizeLine then .ok (.new (x ++ y)) else .no
  | .lst x, .lst y => if x.length + y.length ≤ sizeLine then .ok (.new (x ++ y)) else .no
  | _, _ => .no
theorem catD {ds es : List Dt} {H : Hp} {Q : VK} {a b : Addr} {vs us : List V} (h1 : H a = some (.lst vs)) (l1 : DenL X.K H ds vs) (h2 : H b = some (.lst us)) (l2 : DenL X.K H es us)
    (post : PostE X.K W (if ds.length + es.length ≤ sizeLine then .ok (.new (ds ++ es)) else .no) H Q) : rCat (.ref a) (.ref b) H Q := by
  split at post
  · rename_i hz
    refine ⟨a, b, vs, us, rfl, rfl, h1, h2, by rw [l1.length, l2.length]; exact hz, fun p hp => post _ _ (same_upd hp) (.new (.refl H) hp (l1.append l2))⟩
  · exact post.elim
theorem pd_add (ha : PEd X W H0 a f) (hb : PEd X W H0 b g) : PEd X W H0 (.BinOp a .Add b pos) (fun ρ => (f ρ).bind fun p => (g ρ).bind fun q => addF p q) := by
  refine pd_op (op_add.or (op_add_str.or op_cat)) ?_ ha hb
  intro p q x y H Q dp dq post
  unfold addF at post
  split at post
  · exact .inl ⟨_, _, den_int_of dp, den_int_of dq, PostE.val (X := X) post (den_int _)⟩
  · split at post
    · rename_i hz
      refine .inr (.inl ⟨_, _, den_str_of dp, den_str_of dq, by rw [mkS_len, mkS_len]; exact hz, ?_⟩)
      rw [mkS_app]
      exact PostE.val (X := X) post (den_str _)
    · exact post.elim
  · obtain ⟨a1, vs, rfl, h1, l1⟩ := dp
    obtain ⟨a2, us, rfl, h2, l2⟩ := dq
    exact .inr (.inr (catD h1 l1 h2 l2 post))
  · obtain ⟨a1, vs, rfl, h1, l1⟩ := dp
    obtain ⟨a2, us, rfl, h2, l2⟩ := dq
    exact .inr (.inr (catD h1 l1 h2 l2 post))
  · obtain ⟨a1, vs, rfl, h1, l1⟩ := dp
    obtain ⟨a2, us, rfl, h2, l2⟩ := dq
    exact .inr (.inr (catD h1 l1 h2 l2 post))
  · obtain ⟨a1, vs, rfl, h1, l1⟩ := dp
    obtain ⟨a2, us, rfl, h2, l2⟩ := dq
    exact .inr (.inr (catD h1 l1 h2 l2 post))
  · exact post.elim
/-- a * b: ints (one of them below 2^64), a text times an int -/
def mulC (i j : Int) : Prop := (-(2 ^ 64) < i ∧ i < 2 ^ 64) ∨ (-(2 ^ 64) < j ∧ j < 2 ^ 64)
instance (i j : Int) : Decidable (mulC i j) := inferInstanceAs (Decidable (_ ∨ _))
def mulF : Er → Er → R Er
  | .val (.int i), .val (.int j) => if mulC i j then .ok (.val (.int (i * j))) else .no
  | .val (.str x), .val (.int k) => if 0 ≤ k ∧ k < 1000 ∧ x.length ≤ 1000 then .ok (.val (.str (repL x k))) else .no
  | _, _ => .no
theorem pd_mul (ha : PEd X W H0 a f) (hb : PEd X W H0 b g) : PEd X W H0 (.BinOp a .Mult b pos) (fun ρ => (f ρ).bind fun p => (g ρ).bind fun q => mulF p q) := by
  refine pd_op (op_mul.or op_mul_str) ?_ ha hb
  intro p q x y H Q dp dq post
  unfold mulF at post
  split at post
  · split at post
    · rename_i hc
      exact .inl ⟨_, _, den_int_of dp, den_int_of dq, hc, PostE.val (X := X) post (den_int _)⟩
    · exact post.elim
  · split at post
    · rename_i hc
      exact .inr ⟨_, _, den_str_of dp, den_int_of dq, hc.1, hc.2.1, hc.2.2, PostE.val (X := X) post (den_str _)⟩
    · exact post.elim
  · exact post.elim
/-! ### comparisons -/
theorem pd_lt (ha : PEd X W H0 a f) (hb : PEd X W H0 b g) : PEd X W H0 (.Compare a [.Lt] [b] pos) (fun ρ => (f ρ).bind fun p => (g ρ).bind fun q => ibF (fun i j => decide (i < j)) p q) := pd_cmp op_lt op2_ib ha hb
theorem td_lt (ha : PEd X W H0 a f) (hb : PEd X W H0 b g) : PTd X W H0 (.Compare a [.Lt] [b] pos) (fun ρ => ((f ρ).bind fun p => (g ρ).bind fun q => ibF (fun i j => decide (i < j)) p q).bind asB) := td_cmp op_lt op2_ib ha hb
theorem pd_gt (ha : PEd X W H0 a f) (hb : PEd X W H0 b g) : PEd X W H0 (.Compare a [.Gt] [b] pos) (fun ρ => (f ρ).bind fun p => (g ρ).bind fun q => ibF (fun i j => decide (j < i)) p q) := pd_cmp op_gt op2_ib ha hb
theorem td_gt (ha : PEd X W H0 a f) (hb : PEd X W H0 b g) : PTd X W H0 (.Compare a [.Gt] [b] pos) (fun ρ => ((f ρ).bind fun p => (g ρ).bind fun q => ibF (fun i j => decide (j < i)) p q).bind asB) := td_cmp op_gt op2_ib ha hb
/-- <=: ints or texts -/
def leF : Er → Er → R Er
  | .val (.int i), .val (.int j) => .ok (.val (.bl (decide (i ≤ j))))
  | .val (.str x), .val (.str y) => .ok (.val (.bl (!decide (y < x))))
  | _, _ => .no
theorem op2_le : Op2 X W (fun x y H Q => rI0 (fun i j => .bl (decide (i ≤ j))) x y H Q ∨ (∃ i j, x = .str i ∧ y = .str j ∧ Q (.bl (!decide (j.cps.toList < i.cps.toList))) H)) leF := by
  intro p q x y H Q dp dq post
  unfold leF at post
  split at post
  · exact .inl ⟨_, _, den_int_of dp, den_int_of dq, PostE.val (X := X) post (den_bl _)⟩
  · refine .inr ⟨_, _, den_str_of dp, den_str_of dq, ?_⟩
    rw [mkS_cps, mkS_cps]
    exact PostE.val (X := X) post (den_bl _)
  · exact post.elim
theorem pd_le (ha : PEd X W H0 a f) (hb : PEd X W H0 b g) : PEd X W H0 (.Compare a [.LtE] [b] pos) (fun ρ => (f ρ).bind fun p => (g ρ).bind fun q => leF p q) := pd_cmp (op_le.or op_le_str) op2_le ha hb
theorem td_le (ha : PEd X W H0 a f) (hb : PEd X W H0 b g) : PTd X W H0 (.Compare a [.LtE] [b] pos) (fun ρ => ((f ρ).bind fun p => (g ρ).bind fun q => leF p q).bind asB) := td_cmp (op_le.or op_le_str) op2_le ha hb
variable {c : Expr} {h : Rho → R Er}
theorem pd_lele (ha : PEd X W H0 a f) (hb : PEd X W H0 b g) (hc : PEd X W H0 c h) (hm : lastMarks [.LtE, .LtE] [b, c] = false := by with_unfolding_all rfl) : PEd X W H0 (.Compare a [.LtE, .LtE] [b, c] pos) (fun ρ => (f ρ).bind fun p => (g ρ).bind fun q => chF leF leF p q (h ρ)) := pd_chain (op_le.or op_le_str) (op_le.or op_le_str) op2_le op2_le ha hb hc hm
theorem td_lele (ha : PEd X W H0 a f) (hb : PEd X W H0 b g) (hc : PEd X W H0 c h) (hm : lastMarks [.LtE, .LtE] [b, c] = false := by with_unfolding_all rfl) : PTd X W H0 (.Compare a [.LtE, .LtE] [b, c] pos) (fun ρ => ((f ρ).bind fun p => (g ρ).bind fun q => chF leF leF p q (h ρ)).bind asB) := td_chain (op_le.or op_le_str) (op_le.or op_le_str) op2_le op2_le ha hb hc hm
/-- == of scalars of one kind (or with a None, a text beside another kind) -/
def eqS : Dt → Dt → R Bool
  | .non, .non => .ok true | .non, .int _ => .ok false | .int _, .non => .ok false | .non, .bl _ => .ok false | .bl _, .non => .ok false | .non, .str _ => .ok false | .str _, .non => .ok false
  | .int i, .int j => .ok (decide (i = j)) | .bl i, .bl j => .ok (decide (i = j)) | .str i, .str j => .ok (decide (i = j))
  | .int _, .str _ => .ok false | .str _, .int _ => .ok false | .bl _, .str _ => .ok false | .str _, .bl _ => .ok false
  | _, _ => .no
theorem eqS_ok {d e : Dt} {k : Bool} {x y : V} {H : Hp} (h : eqS d e = .ok k) (dx : Den X.K H d x) (dy : Den X.K H e y) : scal x y = true ∧ decide (x = y) = k := by
  have str_eq : ∀ i j : List Nat, decide (V.str (mkS i) = V.str (mkS j)) = decide (i = j) := fun i j => by
    by_cases hh : i = j
    · subst hh; simp
    · rw [decide_eq_false hh, decide_eq_false (fun z => hh (mkS_inj (by injection z)))]
  cases d <;> cases e <;> (unfold eqS at h) <;> (first | (cases h; done) | skip) <;> (unfold Den at dx dy) <;> (first | subst dx dy | skip) <;> (first | (cases h; exact ⟨rfl, by first | rfl | (simp; done) | (exact str_eq _ _)⟩) | skip)
def eqF : Er → Er → R Er
  | .val d, .val e => (eqS d e).bind fun k => .ok (.val (.bl k))
  | _, _ => .no
def neF : Er → Er → R Er
  | .val d, .val e => (eqS d e).bind fun k => .ok (.val (.bl !k))
  | _, _ => .no
theorem eqS_exc {d e : Dt} {c : Nat} {fs : List Dt} : eqS d e ≠ .exc c fs := by
  intro h
  unfold eqS at h
  split at h <;> cases h
theorem op2_eq : Op2 X W rEq eqF := by
  intro p q x y H Q dp dq post
  unfold eqF at post
  split at post
  · rename_i d e
    cases z : eqS d e with
    | ok k =>
      rw [z, R.bind_ok] at post
      obtain ⟨h1, h2⟩ := eqS_ok z dp dq
      exact ⟨h1, by rw [h2]; exact PostE.val (X := X) post (den_bl _)⟩
    | exc c fs => exact absurd z eqS_exc
    | no => rw [z] at post; exact post.elim
  · exact post.elim
theorem op2_ne : Op2 X W rNe neF := by
  intro p q x y H Q dp dq post
  unfold neF at post
  split at post
  · rename_i d e
    cases z : eqS d e with
    | ok k =>
      rw [z, R.bind_ok] at post
      obtain ⟨h1, h2⟩ := eqS_ok z dp dq
      exact ⟨h1, by rw [h2]; exact PostE.val (X := X) post (den_bl _)⟩
    | exc c fs => exact absurd z eqS_exc
    | no => rw [z] at post; exact post.elim
  · exact post.elim
theorem pd_eq (ha : PEd X W H0 a f) (hb : PEd X W H0 b g) : PEd X W H0 (.Compare a [.Eq] [b] pos) (fun ρ => (f ρ).bind fun p => (g ρ).bind fun q => eqF p q) := pd_cmp op_eq op2_eq ha hb
theorem td_eq (ha : PEd X W H0 a f) (hb : PEd X W H0 b g) : PTd X W H0 (.Compare a [.Eq] [b] pos) (fun ρ => ((f ρ).bind fun p => (g ρ).bind fun q => eqF p q).bind asB) := td_cmp op_eq op2_eq ha hb
theorem pd_ne (ha : PEd X W H0 a f) (hb : PEd X W H0 b g) : PEd X W H0 (.Compare a [.NotEq] [b] pos) (fun ρ => (f ρ).bind fun p => (g ρ).bind fun q => neF p q) := pd_cmp op_ne op2_ne ha hb
theorem td_ne (ha : PEd X W H0 a f) (hb : PEd X W H0 b g) : PTd X W H0 (.Compare a [.NotEq] [b] pos) (fun ρ => ((f ρ).bind fun p => (g ρ).bind fun q => neF p q).bind asB) := td_cmp op_ne op2_ne ha hb
/-- a list, is it empty: xs == [] -/
def eqE : Er → Er → R Er
  | .new ds, .new [] => .ok (.val (.bl ds.isEmpty))
  | .lst ds, .new [] => .ok (.val (.bl ds.isEmpty))
  | _, _ => .no
theorem op_eqE (hu : X.A.units < cLine) : OpR X (compareOp .Eq) (fun x y H Q => ∃ a b vs, x = .ref a ∧ y = .ref b ∧ H a = some (.lst vs) ∧ H b = some (.lst []) ∧ Q (.bl vs.isEmpty) H) := by
  intro pins s σ H x y v u Q I rx ry h
  obtain ⟨a, b, vs, rfl, rfl, ha, hb, q⟩ := h
  cases rx
  cases ry
  obtain ⟨its, r1, p1, _⟩ := I.list (SqL.of (K := X.K) ha)
  obtain ⟨its2, r2, p2, _⟩ := I.list (SqL.of (K := X.K) hb)
  cases r2
  have hl := r1.length
  by_cases hv : its.length = 0
  · have e1 : its = [] := List.eq_nil_of_length_eq_zero hv
    subst e1
    have e2 : vs = [] := List.eq_nil_of_length_eq_zero (by omega)
    subst e2
    exact PySem.SeqAt.eq_listAt (e := fun _ => true) p1.isList p2.isList rfl hu (fun j h1 => absurd h1 (by simp)) ⟨.bl true, H, I, rfl, q⟩
  · refine PySem.SeqAt.eq_list_lengthsAt p1.isList p2.isList (by simpa using hv) hu ⟨.bl false, H, I, rfl, ?_⟩
    have : vs.isEmpty = false := by cases vs with | nil => simp at hl; omega | cons _ _ => rfl
    rw [this] at q
    exact q
theorem pd_eqE (hu : X.A.units < cLine) (ha : PEd X W H0 a f) (hb : PEd X W H0 b g) : PEd X W H0 (.Compare a [.Eq] [b] pos) (fun ρ => (f ρ).bind fun p => (g ρ).bind fun q => eqE p q) := by
  refine pd_cmp (op_eqE hu) ?_ ha hb
  intro p q x y H Q dp dq post
  unfold eqE at post
  split at post
  · obtain ⟨a1, vs, rfl, h1, l1⟩ := dp
    obtain ⟨a2, us, rfl, h2, l2⟩ := dq
    unfold DenL at l2
    subst l2
    refine ⟨a1, a2, vs, rfl, rfl, h1, h2, ?_⟩
    have := empty_len l1
    have e : vs.isEmpty = _ := Bool.not_inj this
    rw [e]
    exact PostE.val (X := X) post (den_bl _)
  · obtain ⟨a1, vs, rfl, h1, l1⟩ := dp
    obtain ⟨a2, us, rfl, h2, l2⟩ := dq
    unfold DenL at l2
    subst l2
    refine ⟨a1, a2, vs, rfl, rfl, h1, h2, ?_⟩
    have := empty_len l1
    have e : vs.isEmpty = _ := Bool.not_inj this
    rw [e]
    exact PostE.val (X := X) post (den_bl _)
  · exact post.elim
/-- a sign in a text -/
def inF (neg : Bool) : Er → Er → R Er
  | .val (.str [c]), .val (.str y) => .ok (.val (.bl (if neg then !decide (c ∈ y) else decide (c ∈ y))))
  | _, _ => .no
theorem td_notin (ha : PEd X W H0 a f) (hb : PEd X W H0 b g) (hm : behindInMarks .NotIn b = false := by with_unfolding_all rfl) : PTd X W H0 (.Compare a [.NotIn] [b] pos) (fun ρ => ((f ρ).bind fun p => (g ρ).bind fun q => inF true p q).bind asB) := by
  refine td_cmp op_notin_str ?_ ha hb hm
  intro p q x y H Q dp dq post
  unfold inF at post
  split at post
  · refine ⟨_, _, den_str_of dp, den_str_of dq, ?_⟩
    rw [← mkS_one, PySem.StrLaws.found_one, mkS_cps]
    exact PostE.val (X := X) post (den_bl _)
  · exact post.elim
theorem pd_in (ha : PEd X W H0 a f) (hb : PEd X W H0 b g) (hm : behindInMarks .In b = false := by with_unfolding_all rfl) : PEd X W H0 (.Compare a [.In] [b] pos) (fun ρ => (f ρ).bind fun p => (g ρ).bind fun q => inF false p q) := by
  refine pd_cmp op_in_str ?_ ha hb hm
  intro p q x y H Q dp dq post
  unfold inF at post
  split at post
  · refine ⟨_, _, den_str_of dp, den_str_of dq, ?_⟩
    rw [← mkS_one, PySem.StrLaws.found_one, mkS_cps]
    exact PostE.val (X := X) post (den_bl _)
  · exact post.elim
/-! ### subscripts -/
def ixF : Er → Er → R Er
  | .val (.str x), .val (.int i) => if x.length ≤ sizeLine then (match atI x i with | some c => .ok (.val (.str [c])) | none => .no) else .no
  | .val (.tup ds), .val (.int i) => (match atI ds i with | some d => .ok (.val d) | none => .no)
  | .lst ds, .val (.int i) => (match atI ds i with | some d => .ok (.val d) | none => .no)
  | .new ds, .val (.int i) => (match atI ds i with | some d => .ok (.val d) | none => .no)
  | .scr ds, .val (.int i) => (match atI ds i with | some d => .ok (.val d) | none => .no)
  | _, _ => .no
theorem atI_den {K : PySem.W.Frag} {H : Hp} {ds : List Dt} {vs : List V} {i : Int} {d : Dt} (l : DenL K H ds vs) (e : atI ds i = some d) : ∃ v, atI vs i = some v ∧ Den K H d v := by
  obtain ⟨j, h1, h2, h3, h4, h5⟩ := atI_get e
  obtain ⟨v, hv, dv⟩ := l.at h2
  refine ⟨v, ?_, dv⟩
  have e0 : ixN ds.length i = some j := by
    unfold atI at e
    cases z6 : ixN ds.length i with
    | none => rw [z6] at e; cases e
    | some j' =>
      obtain ⟨g1, _⟩ := ixN_seq z6
      rw [h1] at g1
      rw [Option.some.inj g1]
  unfold atI
  rw [l.length, e0]
  exact hv
theorem pd_at (ha : PEd X W H0 a f) (hb : PEd X W H0 b g) (hs : PlainIx b := by exact fun _ _ => rfl) : PEd X W H0 (.Subscript a b pos) (fun ρ => (f ρ).bind fun p => (g ρ).bind fun q => ixF p q) := by
  refine pd_ix ix_seq ?_ ha hb hs
  intro p q x y H Q dp dq post
  unfold ixF at post
  split at post
  · split at post
    · rename_i hz
      split at post
      · rename_i c e
        refine .inr (.inr ⟨_, _, c, den_str_of dp, den_int_of dq, by rw [mkS_len]; exact hz, by rw [mkS_cps]; exact e, PostE.val (X := X) post (den_str [c])⟩)
      · exact post.elim
    · exact post.elim
  · split at post
    · rename_i d e
      obtain ⟨a1, vs, rfl, s, l⟩ := den_tup_of dp
      obtain ⟨v, hv, dv⟩ := atI_den l e
      exact .inr (.inl ⟨a1, vs, _, v, rfl, den_int_of dq, s, hv, PostE.val (X := X) post dv⟩)
    · exact post.elim
  · split at post
    · rename_i d e
      obtain ⟨a1, vs, rfl, s, l⟩ := dp
      obtain ⟨v, hv, dv⟩ := atI_den l e
      exact .inl ⟨a1, vs, _, v, rfl, den_int_of dq, .of s, hv, PostE.val (X := X) post dv⟩
    · exact post.elim
  · split at post
    · rename_i d e
      obtain ⟨a1, vs, rfl, s, l⟩ := dp
      obtain ⟨v, hv, dv⟩ := atI_den l e
      exact .inl ⟨a1, vs, _, v, rfl, den_int_of dq, .of s, hv, PostE.val (X := X) post dv⟩
    · exact post.elim
  · split at post
    · rename_i d e
      obtain ⟨a1, vs, rfl, s, l⟩ := dp
      obtain ⟨v, hv, dv⟩ := atI_den l e
      exact .inl ⟨a1, vs, _, v, rfl, den_int_of dq, s, hv, PostE.val (X := X) post dv⟩
    · exact post.elim
  · exact post.elim
def cutF : Er → Option Int → Option Int → R Er
  | .val (.str x), lo, hi => if x.length ≤ sizeLine then .ok (.val (.str (cutL x lo hi))) else .no
  | .lst ds, lo, hi => .ok (.new (cutL ds lo hi))
  | .new ds, lo, hi => .ok (.new (cutL ds lo hi))
  | .scr ds, lo, hi => .ok (.new (cutL ds lo hi))
  | _, _, _ => .no
variable {lo hi : Option Expr} {lf hf : Rho → R (Option Int)} {p2 : Pos}
theorem pd_cut (ha : PEd X W H0 a f) (hl : POd X W H0 lo lf) (hh : POd X W H0 hi hf) : PEd X W H0 (.Subscript a (.Slice lo hi none p2) pos) (fun ρ => (f ρ).bind fun p => (lf ρ).bind fun l => (hf ρ).bind fun u => cutF p l u) := by
  refine pd_slice (sl_list.or sl_str) ?_ ha hl hh
  intro p l u x H Q dp post
  unfold cutF at post
  split at post
  · split at post
    · rename_i hz
      exact .inr ⟨_, den_str_of dp, hz, PostE.val (X := X) post (den_str _)⟩
    · exact post.elim
  · obtain ⟨a1, vs, rfl, s, l1⟩ := dp
    exact .inl ⟨a1, vs, rfl, .of s, fun p hp => post _ _ (same_upd hp) (.new (.refl H) hp (l1.cut _ _))⟩
  · obtain ⟨a1, vs, rfl, s, l1⟩ := dp
    exact .inl ⟨a1, vs, rfl, .of s, fun p hp => post _ _ (same_upd hp) (.new (.refl H) hp (l1.cut _ _))⟩
  · obtain ⟨a1, vs, rfl, s, l1⟩ := dp
    exact .inl ⟨a1, vs, rfl, s, fun p hp => post _ _ (same_upd hp) (.new (.refl H) hp (l1.cut _ _))⟩
  · exact post.elim

/-! ### builtins -/
def lenF : List Er → R Er
  | [.val (.str x)] => if x.length ≤ sizeLine then .ok (.val (.int x.length)) else .no
  | [.val (.tup ds)] => .ok (.val (.int ds.length))
  | [.lst ds] => .ok (.val (.int ds.length))
  | [.new ds] => .ok (.val (.int ds.length))
  | [.scr ds] => .ok (.val (.int ds.length))
  | _ => .no
theorem args1 {K : PySem.W.Frag} {H : Hp} {r : Er} {vs : List V} (d : ArgsX K H [r] vs) : ∃ v, vs = [v] ∧ DenX K H r v := by
  cases d with
  | cons q t => cases t; exact ⟨_, rfl, q⟩
theorem args2 {K : PySem.W.Frag} {H : Hp} {r r' : Er} {vs : List V} (d : ArgsX K H [r, r'] vs) : ∃ v u, vs = [v, u] ∧ DenX K H r v ∧ DenX K H r' u := by
  cases d with
  | cons q t =>
    cases t with
    | cons q' t' => cases t'; exact ⟨_, _, rfl, q, q'⟩
theorem cd_len : CallD X W (fun xs H Q => ∃ x n, xs = [x] ∧ LenV X.K x H n ∧ Q (.int n) H) lenF := by
  intro rs vs H Q d post
  unfold lenF at post
  split at post
  · split at post
    · rename_i hz
      obtain ⟨v, rfl, dv⟩ := args1 d
      cases (den_str_of dv)
      refine ⟨_, _, rfl, ⟨by rw [mkS_len]; exact hz, rfl⟩, ?_⟩
      rw [mkS_len]
      exact PostE.val (X := X) post (den_int _)
    · exact post.elim
  · obtain ⟨v, rfl, dv⟩ := args1 d
    obtain ⟨a1, vs, rfl, s, l⟩ := den_tup_of dv
    refine ⟨_, vs.length, rfl, .inr ⟨vs, s, rfl⟩, ?_⟩
    rw [l.length]
    exact PostE.val (X := X) post (den_int _)
  · obtain ⟨v, rfl, a1, vs, rfl, s, l⟩ := args1 d
    refine ⟨_, vs.length, rfl, .inl ⟨vs, .of s, rfl⟩, ?_⟩
    rw [l.length]
    exact PostE.val (X := X) post (den_int _)
  · obtain ⟨v, rfl, a1, vs, rfl, s, l⟩ := args1 d
    refine ⟨_, vs.length, rfl, .inl ⟨vs, .of s, rfl⟩, ?_⟩
    rw [l.length]
    exact PostE.val (X := X) post (den_int _)
  · obtain ⟨v, rfl, a1, vs, rfl, s, l⟩ := args1 d
    refine ⟨_, vs.length, rfl, .inl ⟨vs, s, rfl⟩, ?_⟩
    rw [l.length]
    exact PostE.val (X := X) post (den_int _)
  · exact post.elim
def absF : List Er → R Er
  | [.val (.int i)] => .ok (.val (.int (if i < 0 then -i else i)))
  | _ => .no
theorem cd_abs : CallD X W (fun xs H Q => ∃ i, xs = [.int i] ∧ Q (.int (if i < 0 then -i else i)) H) absF := by
  intro rs vs H Q d post
  unfold absF at post
  split at post
  · obtain ⟨v, rfl, dv⟩ := args1 d
    cases (den_int_of dv)
    exact ⟨_, rfl, PostE.val (X := X) post (den_int _)⟩
  · exact post.elim
def blsOf : List Dt → Option (List Bool)
  | [] => some []
  | .bl b :: r => (blsOf r).map (b :: ·)
  | _ :: _ => none
theorem blsOf_den {K : PySem.W.Frag} {H : Hp} : ∀ {ds : List Dt} {bs : List Bool} {vs : List V}, blsOf ds = some bs → DenL K H ds vs → vs = bs.map V.bl
  | [], _, _, e, l => by cases e; unfold DenL at l; exact l
  | .bl b :: r, bs, _, e, l => by
    unfold blsOf at e
    cases z : blsOf r with
    | none => rw [z] at e; cases e
    | some cs =>
      rw [z] at e
      cases e
      unfold DenL at l
      obtain ⟨v, us, rfl, dv, l'⟩ := l
      unfold Den at dv
      rw [dv, blsOf_den z l']
      rfl
  | .non :: _, _, _, e, _ => by cases e
  | .int _ :: _, _, _, e, _ => by cases e
  | .str _ :: _, _, _, e, _ => by cases e
  | .tup _ :: _, _, _, e, _ => by cases e
def allF : List Er → R Er
  | [.new ds] => match blsOf ds with | some bs => .ok (.val (.bl (bs.all id))) | none => .no
  | _ => .no
theorem cd_all (hc : X.calm = true) : CallD X W (fun xs H Q => ∃ (a : Addr) (bs : List Bool), xs = [.ref a] ∧ SqL X.K H a (bs.map V.bl) ∧ X.calm = true ∧ Q (.bl (bs.all id)) H) allF := by
  intro rs vs H Q d post
  unfold allF at post
  split at post
  · rename_i ds
    split at post
    · rename_i bs e
      obtain ⟨v, rfl, a1, us, rfl, s, l⟩ := args1 d
      refine ⟨a1, bs, rfl, ?_, hc, PostE.val (X := X) post (den_bl _)⟩
      rw [← blsOf_den e l]
      exact .of s
    · exact post.elim
  · exact post.elim
/-! ### isinstance -/
def tyName : Dt → String
  | .non => "NoneType" | .bl _ => "bool" | .int _ => "int" | .str _ => "str" | .tup _ => "tuple"
def isiB (t T : String) : Bool := t == T || (t == "bool" && T == "int")
def known (T : String) : Bool := T == "int" || T == "bool" || T == "str" || T == "tuple" || T == "list"
def isiF : List Er → R Er
  | [.val d, .typ T] => if known T = true then .ok (.val (.bl (isiB (tyName d) T))) else .no
  | [.lst _, .typ T] => if known T = true then .ok (.val (.bl (isiB "list" T))) else .no
  | [.new _, .typ T] => if known T = true then .ok (.val (.bl (isiB "list" T))) else .no
  | [.scr _, .typ T] => if known T = true then .ok (.val (.bl (isiB "list" T))) else .no
  | _ => .no
theorem kit_table (K : PySem.W.Frag) {t T : String} (ht : t = "NoneType" ∨ t = "bool" ∨ t = "int" ∨ t = "str" ∨ t = "tuple" ∨ t = "list") (hT : known T = true) : PySem.W.kitOne K (.type t) (.type T) = some (isiB t T) := by
  have hT' : T = "int" ∨ T = "bool" ∨ T = "str" ∨ T = "tuple" ∨ T = "list" := by
    unfold known at hT
    simp only [Bool.or_eq_true, beq_iff_eq] at hT
    rcases hT with (((h | h) | h) | h) | h
    · exact .inl h
    · exact .inr (.inl h)
    · exact .inr (.inr (.inl h))
    · exact .inr (.inr (.inr (.inl h)))
    · exact .inr (.inr (.inr (.inr h)))
  rcases ht with rfl | rfl | rfl | rfl | rfl | rfl <;> rcases hT' with rfl | rfl | rfl | rfl | rfl <;> kernel_rfl
theorem isi_of {t T : String} {k : Bool} (e : (if known T = true then R.ok (Er.val (.bl (isiB t T))) else R.no) = .ok (.val (.bl k))) : known T = true ∧ k = isiB t T := by
  by_cases hk : known T = true
  · rw [if_pos hk] at e; cases e; exact ⟨hk, rfl⟩
  · rw [if_neg hk] at e; cases e
theorem call_isi : CallR X (.builtin "isinstance") (fun xs H Q => ∃ r x T, xs = [x, .ty T] ∧ DenX X.K H r x ∧ ∃ k, isiF [r, .typ T] = .ok (.val (.bl k)) ∧ Q (.bl k) H) := by
  intro pins s σ H xs us Q I rr h
  obtain ⟨r, x, T, rfl, d, k, e, q⟩ := h
  obtain ⟨u, w', rfl, rx, rT⟩ := vals2 rr
  cases rT
  have fin : ∀ tk, EP X pins σ Q (.bool k) { s with toks := tk } := fun tk => ⟨.bl k, H, I.tok _, rfl, q⟩
  match r, d, e with
  | .val .non, d, e =>
    obtain ⟨hk, rfl⟩ := isi_of (t := "NoneType") e
    cases (den_non_of d)
    cases rx
    exact PySem.W.kia_one PySem.W.kitx_none I.kIn True.intro (kit_table X.K (.inl rfl) hk) (fun z => nomatch z) fin
  | .val (.bl b), d, e =>
    obtain ⟨hk, rfl⟩ := isi_of (t := "bool") e
    cases (den_bl_of d)
    cases rx
    exact PySem.W.kia_one PySem.W.kitx_bool I.kIn True.intro (kit_table X.K (.inr (.inl rfl)) hk) (fun z => nomatch z) fin
  | .val (.int i), d, e =>
    obtain ⟨hk, rfl⟩ := isi_of (t := "int") e
    cases (den_int_of d)
    obtain ⟨t, rfl⟩ := rx
    exact PySem.W.kia_one PySem.W.kitx_int I.kIn True.intro (kit_table X.K (.inr (.inr (.inl rfl))) hk) (fun z => nomatch z) fin
  | .val (.str i), d, e =>
    obtain ⟨hk, rfl⟩ := isi_of (t := "str") e
    cases (den_str_of d)
    obtain ⟨t, rfl⟩ := rx
    exact PySem.W.kia_one PySem.W.kitx_str I.kIn True.intro (kit_table X.K (.inr (.inr (.inr (.inl rfl)))) hk) (fun z => nomatch z) fin
  | .val (.tup ds), d, e =>
    obtain ⟨hk, rfl⟩ := isi_of (t := "tuple") e
    obtain ⟨a, vs, rfl, sq, l⟩ := den_tup_of d
    cases rx
    obtain ⟨its, r1, p1, _⟩ := I.tuple sq
    obtain ⟨o, h1, h2, _⟩ := p1
    exact PySem.W.kia_one PySem.W.kitx_tuple I.kIn ⟨o, h1, h2⟩ (kit_table X.K (.inr (.inr (.inr (.inr (.inl rfl))))) hk) (fun z => nomatch z) fin
  | .lst ds, ⟨a, vs, ex, sq, l⟩, e =>
    obtain ⟨hk, rfl⟩ := isi_of (t := "list") e
    subst ex
    cases rx
    obtain ⟨its, r1, p1, _⟩ := I.list (SqL.of (K := X.K) sq)
    obtain ⟨o, h1, h2, _⟩ := p1.isList
    exact PySem.W.kia_one PySem.W.kitx_list I.kIn ⟨o, h1, h2⟩ (kit_table X.K (.inr (.inr (.inr (.inr (.inr rfl))))) hk) (fun z => nomatch z) fin
  | .new ds, ⟨a, vs, ex, sq, l⟩, e =>
    obtain ⟨hk, rfl⟩ := isi_of (t := "list") e
    subst ex
    cases rx
    obtain ⟨its, r1, p1, _⟩ := I.list (SqL.of (K := X.K) sq)
    obtain ⟨o, h1, h2, _⟩ := p1.isList
    exact PySem.W.kia_one PySem.W.kitx_list I.kIn ⟨o, h1, h2⟩ (kit_table X.K (.inr (.inr (.inr (.inr (.inr rfl))))) hk) (fun z => nomatch z) fin
  | .scr ds, ⟨a, vs, ex, sq, l⟩, e =>
    obtain ⟨hk, rfl⟩ := isi_of (t := "list") e
    subst ex
    cases rx
    obtain ⟨its, r1, p1, _⟩ := I.list sq
    obtain ⟨o, h1, h2, _⟩ := p1.isList
    exact PySem.W.kia_one PySem.W.kitx_list I.kIn ⟨o, h1, h2⟩ (kit_table X.K (.inr (.inr (.inr (.inr (.inr rfl))))) hk) (fun z => nomatch z) fin
  | .typ n, _, e => cases e
theorem isi_ok {t T : String} {Q : VK} {H : Hp} {r : Er} (hr : isiF [r, .typ T] = (if known T = true then R.ok (Er.val (.bl (isiB t T))) else R.no)) (post : PostE X.K W (if known T = true then R.ok (Er.val (.bl (isiB t T))) else R.no) H Q) : ∃ k, isiF [r, .typ T] = .ok (.val (.bl k)) := by
  by_cases hk : known T = true
  · exact ⟨isiB t T, by rw [hr, if_pos hk]⟩
  · rw [if_neg hk] at post; exact post.elim
theorem cd_isi : CallD X W (fun xs H Q => ∃ r x T, xs = [x, .ty T] ∧ DenX X.K H r x ∧ ∃ k, isiF [r, .typ T] = .ok (.val (.bl k)) ∧ Q (.bl k) H) isiF := by
  intro rs vs H Q d post
  have key : ∀ r T, rs = [r, .typ T] → (∃ k, isiF [r, .typ T] = .ok (.val (.bl k))) → ∃ r x T, vs = [x, .ty T] ∧ DenX X.K H r x ∧ ∃ k, isiF [r, .typ T] = .ok (.val (.bl k)) ∧ Q (.bl k) H := fun r T e ⟨k, ek⟩ => by
    subst e
    obtain ⟨v, u, rfl, d1, d2⟩ := args2 d
    have d2' : u = .ty T := d2
    subst d2'
    rw [ek] at post
    exact ⟨r, v, T, rfl, d1, k, ek, PostE.val (X := X) post (den_bl k)⟩
  match rs, d, post with
  | [.val dd, .typ T], d, post => exact key _ _ rfl (isi_ok (X := X) (W := W) (t := tyName dd) rfl post)
  | [.lst dd, .typ T], d, post => exact key _ _ rfl (isi_ok (X := X) (W := W) (t := "list") rfl post)
  | [.new dd, .typ T], d, post => exact key _ _ rfl (isi_ok (X := X) (W := W) (t := "list") rfl post)
  | [.scr dd, .typ T], d, post => exact key _ _ rfl (isi_ok (X := X) (W := W) (t := "list") rfl post)
  | [.typ _, .typ _], _, post => exact post.elim
  | [], _, post => exact post.elim
  | [.val _], _, post => exact post.elim
  | [.lst _], _, post => exact post.elim
  | [.new _], _, post => exact post.elim
  | [.scr _], _, post => exact post.elim
  | [.typ _], _, post => exact post.elim
  | [a, .val _], _, post => cases a <;> exact post.elim
  | [a, .lst _], _, post => cases a <;> exact post.elim
  | [a, .new _], _, post => cases a <;> exact post.elim
  | [a, .scr _], _, post => cases a <;> exact post.elim
  | a :: b :: c :: r, _, post => cases a <;> cases b <;> exact post.elim
/-- a builtin type's name -/
theorem pd_ty {x : Str} {T : String} (hg : Gl X x) (hm : X.mg x = none) (hv : bootBuiltins x = some (.type T)) (hn : x ≠ "__name__" := by decide) (hd : (x == ("__debug__" : Str)) = false := by decide) : PEd X W H0 (.Name x pos) (fun _ => .ok (.typ T)) :=
  ⟨_, pe_bltn (v := .ty T) hg hm hv rfl hn hd, fun Z ρ σ H Q rel q => q _ H (.refl H) ⟨rfl, trivial⟩⟩
theorem bt_len : bootBuiltins "len" = some (.builtin "len") := by decide +kernel
theorem bt_abs : bootBuiltins "abs" = some (.builtin "abs") := by decide +kernel
theorem bt_all : bootBuiltins "all" = some (.builtin "all") := by decide +kernel
theorem bt_isinstance : bootBuiltins "isinstance" = some (.builtin "isinstance") := by decide +kernel
theorem bt_int : bootBuiltins "int" = some (.type "int") := by decide +kernel
theorem bt_bool : bootBuiltins "bool" = some (.type "bool") := by decide +kernel
theorem bt_str : bootBuiltins "str" = some (.type "str") := by decide +kernel
theorem bt_tuple : bootBuiltins "tuple" = some (.type "tuple") := by decide +kernel
theorem bt_list : bootBuiltins "list" = some (.type "list") := by decide +kernel
theorem pd_neg {i : Int} {j : Nat} {p3 : Pos} : PEd X W H0 (.UnaryOp .USub (.Constant (.int i) j p3) pos) (fun _ => .ok (.val (.int (-i)))) := by
  refine ⟨_, pe_un (op := .USub) (r := rU fun i => .int (-i)) ?_ pe_int, fun Z ρ σ H Q rel q => ⟨i, rfl, PostE.val (X := X) q (den_int _)⟩⟩
  intro pins s σ H x v Q I rx h
  obtain ⟨k, rfl, q⟩ := h
  obtain ⟨t, rfl⟩ := rx
  exact neg_int ⟨.int (-k), H, I.tok _, ⟨_, rfl⟩, q⟩
end
end D2
end L2

namespace L2
namespace D2
open PySem PySem.Spec PyProof.Rows
/-! ## reckoning with the functions by data -/
theorem R.bind_no {α β : Type} (k : α → R β) : (R.no : R α).bind k = .no := rfl
theorem div_lit {c k : Int} (h1 : 0 < k) (h2 : k < 1073741824) : divF (.val (.int c)) (.val (.int k)) = .ok (.val (.int (c / k))) := by
  unfold divF iiF
  exact if_pos ⟨h1, h2⟩
theorem mod_lit {c k : Int} (h1 : 0 < k) : modF (.val (.int c)) (.val (.int k)) = .ok (.val (.int (c % k))) := by
  unfold modF iiF
  exact if_pos h1
@[simp] theorem add_int (a b : Int) : addF (.val (.int a)) (.val (.int b)) = .ok (.val (.int (a + b))) := rfl
@[simp] theorem sub_int (a b : Int) : subF (.val (.int a)) (.val (.int b)) = .ok (.val (.int (a - b))) := rfl
theorem add_str {x y : List Nat} (h : x.length + y.length ≤ sizeLine) : addF (.val (.str x)) (.val (.str y)) = .ok (.val (.str (x ++ y))) := if_pos h
theorem mul_lit {a b : Int} (h : -(2 ^ 64) < b ∧ b < 2 ^ 64) : mulF (.val (.int a)) (.val (.int b)) = .ok (.val (.int (a * b))) := if_pos (Or.inr h)
theorem pow_lit {a b : Int} (h : 0 ≤ b ∧ b ≤ 1000000 ∧ a.natAbs < 2 ^ 64) : powF (.val (.int a)) (.val (.int b)) = .ok (.val (.int (a ^ b.toNat))) := by
  unfold powF iiF
  exact if_pos h
@[simp] theorem eq_int (a b : Int) : eqF (.val (.int a)) (.val (.int b)) = .ok (.val (.bl (decide (a = b)))) := rfl
@[simp] theorem ne_bl (a b : Bool) : neF (.val (.bl a)) (.val (.bl b)) = .ok (.val (.bl (!decide (a = b)))) := rfl
@[simp] theorem ne_str (a b : List Nat) : neF (.val (.str a)) (.val (.str b)) = .ok (.val (.bl (!decide (a = b)))) := rfl
@[simp] theorem ib_int (g : Int → Int → Bool) (a b : Int) : ibF g (.val (.int a)) (.val (.int b)) = .ok (.val (.bl (g a b))) := rfl
@[simp] theorem le_int (a b : Int) : leF (.val (.int a)) (.val (.int b)) = .ok (.val (.bl (decide (a ≤ b)))) := rfl
theorem le_str (a b : List Nat) : leF (.val (.str a)) (.val (.str b)) = .ok (.val (.bl (!decide (b < a)))) := rfl
theorem len_str {x : List Nat} (h : x.length ≤ sizeLine) : lenF [.val (.str x)] = .ok (.val (.int x.length)) := if_pos h
theorem isi_lit {d : Dt} {T : String} (h : known T = true) : isiF [.val d, .typ T] = .ok (.val (.bl (isiB (tyName d) T))) := if_pos h
theorem isi_lst {d : List Dt} {T : String} (h : known T = true) : isiF [.lst d, .typ T] = .ok (.val (.bl (isiB "list" T))) := if_pos h
theorem ix_str {x : List Nat} {i : Int} {c : Nat} (h : x.length ≤ sizeLine) (e : atI x i = some c) : ixF (.val (.str x)) (.val (.int i)) = .ok (.val (.str [c])) := by
  show (if x.length ≤ sizeLine then (match atI x i with | some c => R.ok (Er.val (.str [c])) | none => .no) else .no) = _
  rw [if_pos h, e]
/-- a comprehension, by a map and a filter -/
theorem compF_map {cf : Rho → R Bool} {ef : Rho → R Er} {idx : List Nat} {ρ : Rho} {p : Dt → Bool} {g : Dt → Dt} : ∀ (ds : List Dt), (∀ d ∈ ds, cf (blk d idx ρ) = .ok (p d)) → (∀ d ∈ ds, p d = true → ef (blk d idx ρ) = .ok (.val (g d))) →
    compF cf ef idx ρ ds = .ok ((ds.filter p).map g)
  | [], _, _ => rfl
  | d :: ds, h1, h2 => by
    have ih := compF_map ds (fun e he => h1 e (List.mem_cons_of_mem _ he)) (fun e he => h2 e (List.mem_cons_of_mem _ he))
    unfold compF
    rw [h1 d List.mem_cons_self, R.bind_ok]
    cases hp : p d with
    | true =>
      rw [if_pos rfl, h2 d List.mem_cons_self hp, R.bind_ok]
      show (compF cf ef idx ρ ds).bind (fun out => R.ok (g d :: out)) = _
      rw [ih, R.bind_ok, List.filter_cons, hp]
      rfl
    | false =>
      rw [if_neg Bool.false_ne_true, ih, List.filter_cons, hp]
      rfl
def letter (c : Nat) : Bool := decide (97 ≤ c ∧ c ≤ 122)
theorem letter_mem (c : Nat) : decide (c ∈ [97, 98, 99, 100, 101, 102, 103, 104, 105, 106, 107, 108, 109, 110, 111, 112, 113, 114, 115, 116, 117, 118, 119, 120, 121, 122]) = letter c := by
  unfold letter
  rw [decide_eq_decide]
  simp only [List.mem_cons, List.not_mem_nil, or_false]
  omega
theorem one_lt (a b : Nat) : decide ([a] < [b]) = decide (a < b) := by
  rw [decide_eq_decide, List.cons_lt_cons_iff]
  constructor
  · rintro (h | ⟨_, h⟩)
    · exact h
    · exact absurd h (List.not_lt_nil _)
  · exact Or.inl
theorem le_sign (c : Nat) : chF leF leF (.val (.str [97])) (.val (.str [c])) (.ok (.val (.str [122]))) = .ok (.val (.bl (letter c))) := by
  unfold chF
  rw [le_str, R.bind_ok, one_lt]
  unfold letter
  by_cases h1 : c < 97
  · rw [decide_eq_true h1, decide_eq_false (by omega)]
    rfl
  · rw [decide_eq_false h1]
    show (R.ok (Er.val (.str [122]))).bind (fun r => leF (.val (.str [c])) r) = _
    rw [R.bind_ok, le_str, one_lt]
    by_cases h2 : 122 < c
    · rw [decide_eq_true h2, decide_eq_false (by omega)]; rfl
    · rw [decide_eq_false h2, decide_eq_true (by omega)]; rfl
theorem blsOf_map {α : Type} (f : α → Bool) : ∀ l : List α, blsOf (l.map fun c => Dt.bl (f c)) = some (l.map f)
  | [] => rfl
  | c :: l => by
    show (blsOf (l.map fun c => Dt.bl (f c))).map (f c :: ·) = _
    rw [blsOf_map f l]; rfl
@[simp] theorem rd_val (d : Dt) : rdSl (some (some (.val d))) = .ok (.val d) := rfl
@[simp] theorem rd_ro (d : List Dt) : rdSl (some (some (.ro d))) = .ok (.lst d) := rfl
@[simp] theorem rd_own (d : List Dt) : rdSl (some (some (.own d))) = .ok (.lst d) := rfl
@[simp] theorem rd_scr (d : List Dt) : rdSl (some (some (.scr d))) = .ok (.scr d) := rfl
@[simp] theorem bind_ok' {α β : Type} (a : α) (k : α → R β) : (R.ok a).bind k = k a := rfl
@[simp] theorem bind_no' {α β : Type} (k : α → R β) : (R.no : R α).bind k = .no := rfl
@[simp] theorem set_val (ρ : Rho) (i : Nat) (d : Dt) : setSl ρ i (.val d) = .ok (.next (ρ.set i (some (.val d)))) := rfl
@[simp] theorem set_new (ρ : Rho) (i : Nat) (d : List Dt) : setSl ρ i (.new d) = .ok (.next (ρ.set i (some (.own d)))) := rfl
@[simp] theorem fin_ret (r : Er) : finF (.ok (.ret r)) = .ok r := rfl
@[simp] theorem tru_bl (b : Bool) : truF (.val (.bl b)) = .ok b := rfl
@[simp] theorem as_bl (b : Bool) : asB (.val (.bl b)) = .ok b := rfl
@[simp] theorem as_int (i : Int) : asI (.val (.int i)) = .ok (some i) := rfl
@[simp] theorem it_str (x : List Nat) : itS (.val (.str x)) = .ok (x.map fun c => .str [c]) := rfl
@[simp] theorem it_new (x : List Dt) : itL (.new x) = .ok x := rfl
@[simp] theorem isi_v (d : Dt) (T : String) : isiF [.val d, .typ T] = if known T = true then .ok (.val (.bl (isiB (tyName d) T))) else .no := rfl
@[simp] theorem isi_l (d : List Dt) (T : String) : isiF [.lst d, .typ T] = if known T = true then .ok (.val (.bl (isiB "list" T))) else .no := rfl
theorem seq_def (F G : Rho → R Fl) (ρ : Rho) : seqF F G ρ = (F ρ).bind fun fl => match fl with
  | .next ρ' => G ρ'
  | .ret r => .ok (.ret r)
  | .brk ρ' => .ok (.brk ρ')
  | .cont ρ' => .ok (.cont ρ') := rfl
@[simp] theorem kn_int : (known "int" = true) = True := by simp [known]
@[simp] theorem kn_bool : (known "bool" = true) = True := by simp [known]
@[simp] theorem kn_str : (known "str" = true) = True := by simp [known]
@[simp] theorem kn_tuple : (known "tuple" = true) = True := by simp [known]
@[simp] theorem kn_list : (known "list" = true) = True := by simp [known]
@[simp] theorem ib_NoneType_int : isiB "NoneType" "int" = false := by decide
@[simp] theorem ib_NoneType_bool : isiB "NoneType" "bool" = false := by decide
@[simp] theorem ib_NoneType_str : isiB "NoneType" "str" = false := by decide
@[simp] theorem ib_NoneType_tuple : isiB "NoneType" "tuple" = false := by decide
@[simp] theorem ib_NoneType_list : isiB "NoneType" "list" = false := by decide
@[simp] theorem ib_bool_int : isiB "bool" "int" = true := by decide
@[simp] theorem ib_bool_bool : isiB "bool" "bool" = true := by decide
@[simp] theorem ib_bool_str : isiB "bool" "str" = false := by decide
@[simp] theorem ib_bool_tuple : isiB "bool" "tuple" = false := by decide
@[simp] theorem ib_bool_list : isiB "bool" "list" = false := by decide
@[simp] theorem ib_int_int : isiB "int" "int" = true := by decide
@[simp] theorem ib_int_bool : isiB "int" "bool" = false := by decide
@[simp] theorem ib_int_str : isiB "int" "str" = false := by decide
@[simp] theorem ib_int_tuple : isiB "int" "tuple" = false := by decide
@[simp] theorem ib_int_list : isiB "int" "list" = false := by decide
@[simp] theorem ib_str_int : isiB "str" "int" = false := by decide
@[simp] theorem ib_str_bool : isiB "str" "bool" = false := by decide
@[simp] theorem ib_str_str : isiB "str" "str" = true := by decide
@[simp] theorem ib_str_tuple : isiB "str" "tuple" = false := by decide
@[simp] theorem ib_str_list : isiB "str" "list" = false := by decide
@[simp] theorem ib_tuple_int : isiB "tuple" "int" = false := by decide
@[simp] theorem ib_tuple_bool : isiB "tuple" "bool" = false := by decide
@[simp] theorem ib_tuple_str : isiB "tuple" "str" = false := by decide
@[simp] theorem ib_tuple_tuple : isiB "tuple" "tuple" = true := by decide
@[simp] theorem ib_tuple_list : isiB "tuple" "list" = false := by decide
@[simp] theorem ib_list_int : isiB "list" "int" = false := by decide
@[simp] theorem ib_list_bool : isiB "list" "bool" = false := by decide
@[simp] theorem ib_list_str : isiB "list" "str" = false := by decide
@[simp] theorem ib_list_tuple : isiB "list" "tuple" = false := by decide
@[simp] theorem ib_list_list : isiB "list" "list" = true := by decide
@[simp] theorem ty_non : tyName .non = "NoneType" := rfl
@[simp] theorem ty_bl (b : Bool) : tyName (.bl b) = "bool" := rfl
@[simp] theorem ty_int (b : Int) : tyName (.int b) = "int" := rfl
@[simp] theorem ty_str (b : List Nat) : tyName (.str b) = "str" := rfl
@[simp] theorem ty_tup (b : List Dt) : tyName (.tup b) = "tuple" := rfl
@[simp] theorem ch_int (a b c : Int) : chF leF leF (.val (.int a)) (.val (.int b)) (.ok (.val (.int c))) = .ok (.val (.bl (decide (a ≤ b) && decide (b ≤ c)))) := by
  unfold chF
  rw [le_int, R.bind_ok]
  by_cases h : a ≤ b
  · rw [decide_eq_true h]; rfl
  · rw [decide_eq_false h]; rfl
@[simp] theorem and_bl (b : Bool) (k : R Er) : andF (.val (.bl b)) k = if b = true then k else .ok (.val (.bl false)) := rfl
@[simp] theorem or_bl (b : Bool) (k : R Er) : orF (.val (.bl b)) k = if b = true then .ok (.val (.bl true)) else k := rfl
@[simp] theorem abs_int (i : Int) : absF [.val (.int i)] = .ok (.val (.int (if i < 0 then -i else i))) := rfl
@[simp] theorem tup_v1 (d : Dt) : tupF [.val d] = .ok (.val (.tup [d])) := by
  show (if [d].length ≤ sizeLine then R.ok (Er.val (.tup [d])) else .no) = _
  rw [if_pos (by show 1 ≤ sizeLine; rw [sizeLine_eq]; decide)]
@[simp] theorem lst_v1 (d : Dt) : lstF [.val d] = .ok (.new [d]) := by
  show (if [d].length ≤ sizeLine then R.ok (Er.new [d]) else .no) = _
  rw [if_pos (by show 1 ≤ sizeLine; rw [sizeLine_eq]; decide)]
@[simp] theorem lst_nil : lstF [] = .ok (.new []) := by
  show (if 0 ≤ sizeLine then R.ok (Er.new []) else .no) = _
  rw [if_pos (Nat.zero_le _)]
theorem fits {n : Nat} (h : n ≤ 1000000) : n ≤ sizeLine := by rw [sizeLine_eq]; omega
end D2
end L2

namespace L2
namespace D2
open PySem PySem.Spec PyProof.Rows

/-! ## numbers as texts -/
def digN (n : Nat) : List Nat := (Nat.toDigits 10 n).map Char.toNat
def decL (i : Int) : List Nat := if i < 0 then 45 :: digN i.natAbs else digN i.natAbs
theorem decL_str (i : Int) : Str.ofString (toString i) = mkS (decL i) := by
  have key : (Str.ofString (toString i)).cps.toList = decL i := by
    unfold decL
    cases i with
    | ofNat m =>
      rw [if_neg (by have : (0 : Int) ≤ Int.ofNat m := Int.natCast_nonneg m; omega)]
      exact PySem.W.KIN.signs_num m
    | negSucc m =>
      rw [if_pos (Int.negSucc_lt_zero m), signs_ofString]
      show (String.toList ("-" ++ Nat.repr (m + 1))).map Char.toNat = 45 :: digN (m + 1)
      rw [String.toList_append, List.map_append, Nat.toList_repr]
      rfl
  have : ∀ s : Str, s = mkS s.cps.toList := fun s => by cases s; simp [mkS]
  rw [this (Str.ofString (toString i)), key]
section
variable {X : Cx} {W : XW} {H0 : Hp} {pos : Pos} {a b c e : Expr} {es : List Expr} {f g : Rho → R Er} {af : Rho → R (List Er)} {tf : Rho → R Bool} {F : Rho → R Fl} {as : List Stmt}
theorem call_str_sv : CallR X (.type "str") (fun xs H Q => (∃ i, xs = [.int i] ∧ i.natAbs.log2 < 1920 ∧ Q (.str (mkS (decL i))) H) ∨ ∃ x, xs = [.str x] ∧ Q (.str x) H) := by
  intro pins s σ H xs us Q I r h
  rcases h with ⟨i, rfl, hz, q⟩ | ⟨x, rfl, q⟩
  · refine call_str_int pins s σ H _ us Q I r ⟨i, rfl, hz, ?_⟩
    show Q (.str (Str.ofString (toString i))) H
    rw [decL_str]; exact q
  · obtain ⟨u, rfl, t, rfl⟩ := vals1 r
    exact PySem.P.str_of_str ⟨.str x, H, I, ⟨_, rfl⟩, q⟩
def strF : List Er → R Er
  | [.val (.int i)] => if i.natAbs.log2 < 1920 then .ok (.val (.str (decL i))) else .no
  | [.val (.str x)] => .ok (.val (.str x))
  | _ => .no
theorem cd_str : CallD X W (fun xs H Q => (∃ i, xs = [.int i] ∧ i.natAbs.log2 < 1920 ∧ Q (.str (mkS (decL i))) H) ∨ ∃ x, xs = [.str x] ∧ Q (.str x) H) strF := by
  intro rs vs H Q d post
  unfold strF at post
  split at post
  · obtain ⟨v, rfl, dv⟩ := args1 d
    cases (den_int_of dv)
    split at post
    · rename_i hz
      exact .inl ⟨_, rfl, hz, PostE.val (X := X) post (den_str _)⟩
    · exact post.elim
  · obtain ⟨v, rfl, dv⟩ := args1 d
    cases (den_str_of dv)
    exact .inr ⟨_, rfl, PostE.val (X := X) post (den_str _)⟩
  · exact post.elim
theorem call_int_sv : CallR X (.type "int") (fun xs H Q => ((∃ i, xs = [.int i] ∧ Q (.int i) H) ∨ ∃ k, xs = [.bl k] ∧ Q (.int (if k then 1 else 0)) H) ∨ ∃ x n, xs = [.str x] ∧ PySem.intText? x = some n ∧ x.length ≤ 640 ∧ Q (.int n) H) := by
  refine call_int1.or ?_
  intro pins s σ H xs us Q I r h
  obtain ⟨x, n, rfl, hn, hl, q⟩ := h
  obtain ⟨u, rfl, t, rfl⟩ := vals1 r
  exact PySem.W.KIN.call_text hn hl ⟨.int n, H, I.tok _, ⟨_, rfl⟩, q⟩
def intF : List Er → R Er
  | [.val (.int i)] => .ok (.val (.int i))
  | [.val (.bl k)] => .ok (.val (.int (if k then 1 else 0)))
  | [.val (.str x)] => match PySem.intText? (mkS x) with
    | some n => if x.length ≤ 640 then .ok (.val (.int n)) else .no
    | none => .no
  | _ => .no
theorem cd_int : CallD X W (fun xs H Q => ((∃ i, xs = [.int i] ∧ Q (.int i) H) ∨ ∃ k, xs = [.bl k] ∧ Q (.int (if k then 1 else 0)) H) ∨ ∃ x n, xs = [.str x] ∧ PySem.intText? x = some n ∧ x.length ≤ 640 ∧ Q (.int n) H) intF := by
  intro rs vs H Q d post
  unfold intF at post
  split at post
  · obtain ⟨v, rfl, dv⟩ := args1 d
    cases (den_int_of dv)
    exact .inl (.inl ⟨_, rfl, PostE.val (X := X) post (den_int _)⟩)
  · obtain ⟨v, rfl, dv⟩ := args1 d
    cases (den_bl_of dv)
    exact .inl (.inr ⟨_, rfl, PostE.val (X := X) post (den_int _)⟩)
  · obtain ⟨v, rfl, dv⟩ := args1 d
    cases (den_str_of dv)
    split at post
    · rename_i n hn
      split at post
      · rename_i hz
        exact .inr ⟨_, n, rfl, hn, by rw [mkS_len]; exact hz, PostE.val (X := X) post (den_int _)⟩
      · exact post.elim
    · exact post.elim
  · exact post.elim
/-! ### a method of a text -/
def isStrE : Er → Bool
  | .val (.str _) => true
  | _ => false
def MtD (X : Cx) (W : XW) (r : V → List V → Hp → VK → Prop) (F : Er → List Er → R Er) : Prop := ∀ p rs x vs H Q, DenX X.K H p x → ArgsX X.K H rs vs → PostE X.K W (F p rs) H Q → r x vs H Q
theorem pd_smeth {name : Str} {id : String} {r : V → List V → Hp → VK → Prop} {G : Er → List Er → R Er} {apos : Pos} (slot : Slot "str" name id) (hty : typeOf (.builtin id) = pure (.type "method_descriptor")) (hm : MtR X id r) (hG : MtD X W r G) (ho : PEd X W H0 a f) (ha : PAd X W H0 (e :: es) af)
    (hbase : attributeBase a name X.env (eval a X.env) = eval a X.env := by rfl)
    (hfew : ((backTo pos (starEach (e :: es) X.env)).all (fun x => !x.1) && (backToKw pos (keywordEach [] X.env)).all (fun x => x.1.isSome)
      && decide ((e :: es).length + ([] : List Keyword).length + (if ([] : List Keyword).isEmpty then 0 else 1) < 30)) = true := by rfl)
    (hline : (apos.endLine == pos.line) = true := by rfl) (hs : starEach (e :: es) X.env = (false, eval e X.env) :: starEach es X.env := by rfl) (hplain : (backTo pos (starEach es X.env)).any (·.1) = false := by rfl) :
    PEd X W H0 (.Call (.Attribute a name apos) (e :: es) [] pos) (fun ρ => (f ρ).bind fun p => if isStrE p = true then (af ρ).bind fun rs => G p rs else .no) := by
  obtain ⟨ta, ho, fa⟩ := ho
  obtain ⟨tr, ha, fr⟩ := ha
  refine ⟨_, pe_bm PySem.F.plainAttrs_str slot hty hm ho ha hbase hfew hline hs hplain, fun Z ρ σ H Q rel q => fa Z ρ σ H _ rel ?_⟩
  (try dsimp only at q)
  cases z : f ρ with
  | ok p =>
    rw [z, R.bind_ok] at q
    intro v H1 s d
    by_cases hp : isStrE p = true
    · rw [if_pos hp] at q
      match p, hp, d, q with
      | .val (.str x), _, d, q =>
        have e3 : v = .str (mkS x) := den_str_of d.1
        refine ⟨by rw [e3]; exact rfl, fr Z ρ σ H1 _ (rel.same s) ?_⟩
        cases z2 : af ρ with
        | ok rs =>
          rw [z2, R.bind_ok] at q
          exact fun vs H2 s2 d2 => hG _ rs v vs H2 Q (d.1.same s2) d2.x (PostE.from (s.trans s2) q)
        | exc c fs => rw [z2] at q; exact fun H' s' => q H' (s.trans s')
        | no => rw [z2] at q; exact q
    · rw [if_neg hp] at q
      exact q.elim
  | exc c fs => rw [z] at q; exact q
  | no => rw [z] at q; exact q
theorem startsL (x y : List Nat) : Txt.startswith (mkS x) (mkS y) = (decide (y.length ≤ x.length) && decide (x.take y.length = y)) := by
  show (decide (0 + (mkS y).length ≤ (mkS x).length) && PySem.Builtin.Str.subAt (mkS x) (mkS y) 0) = _
  rw [mkS_len, mkS_len, Nat.zero_add]
  congr 1
  unfold PySem.Builtin.Str.subAt
  rw [mkS_len, Bool.eq_iff_iff, beq_iff_eq, decide_eq_true_eq, Nat.zero_add]
  constructor
  · intro h
    have := congrArg Array.toList h
    simpa [mkS] using this
  · intro h
    apply Array.toList_inj.mp
    simpa [mkS] using h
def swF : Er → List Er → R Er
  | .val (.str x), [.val (.str y)] => .ok (.val (.bl (decide (y.length ≤ x.length) && decide (x.take y.length = y))))
  | _, _ => .no
theorem pd_starts {apos : Pos} (ho : PEd X W H0 a f) (ha : PAd X W H0 (e :: es) af) (hbase : attributeBase a "startswith" X.env (eval a X.env) = eval a X.env := by rfl)
    (hfew : ((backTo pos (starEach (e :: es) X.env)).all (fun x => !x.1) && (backToKw pos (keywordEach [] X.env)).all (fun x => x.1.isSome)
      && decide ((e :: es).length + ([] : List Keyword).length + (if ([] : List Keyword).isEmpty then 0 else 1) < 30)) = true := by rfl)
    (hline : (apos.endLine == pos.line) = true := by rfl) (hs : starEach (e :: es) X.env = (false, eval e X.env) :: starEach es X.env := by rfl) (hplain : (backTo pos (starEach es X.env)).any (·.1) = false := by rfl) :
    PEd X W H0 (.Call (.Attribute a "startswith" apos) (e :: es) [] pos) (fun ρ => (f ρ).bind fun p => if isStrE p = true then (af ρ).bind fun rs => swF p rs else .no) := by
  refine pd_smeth (r := fun x xs H Q => ∃ y z, x = .str (mkS y) ∧ xs = [.str (mkS z)] ∧ Q (.bl (decide (z.length ≤ y.length) && decide (y.take z.length = z))) H) PySem.F.slot_str_startswith PySem.F.type_str_startswith ?_ ?_ ho ha hbase hfew hline hs hplain
  · intro pins s σ H x xs v us Q I rx rs h
    obtain ⟨y, z, rfl, rfl, q⟩ := h
    obtain ⟨t, rfl⟩ := rx
    obtain ⟨u, rfl, t', rfl⟩ := vals1 rs
    refine PySem.SC.startswith ⟨.bl _, H, I, rfl, ?_⟩
    rw [startsL]
    exact q
  · intro p rs x vs H Q dp da post
    unfold swF at post
    split at post
    · obtain ⟨v, rfl, dv⟩ := args1 da
      exact ⟨_, _, den_str_of dp, by rw [den_str_of dv], PostE.val (X := X) post (den_bl _)⟩
    · exact post.elim
/-! ### while; what is never come to -/
def whileF (t : Rho → R Bool) (b : Rho → R Fl) : Nat → Rho → R Fl
  | 0, _ => .no
  | n + 1, ρ => (t ρ).bind fun k => if k = true then (b ρ).bind fun fl => match fl with
      | .next ρ' => whileF t b n ρ'
      | .cont ρ' => whileF t b n ρ'
      | .brk ρ' => .ok (.next ρ')
      | .ret r => .ok (.ret r)
    else .ok (.next ρ)
theorem sd_while (hp : PassesOwn (model X.prog X.w) X.A X.env X.xe) (hc : PTd X W H0 c tf) (hb : PSsd X W H0 as F) : PSd X W H0 (.While c as [] pos) (fun ρ => whileF tf F 10000 ρ) := by
  obtain ⟨tc, hc, kc⟩ := hc
  obtain ⟨tb, hb, kb⟩ := hb
  refine ⟨_, ps_while hp hc hb, fun Z ρ σ H D rel q => ⟨fun m σ1 H1 => ∃ ρ1, RelS X.K H0 Z ρ1 σ1 H1 ∧ PostS X.K W H0 Z D (whileF tf F m ρ1), ⟨10000, ρ, rel, q⟩, ?_⟩⟩
  rintro m σ1 H1 ⟨ρ1, rel1, q1⟩
  cases m with
  | zero => exact q1.elim
  | succ n =>
    unfold whileF at q1
    refine kc Z ρ1 σ1 H1 _ rel1 ?_
    cases z : tf ρ1 with
    | ok k =>
      rw [z, R.bind_ok] at q1
      intro H2 s2
      cases k with
      | false => rw [if_neg Bool.false_ne_true] at q1 ⊢; exact q1 σ1 H2 (rel1.same s2)
      | true =>
        rw [if_pos rfl] at q1 ⊢
        refine ⟨fun σ' H' => ∃ ρ', RelS X.K H0 Z ρ' σ' H' ∧ PostS X.K W H0 Z D (whileF tf F n ρ'), fun σ' H' h => ⟨n, Nat.lt_succ_self n, h⟩, kb Z ρ1 σ1 H2 _ (rel1.same s2) ?_⟩
        cases z2 : F ρ1 with
        | ok fl =>
          rw [z2, R.bind_ok] at q1
          cases fl with
          | next ρ' => exact fun σ' H' r' => ⟨ρ', r', q1⟩
          | cont ρ' => exact fun σ' H' r' => ⟨ρ', r', q1⟩
          | brk ρ' => exact q1
          | ret r => exact q1
        | exc c fs => rw [z2] at q1; exact q1
        | no => rw [z2] at q1; exact q1
    | exc c fs => rw [z] at q1; exact fun H' s' => q1 H' (rel1.ext.trans s')
    | no => rw [z] at q1; exact q1
theorem sd_never {st : Stmt} : PSd X W H0 st (fun _ => .no) := ⟨_, ps_never, fun Z ρ σ H D rel q => q.elim⟩
end
end D2
end L2

namespace L2
namespace D2
open PySem PySem.Spec PyProof.Rows
/-! ## more reckoning: rows of statements, loops, texts, figures -/
theorem seq_next {F G : Rho → R Fl} {ρ ρ' : Rho} (h : F ρ = .ok (.next ρ')) : seqF F G ρ = G ρ' := by unfold seqF; rw [h]; rfl
theorem seq_ret {F G : Rho → R Fl} {ρ : Rho} {r : Er} (h : F ρ = .ok (.ret r)) : seqF F G ρ = .ok (.ret r) := by unfold seqF; rw [h]; rfl
theorem for_next {i : Nat} {b : Rho → R Fl} {ρ ρ' : Rho} {d : Dt} {ds : List Dt} (h : b (ρ.set i (some (.val d))) = .ok (.next ρ')) : forF i b (d :: ds) ρ = forF i b ds ρ' := by
  show (b (ρ.set i (some (.val d)))).bind _ = _
  rw [h]; rfl
theorem for_ret {i : Nat} {b : Rho → R Fl} {ρ : Rho} {d : Dt} {ds : List Dt} {r : Er} (h : b (ρ.set i (some (.val d))) = .ok (.ret r)) : forF i b (d :: ds) ρ = .ok (.ret r) := by
  show (b (ρ.set i (some (.val d)))).bind _ = _
  rw [h]; rfl
theorem while_next {t : Rho → R Bool} {b : Rho → R Fl} {n : Nat} {ρ ρ' : Rho} (h1 : t ρ = .ok true) (h2 : b ρ = .ok (.next ρ')) : whileF t b (n + 1) ρ = whileF t b n ρ' := by
  show ((t ρ).bind fun k => if k = true then _ else _) = _
  rw [h1, R.bind_ok, if_pos rfl, h2]; rfl
theorem while_end {t : Rho → R Bool} {b : Rho → R Fl} {n : Nat} {ρ : Rho} (h1 : t ρ = .ok false) : whileF t b (n + 1) ρ = .ok (.next ρ) := by
  show ((t ρ).bind fun k => if k = true then _ else _) = _
  rw [h1, R.bind_ok, if_neg Bool.false_ne_true]
theorem atI_in {α : Type} {xs : List α} {i : Int} (h0 : 0 ≤ i) (h1 : i < xs.length) : ∃ c, atI xs i = some c := by
  obtain ⟨n, rfl⟩ := Int.eq_ofNat_of_zero_le h0
  have hn : n < xs.length := by omega
  exact ⟨xs[n], atI_nat (List.getElem?_eq_getElem hn)⟩
theorem atI_all {α : Type} {P : α → Prop} {xs : List α} {i : Int} {e : α} (h : ∀ e ∈ xs, P e) (z : atI xs i = some e) : P e := by
  obtain ⟨j, _, h2, _⟩ := atI_get z
  exact h e (List.mem_of_getElem? h2)
theorem mul_litL {a b : Int} (h : -(2 ^ 64) < a ∧ a < 2 ^ 64) : mulF (.val (.int a)) (.val (.int b)) = .ok (.val (.int (a * b))) := if_pos (Or.inl h)
theorem mul_str {x : List Nat} {k : Int} (h : 0 ≤ k ∧ k < 1000 ∧ x.length ≤ 1000) : mulF (.val (.str x)) (.val (.int k)) = .ok (.val (.str (repL x k))) := if_pos h
theorem cut_str {x : List Nat} (h : x.length ≤ sizeLine) (lo hi : Option Int) : cutF (.val (.str x)) lo hi = .ok (.val (.str (cutL x lo hi))) := if_pos h
theorem cutL_len {α : Type} (x : List α) (lo hi : Option Int) : (cutL x lo hi).length ≤ x.length := by
  unfold cutL
  rw [List.length_take, List.length_drop]
  omega
theorem cutL_mem {α : Type} {x : List α} {lo hi : Option Int} {a : α} (h : a ∈ cutL x lo hi) : a ∈ x := List.mem_of_mem_drop (List.mem_of_mem_take h)
theorem cutL_map {α β : Type} (f : α → β) (x : List α) (lo hi : Option Int) : cutL (x.map f) lo hi = (cutL x lo hi).map f := by
  unfold cutL
  rw [List.length_map, List.map_take, List.map_drop]
theorem cutL_from1 {α : Type} (a : α) (x : List α) : cutL (a :: x) (some 1) none = x := by
  have h1 : HT.sIx (a :: x).length 0 (some 1) = 1 := by
    unfold HT.sIx
    rw [List.length_cons]
    simp
  have h2 : HT.sIx (a :: x).length (a :: x).length none = (a :: x).length := rfl
  unfold cutL
  rw [h1, h2]
  simp
theorem pick_ok {rs : List Er} {i : Int} {r : Er} (h : atI rs i = some r) : pickF rs (.val (.int i)) = .ok r := by
  show (match atI rs i with | some r => R.ok r | none => .no) = _
  rw [h]
theorem rng_ok {j : Int} (h : -(2 ^ 62) ≤ j ∧ j < 2 ^ 62) : rng1F [.val (.int j)] = .ok ((List.range j.toNat).map fun k => .int (k : Nat)) := if_pos h
/-! ### names and values of the document -/
def Nm (x : List Nat) : Prop := 1 ≤ x.length ∧ x.length ≤ 8 ∧ ∀ c ∈ x, 97 ≤ c ∧ c ≤ 122
def Vl : Dt → Prop
  | .int i => -(10 ^ 30) < i ∧ i < 10 ^ 30
  | .str x => Nm x
  | _ => False
theorem all_letter {x : List Nat} (h : ∀ c ∈ x, 97 ≤ c ∧ c ≤ 122) : x.all letter = true := by
  rw [List.all_eq_true]
  intro c hc
  exact decide_eq_true (h c hc)
/-! ### figures -/
def fig (n : Nat) : Nat := 48 + n
theorem digitChar_nat : ∀ d : Nat, d < 10 → (Nat.digitChar d).toNat = 48 + d := by decide
theorem digN_lt {m : Nat} (h : m < 10) : digN m = [48 + m] := by
  unfold digN
  rw [Nat.toDigits_of_lt_base h]
  show [(Nat.digitChar m).toNat] = _
  rw [digitChar_nat m h]
theorem digN_step {m : Nat} (h : ¬ m < 10) : digN m = digN (m / 10) ++ [48 + m % 10] := by
  have hm : m % 10 < 10 := Nat.mod_lt m (by decide)
  have t : Nat.toDigits 10 (m / 10) ++ Nat.toDigits 10 (m % 10) = Nat.toDigits 10 (10 * (m / 10) + m % 10) := Nat.toDigits_append_toDigits (by decide) (by omega) hm
  rw [Nat.div_add_mod] at t
  have e := digN_lt hm
  unfold digN at e ⊢
  rw [← t, List.map_append, e]
theorem digN_len : ∀ (k m : Nat), m < 10 ^ k → (digN m).length ≤ k + 1
  | 0, m, h => by rw [digN_lt (by omega)]; exact Nat.le_refl _
  | k + 1, m, h => by
    by_cases hm : m < 10
    · rw [digN_lt hm]; simp
    · rw [digN_step hm, List.length_append, List.length_singleton]
      have := digN_len k (m / 10) (by rw [Nat.pow_succ] at h; omega)
      omega
theorem digN_len' {k m : Nat} (h : m < 10 ^ (k + 1)) : (digN m).length ≤ k + 1 := by
  by_cases hm : m < 10
  · rw [digN_lt hm]; simp
  · rw [digN_step hm, List.length_append, List.length_singleton]
    have : ∀ (k m : Nat), m < 10 ^ k → 0 < m → (digN m).length ≤ k := by
      intro k
      induction k with
      | zero => intro m h h0; omega
      | succ k ih =>
        intro m h h0
        by_cases hm : m < 10
        · rw [digN_lt hm]; simp
        · rw [digN_step hm, List.length_append, List.length_singleton]
          have := ih (m / 10) (by rw [Nat.pow_succ] at h; omega) (by omega)
          omega
    have := this k (m / 10) (by rw [Nat.pow_succ] at h; omega) (by omega)
    omega
theorem digN_all (m : Nat) : ∀ c ∈ digN m, 48 ≤ c ∧ c ≤ 57 := by
  induction m using Nat.strongRecOn with
  | _ m ih =>
    by_cases h : m < 10
    · rw [digN_lt h]
      intro c hc
      rw [List.mem_singleton] at hc
      omega
    · rw [digN_step h]
      intro c hc
      rw [List.mem_append, List.mem_singleton] at hc
      rcases hc with hc | hc
      · exact ih (m / 10) (by omega) c hc
      · omega
theorem digN_head {m : Nat} (h : 0 < m) : ∃ c t, digN m = c :: t ∧ 49 ≤ c ∧ c ≤ 57 := by
  induction m using Nat.strongRecOn with
  | _ m ih =>
    by_cases hm : m < 10
    · exact ⟨48 + m, [], digN_lt hm, by omega, by omega⟩
    · obtain ⟨c, t, e, h1, h2⟩ := ih (m / 10) (by omega) (by omega)
      exact ⟨c, t ++ [48 + m % 10], by rw [digN_step hm, e]; rfl, h1, h2⟩
theorem digN_ne (m : Nat) : digN m ≠ [] := by
  by_cases hm : m < 10
  · rw [digN_lt hm]; simp
  · rw [digN_step hm]; simp
theorem dec_nonneg {i : Int} (h : 0 ≤ i) : decL i = digN i.natAbs := if_neg (by omega)
theorem dec_neg {i : Int} (h : i < 0) : decL i = 45 :: digN i.natAbs := if_pos h
theorem dec_len {i : Int} {k : Nat} (h : i.natAbs < 10 ^ (k + 1)) : (decL i).length ≤ k + 2 := by
  have := digN_len' h
  unfold decL
  split
  · rw [List.length_cons]; omega
  · omega
theorem dec_reads {i : Int} (h : (decL i).length ≤ 640) : PySem.intText? (mkS (decL i)) = some i := by
  have hc : ∀ x : List Nat, (mkS x).cps.toList = x := fun x => by simp [mkS]
  have hl : (mkS (decL i)).length ≤ 4300 := by rw [mkS_len]; omega
  by_cases hi : i < 0
  · have e := PySem.intText_neg (x := mkS (decL i)) (cs := digN i.natAbs) (by rw [hc, dec_neg hi]) (digN_all _) (digN_ne _) hl
    rw [e, show PySem.NumText.digitsVal (digN i.natAbs) = i.natAbs from PySem.W.KIN.val_back _]
    congr 1
    omega
  · have e := PySem.intText_digits (x := mkS (decL i)) (by rw [hc, dec_nonneg (by omega)]; exact digN_all _) (by rw [hc, dec_nonneg (by omega)]; exact digN_ne _) hl
    rw [e, hc, dec_nonneg (by omega), show PySem.NumText.digitsVal (digN i.natAbs) = i.natAbs from PySem.W.KIN.val_back _]
    congr 1
    omega
theorem int_dec {i : Int} (h : (decL i).length ≤ 640) : intF [.val (.str (decL i))] = .ok (.val (.int i)) := by
  show (match PySem.intText? (mkS (decL i)) with | some n => if (decL i).length ≤ 640 then R.ok (Er.val (Dt.int n)) else R.no | none => R.no) = _
  rw [dec_reads h]
  exact if_pos h
theorem str_int {i : Int} (h : i.natAbs < 2 ^ 200) : strF [.val (.int i)] = .ok (.val (.str (decL i))) := by
  refine if_pos ?_
  by_cases hz : i.natAbs = 0
  · rw [hz]; decide
  · have := (Nat.log2_lt hz (k := 200)).mpr h
    omega
@[simp] theorem str_str (x : List Nat) : strF [.val (.str x)] = .ok (.val (.str x)) := rfl
@[simp] theorem int_bl (k : Bool) : intF [.val (.bl k)] = .ok (.val (.int (if k then 1 else 0))) := rfl
@[simp] theorem eq_str (a b : List Nat) : eqF (.val (.str a)) (.val (.str b)) = .ok (.val (.bl (decide (a = b)))) := rfl
@[simp] theorem ne_int (a b : Int) : neF (.val (.int a)) (.val (.int b)) = .ok (.val (.bl (!decide (a = b)))) := rfl
def figL : List Nat := [48, 49, 50, 51, 52, 53, 54, 55, 56, 57]
theorem fig_at {n : Int} (h0 : 0 ≤ n) (h1 : n < 10) : atI figL n = some (48 + n.toNat) := by
  obtain ⟨k, rfl⟩ := Int.eq_ofNat_of_zero_le h0
  have hk : k < 10 := by omega
  have : ∀ k, k < 10 → figL[k]? = some (48 + k) := by decide
  exact atI_nat (this k hk)
theorem fig_mem (c : Nat) : decide (c ∈ figL) = decide (48 ≤ c ∧ c ≤ 57) := by
  rw [decide_eq_decide]
  simp only [figL, List.mem_cons, List.not_mem_nil, or_false]
  omega
@[simp] theorem isStr_str (x : List Nat) : (isStrE (.val (.str x)) = true) = True := eq_true rfl
@[simp] theorem sw_str (x y : List Nat) : swF (.val (.str x)) [.val (.str y)] = .ok (.val (.bl (decide (y.length ≤ x.length) && decide (x.take y.length = y)))) := rfl
theorem sz0 : (0 ≤ sizeLine) = True := by rw [sizeLine_eq]; decide
theorem sz1 : (0 + 1 ≤ sizeLine) = True := by rw [sizeLine_eq]; decide
theorem sz2 : (0 + 1 + 1 ≤ sizeLine) = True := by rw [sizeLine_eq]; decide
theorem sz3 : (0 + 1 + 1 + 1 ≤ sizeLine) = True := by rw [sizeLine_eq]; decide
theorem sz4 : (0 + 1 + 1 + 1 + 1 ≤ sizeLine) = True := by rw [sizeLine_eq]; decide
theorem sz5 : (0 + 1 + 1 + 1 + 1 + 1 ≤ sizeLine) = True := by rw [sizeLine_eq]; decide
theorem sz6 : (0 + 1 + 1 + 1 + 1 + 1 + 1 ≤ sizeLine) = True := by rw [sizeLine_eq]; decide
theorem sz7 : (0 + 1 + 1 + 1 + 1 + 1 + 1 + 1 ≤ sizeLine) = True := by rw [sizeLine_eq]; decide
theorem sz8 : (0 + 1 + 1 + 1 + 1 + 1 + 1 + 1 + 1 ≤ sizeLine) = True := by rw [sizeLine_eq]; decide
theorem sz9 : (0 + 1 + 1 + 1 + 1 + 1 + 1 + 1 + 1 + 1 ≤ sizeLine) = True := by rw [sizeLine_eq]; decide
theorem sz10 : (0 + 1 + 1 + 1 + 1 + 1 + 1 + 1 + 1 + 1 + 1 ≤ sizeLine) = True := by rw [sizeLine_eq]; decide
theorem sz11 : (0 + 1 + 1 + 1 + 1 + 1 + 1 + 1 + 1 + 1 + 1 + 1 ≤ sizeLine) = True := by rw [sizeLine_eq]; decide
theorem sz12 : (0 + 1 + 1 + 1 + 1 + 1 + 1 + 1 + 1 + 1 + 1 + 1 + 1 ≤ sizeLine) = True := by rw [sizeLine_eq]; decide
end D2
end L2

namespace L2
namespace D2
namespace My
open PySem PySem.Spec PyProof.Rows
def F_is_name_1 : Rho → R Fl := (fun ρ => ((((((rdSl (ρ[0]?)).bind fun p => ((R.ok (.typ "str")).bind fun p => (R.ok []).bind fun ps => .ok (p :: ps)).bind fun ps => .ok (p :: ps)).bind isiF).bind truF).bind fun b => .ok !b).bind fun k => if k = true then .ok true else ((((R.ok (.val (.int 1))).bind fun p => (((rdSl (ρ[0]?)).bind fun p => (R.ok []).bind fun ps => .ok (p :: ps)).bind lenF).bind fun q => chF leF leF p q (R.ok (.val (.int 8)))).bind asB).bind fun b => .ok !b)).bind fun k => if k = true then ((fun ρ => (R.ok (.val (.bl false))).bind fun r => .ok (.ret r))) ρ else (fun ρ => .ok (.next ρ)) ρ)
def F_is_name_2 : Rho → R Fl := (fun ρ => (((((rdSl (ρ[0]?)).bind itS).bind fun ds => if ds.length < 1000000 then (compF (fun ρ => (R.ok true)) (fun ρ => ((R.ok (.val (.str [97]))).bind fun p => (rdSl (ρ[0]?)).bind fun q => chF leF leF p q (R.ok (.val (.str [122]))))) [] ρ ds).bind fun out => .ok (.new out) else .no).bind fun p => (R.ok []).bind fun ps => .ok (p :: ps)).bind allF).bind fun r => .ok (.ret r))
def F_is_name : Rho → R Fl := seqF F_is_name_1 (F_is_name_2)
def f_is_name (rs : List Er) : R Er := finF (F_is_name (startR ["thing"] rs))
def F_show_value_1 : Rho → R Fl := (fun ρ => (((rdSl (ρ[0]?)).bind fun p => (R.ok []).bind fun ps => .ok (p :: ps)).bind strF).bind fun r => .ok (.ret r))
def F_show_value : Rho → R Fl := F_show_value_1
def f_show_value (rs : List Er) : R Er := finF (F_show_value (startR ["value"] rs))
def F_writes_number_1 : Rho → R Fl := (fun ρ => ((((rdSl (ρ[0]?)).bind fun p => if isStrE p = true then ((R.ok (.val (.str [45]))).bind fun p => (R.ok []).bind fun ps => .ok (p :: ps)).bind fun rs => swF p rs else .no).bind truF).bind fun k => if k = true then ((rdSl (ρ[0]?)).bind fun p => ((R.ok (.val (.int 1))).bind asI).bind fun l => (R.ok none).bind fun u => cutF p l u) else (rdSl (ρ[0]?))).bind (setSl ρ 1))
def F_writes_number_2 : Rho → R Fl := (fun ρ => ((((R.ok (.val (.int 1))).bind fun p => (((rdSl (ρ[1]?)).bind fun p => (R.ok []).bind fun ps => .ok (p :: ps)).bind lenF).bind fun q => chF leF leF p q (R.ok (.val (.int 30)))).bind asB).bind fun b => .ok !b).bind fun k => if k = true then ((fun ρ => (R.ok (.val (.bl false))).bind fun r => .ok (.ret r))) ρ else (fun ρ => .ok (.next ρ)) ρ)
def F_writes_number_3 : Rho → R Fl := (fun ρ => (((((((rdSl (ρ[1]?)).bind itS).bind fun ds => if ds.length < 1000000 then (compF (fun ρ => (R.ok true)) (fun ρ => ((rdSl (ρ[0]?)).bind fun p => (R.ok (.val (.str [48, 49, 50, 51, 52, 53, 54, 55, 56, 57]))).bind fun q => inF false p q)) [] ρ ds).bind fun out => .ok (.new out) else .no).bind fun p => (R.ok []).bind fun ps => .ok (p :: ps)).bind allF).bind truF).bind fun b => .ok !b).bind fun k => if k = true then ((fun ρ => (R.ok (.val (.bl false))).bind fun r => .ok (.ret r))) ρ else (fun ρ => .ok (.next ρ)) ρ)
def F_writes_number_4 : Rho → R Fl := (fun ρ => (((rdSl (ρ[0]?)).bind fun p => (R.ok (.val (.str [48]))).bind fun q => eqF p q).bind fun p => orF p (((rdSl (ρ[1]?)).bind fun p => (R.ok (.val (.int 0))).bind fun q => ixF p q).bind fun p => (R.ok (.val (.str [48]))).bind fun q => neF p q)).bind fun r => .ok (.ret r))
def F_writes_number : Rho → R Fl := seqF F_writes_number_1 (seqF F_writes_number_2 (seqF F_writes_number_3 (F_writes_number_4)))
def f_writes_number (rs : List Er) : R Er := finF (F_writes_number (startR ["text", "figures"] rs))
def F_read_value_1 : Rho → R Fl := (fun ρ => (((((rdSl (ρ[0]?)).bind fun p => ((R.ok (.typ "str")).bind fun p => (R.ok []).bind fun ps => .ok (p :: ps)).bind fun ps => .ok (p :: ps)).bind isiF).bind truF).bind fun b => .ok !b).bind fun k => if k = true then ((fun _ => R.no)) ρ else (fun ρ => .ok (.next ρ)) ρ)
def F_read_value_2 : Rho → R Fl := (fun ρ => ((((rdSl (ρ[0]?)).bind fun p => (R.ok []).bind fun ps => .ok (p :: ps)).bind fun rs => if rs.length = 1 then f_is_name rs else .no).bind truF).bind fun k => if k = true then ((fun ρ => (rdSl (ρ[0]?)).bind fun r => .ok (.ret r))) ρ else (fun ρ => .ok (.next ρ)) ρ)
def F_read_value_3 : Rho → R Fl := (fun ρ => ((((rdSl (ρ[0]?)).bind fun p => (R.ok []).bind fun ps => .ok (p :: ps)).bind fun rs => if rs.length = 1 then f_writes_number rs else .no).bind truF).bind fun k => if k = true then ((fun ρ => (((rdSl (ρ[0]?)).bind fun p => (R.ok []).bind fun ps => .ok (p :: ps)).bind intF).bind fun r => .ok (.ret r))) ρ else (fun ρ => .ok (.next ρ)) ρ)
def F_read_value_4 : Rho → R Fl := (fun _ => R.no)
def F_read_value : Rho → R Fl := seqF F_read_value_1 (seqF F_read_value_2 (seqF F_read_value_3 (F_read_value_4)))
def f_read_value (rs : List Er) : R Er := finF (F_read_value (startR ["text"] rs))
def B__law_name_w1_1 : Rho → R Fl := (fun ρ => ((rdSl (ρ[3]?)).bind fun p => ((rdSl (ρ[1]?)).bind fun p => ((rdSl (ρ[2]?)).bind fun p => (R.ok (.val (.int 26))).bind fun q => modF p q).bind fun q => ixF p q).bind fun q => addF p q).bind (setSl ρ 3))
def B__law_name_w1_2 : Rho → R Fl := (fun ρ => ((rdSl (ρ[2]?)).bind fun p => (R.ok (.val (.int 26))).bind fun q => divF p q).bind (setSl ρ 2))
def B__law_name_w1 : Rho → R Fl := seqF B__law_name_w1_1 (B__law_name_w1_2)
def F__law_name_1 : Rho → R Fl := (fun ρ => (R.ok (.val (.str [97, 98, 99, 100, 101, 102, 103, 104, 105, 106, 107, 108, 109, 110, 111, 112, 113, 114, 115, 116, 117, 118, 119, 120, 121, 122]))).bind (setSl ρ 1))
def F__law_name_2 : Rho → R Fl := (fun ρ => ((rdSl (ρ[0]?)).bind fun p => (R.ok (.val (.int 8))).bind fun q => divF p q).bind (setSl ρ 2))
def F__law_name_3 : Rho → R Fl := (fun ρ => (R.ok (.val (.str []))).bind (setSl ρ 3))
def F__law_name_4 : Rho → R Fl := (fun ρ => ((((R.ok (.val (.int 1))).bind fun p => ((rdSl (ρ[0]?)).bind fun p => (R.ok (.val (.int 8))).bind fun q => modF p q).bind fun q => addF p q).bind fun p => (R.ok []).bind fun ps => .ok (p :: ps)).bind rng1F).bind fun ds => forF 4 B__law_name_w1 ds ρ)
def F__law_name_5 : Rho → R Fl := (fun ρ => (rdSl (ρ[3]?)).bind fun r => .ok (.ret r))
def F__law_name : Rho → R Fl := seqF F__law_name_1 (seqF F__law_name_2 (seqF F__law_name_3 (seqF F__law_name_4 (F__law_name_5))))
def f__law_name (rs : List Er) : R Er := finF (F__law_name (startR ["_law_cell", "_law_letters", "_law_number", "_law_name_here", "_law_k"] rs))
def F__law_value_1 : Rho → R Fl := (fun ρ => ((rdSl (ρ[0]?)).bind fun p => (R.ok (.val (.int 5))).bind fun q => divF p q).bind (setSl ρ 1))
def F__law_value_2 : Rho → R Fl := (fun ρ => ((((rdSl (ρ[0]?)).bind fun p => (R.ok (.val (.int 5))).bind fun q => modF p q).bind fun p => (R.ok (.val (.int 0))).bind fun q => eqF p q).bind asB).bind fun k => if k = true then ((fun ρ => (((R.ok (.val (.int 0))).bind fun p => ((R.ok (.val (.int 1))).bind fun p => ((R.ok (.val (.int (-1)))).bind fun p => ((((R.ok (.val (.int 10))).bind fun p => (R.ok (.val (.int 30))).bind fun q => powF p q).bind fun p => (R.ok (.val (.int 1))).bind fun q => subF p q).bind fun p => (((R.ok (.val (.int 1))).bind fun p => ((R.ok (.val (.int 10))).bind fun p => (R.ok (.val (.int 30))).bind fun q => powF p q).bind fun q => subF p q).bind fun p => (((R.ok (.val (.int 10))).bind fun p => (R.ok (.val (.int 29))).bind fun q => powF p q).bind fun p => (R.ok []).bind fun ps => .ok (p :: ps)).bind fun ps => .ok (p :: ps)).bind fun ps => .ok (p :: ps)).bind fun ps => .ok (p :: ps)).bind fun ps => .ok (p :: ps)).bind fun ps => .ok (p :: ps)).bind fun rs => if rs.length ≤ sizeLine then ((rdSl (ρ[1]?)).bind fun p => (R.ok (.val (.int 6))).bind fun q => modF p q).bind fun q => pickF rs q else .no).bind fun r => .ok (.ret r))) ρ else (fun ρ => .ok (.next ρ)) ρ)
def F__law_value_3 : Rho → R Fl := (fun ρ => ((((rdSl (ρ[0]?)).bind fun p => (R.ok (.val (.int 5))).bind fun q => modF p q).bind fun p => (R.ok (.val (.int 1))).bind fun q => eqF p q).bind asB).bind fun k => if k = true then ((fun ρ => (((rdSl (ρ[1]?)).bind fun p => (R.ok (.val (.int 23))).bind fun q => modF p q).bind fun p => (R.ok (.val (.int 11))).bind fun q => subF p q).bind fun r => .ok (.ret r))) ρ else (fun ρ => .ok (.next ρ)) ρ)
def F__law_value_4 : Rho → R Fl := (fun ρ => ((((rdSl (ρ[0]?)).bind fun p => (R.ok (.val (.int 5))).bind fun q => modF p q).bind fun p => (R.ok (.val (.int 2))).bind fun q => eqF p q).bind asB).bind fun k => if k = true then ((fun ρ => ((((((((rdSl (ρ[1]?)).bind fun p => ((R.ok (.val (.int 10))).bind fun p => (R.ok (.val (.int 12))).bind fun q => powF p q).bind fun q => modF p q).bind fun p => (R.ok (.val (.int 48271))).bind fun q => mulF p q).bind fun p => (R.ok (.val (.int 11))).bind fun q => addF p q).bind fun p => (R.ok (.val (.int 5))).bind fun q => powF p q).bind fun p => (((R.ok (.val (.int 2))).bind fun p => ((R.ok (.val (.int 10))).bind fun p => (R.ok (.val (.int 30))).bind fun q => powF p q).bind fun q => mulF p q).bind fun p => (R.ok (.val (.int 1))).bind fun q => subF p q).bind fun q => modF p q).bind fun p => ((R.ok (.val (.int 10))).bind fun p => (R.ok (.val (.int 30))).bind fun q => powF p q).bind fun q => subF p q).bind fun p => (R.ok (.val (.int 1))).bind fun q => addF p q).bind fun r => .ok (.ret r))) ρ else (fun ρ => .ok (.next ρ)) ρ)
def F__law_value_5 : Rho → R Fl := (fun ρ => ((((rdSl (ρ[0]?)).bind fun p => (R.ok (.val (.int 5))).bind fun q => modF p q).bind fun p => (R.ok (.val (.int 3))).bind fun q => eqF p q).bind asB).bind fun k => if k = true then ((fun ρ => ((((rdSl (ρ[1]?)).bind fun p => (((R.ok (.val (.int 2))).bind fun p => ((R.ok (.val (.int 10))).bind fun p => (R.ok (.val (.int 30))).bind fun q => powF p q).bind fun q => mulF p q).bind fun p => (R.ok (.val (.int 1))).bind fun q => subF p q).bind fun q => modF p q).bind fun p => ((R.ok (.val (.int 10))).bind fun p => (R.ok (.val (.int 30))).bind fun q => powF p q).bind fun q => subF p q).bind fun p => (R.ok (.val (.int 1))).bind fun q => addF p q).bind fun r => .ok (.ret r))) ρ else (fun ρ => .ok (.next ρ)) ρ)
def F__law_value_6 : Rho → R Fl := (fun ρ => (((rdSl (ρ[1]?)).bind fun p => (R.ok []).bind fun ps => .ok (p :: ps)).bind fun rs => if rs.length = 1 then f__law_name rs else .no).bind fun r => .ok (.ret r))
def F__law_value : Rho → R Fl := seqF F__law_value_1 (seqF F__law_value_2 (seqF F__law_value_3 (seqF F__law_value_4 (seqF F__law_value_5 (F__law_value_6)))))
def f__law_value (rs : List Er) : R Er := finF (F__law_value (startR ["_law_cell", "_law_rest"] rs))
def B__law_written_w1_1 : Rho → R Fl := (fun ρ => ((rdSl (ρ[1]?)).bind fun p => (R.ok (.val (.int 10))).bind fun q => divF p q).bind (setSl ρ 1))
def B__law_written_w1_2 : Rho → R Fl := (fun ρ => (((R.ok (.val (.str [48, 49, 50, 51, 52, 53, 54, 55, 56, 57]))).bind fun p => ((rdSl (ρ[1]?)).bind fun p => (R.ok (.val (.int 10))).bind fun q => modF p q).bind fun q => ixF p q).bind fun p => (rdSl (ρ[2]?)).bind fun q => addF p q).bind (setSl ρ 2))
def B__law_written_w1 : Rho → R Fl := seqF B__law_written_w1_1 (B__law_written_w1_2)
def T__law_written_w1 : Rho → R Bool := fun ρ => (((rdSl (ρ[1]?)).bind fun p => (R.ok (.val (.int 9))).bind fun q => ibF (fun i j => decide (j < i)) p q).bind asB)
def F__law_written_1 : Rho → R Fl := (fun ρ => ((((rdSl (ρ[0]?)).bind fun p => ((R.ok (.typ "str")).bind fun p => (R.ok []).bind fun ps => .ok (p :: ps)).bind fun ps => .ok (p :: ps)).bind isiF).bind truF).bind fun k => if k = true then ((fun ρ => (rdSl (ρ[0]?)).bind fun r => .ok (.ret r))) ρ else (fun ρ => .ok (.next ρ)) ρ)
def F__law_written_2 : Rho → R Fl := (fun ρ => (((rdSl (ρ[0]?)).bind fun p => (R.ok []).bind fun ps => .ok (p :: ps)).bind absF).bind (setSl ρ 1))
def F__law_written_3 : Rho → R Fl := (fun ρ => ((R.ok (.val (.str [48, 49, 50, 51, 52, 53, 54, 55, 56, 57]))).bind fun p => ((rdSl (ρ[1]?)).bind fun p => (R.ok (.val (.int 10))).bind fun q => modF p q).bind fun q => ixF p q).bind (setSl ρ 2))
def F__law_written_4 : Rho → R Fl := (fun ρ => whileF T__law_written_w1 B__law_written_w1 10000 ρ)
def F__law_written_5 : Rho → R Fl := (fun ρ => (((R.ok (.val (.str [45]))).bind fun p => ((((rdSl (ρ[0]?)).bind fun p => (R.ok (.val (.int 0))).bind fun q => ibF (fun i j => decide (i < j)) p q).bind fun p => (R.ok []).bind fun ps => .ok (p :: ps)).bind intF).bind fun q => mulF p q).bind fun p => (rdSl (ρ[2]?)).bind fun q => addF p q).bind fun r => .ok (.ret r))
def F__law_written : Rho → R Fl := seqF F__law_written_1 (seqF F__law_written_2 (seqF F__law_written_3 (seqF F__law_written_4 (F__law_written_5))))
def f__law_written (rs : List Er) : R Er := finF (F__law_written (startR ["_law_value_here", "_law_number", "_law_text"] rs))
def B_law_w1_1 : Rho → R Fl := (fun ρ => (((rdSl (ρ[1]?)).bind fun p => (R.ok []).bind fun ps => .ok (p :: ps)).bind fun rs => if rs.length = 1 then f__law_value rs else .no).bind (setSl ρ 2))
def B_law_w1_2 : Rho → R Fl := (fun ρ => (((rdSl (ρ[2]?)).bind fun p => (R.ok []).bind fun ps => .ok (p :: ps)).bind fun rs => if rs.length = 1 then f_show_value rs else .no).bind (setSl ρ 3))
def B_law_w1_3 : Rho → R Fl := (fun ρ => ((((((rdSl (ρ[3]?)).bind fun p => ((R.ok (.typ "str")).bind fun p => (R.ok []).bind fun ps => .ok (p :: ps)).bind fun ps => .ok (p :: ps)).bind isiF).bind truF).bind fun b => .ok !b).bind fun k => if k = true then .ok true else (((rdSl (ρ[3]?)).bind fun p => (((rdSl (ρ[2]?)).bind fun p => (R.ok []).bind fun ps => .ok (p :: ps)).bind fun rs => if rs.length = 1 then f__law_written rs else .no).bind fun q => neF p q).bind asB)).bind fun k => if k = true then ((fun ρ => (R.ok (.val (.bl false))).bind fun r => .ok (.ret r))) ρ else (fun ρ => .ok (.next ρ)) ρ)
def B_law_w1_4 : Rho → R Fl := (fun ρ => (((rdSl (ρ[3]?)).bind fun p => (R.ok []).bind fun ps => .ok (p :: ps)).bind fun rs => if rs.length = 1 then f_read_value rs else .no).bind (setSl ρ 4))
def B_law_w1_5 : Rho → R Fl := (fun ρ => (((((rdSl (ρ[4]?)).bind fun p => ((R.ok (.typ "bool")).bind fun p => (R.ok []).bind fun ps => .ok (p :: ps)).bind fun ps => .ok (p :: ps)).bind isiF).bind truF).bind fun k => if k = true then .ok true else ((((((rdSl (ρ[4]?)).bind fun p => ((R.ok (.typ "str")).bind fun p => (R.ok []).bind fun ps => .ok (p :: ps)).bind fun ps => .ok (p :: ps)).bind isiF).bind fun p => (((rdSl (ρ[2]?)).bind fun p => ((R.ok (.typ "str")).bind fun p => (R.ok []).bind fun ps => .ok (p :: ps)).bind fun ps => .ok (p :: ps)).bind isiF).bind fun q => neF p q).bind asB).bind fun k => if k = true then .ok true else (((rdSl (ρ[4]?)).bind fun p => (rdSl (ρ[2]?)).bind fun q => neF p q).bind asB))).bind fun k => if k = true then ((fun ρ => (R.ok (.val (.bl false))).bind fun r => .ok (.ret r))) ρ else (fun ρ => .ok (.next ρ)) ρ)
def B_law_w1 : Rho → R Fl := seqF B_law_w1_1 (seqF B_law_w1_2 (seqF B_law_w1_3 (seqF B_law_w1_4 (B_law_w1_5))))
def F_law_1 : Rho → R Fl := (fun ρ => ((((rdSl (ρ[0]?)).bind fun p => (R.ok none).bind fun l => ((R.ok (.val (.int 40))).bind asI).bind fun u => cutF p l u).bind fun p => (((R.ok (.val (.int 0))).bind fun p => ((R.ok (.val (.int 5))).bind fun p => ((R.ok (.val (.int 15))).bind fun p => ((R.ok (.val (.int 20))).bind fun p => (R.ok []).bind fun ps => .ok (p :: ps)).bind fun ps => .ok (p :: ps)).bind fun ps => .ok (p :: ps)).bind fun ps => .ok (p :: ps)).bind lstF).bind fun q => addF p q).bind itL).bind fun ds => forF 1 B_law_w1 ds ρ)
def F_law_2 : Rho → R Fl := (fun ρ => (R.ok (.val (.bl true))).bind fun r => .ok (.ret r))
def F_law : Rho → R Fl := seqF F_law_1 (F_law_2)
def f_law (rs : List Er) : R Er := finF (F_law (startR ["_law_script", "_law_cell", "_law_value_here", "_law_text", "_law_again"] rs))

/-! ### is_name -/
def nameB (x : List Nat) : Bool := (decide (1 ≤ (x.length : Int)) && decide ((x.length : Int) ≤ 8)) && x.all letter
theorem isname_no (d : Dt) (h : ∀ x, d ≠ .str x) : f_is_name [.val d] = .ok (.val (.bl false)) := by
  have hs : startR ["thing"] [.val d] = [some (.val d)] := rfl
  have h1 : F_is_name_1 [some (.val d)] = .ok (.ret (.val (.bl false))) := by
    unfold F_is_name_1
    cases d with
    | str x => exact absurd rfl (h x)
    | _ => simp
  unfold f_is_name F_is_name
  rw [hs, seq_ret h1]; rfl
theorem isname_lst (d : List Dt) : f_is_name [.lst d] = .ok (.val (.bl false)) := by
  have hs : startR ["thing"] [.lst d] = [some (.ro d)] := rfl
  have h1 : F_is_name_1 [some (.ro d)] = .ok (.ret (.val (.bl false))) := by
    unfold F_is_name_1
    simp
  unfold f_is_name F_is_name
  rw [hs, seq_ret h1]; rfl
theorem isname_str (x : List Nat) (h : x.length ≤ 10000) : f_is_name [.val (.str x)] = .ok (.val (.bl (nameB x))) := by
  have hs : startR ["thing"] [.val (.str x)] = [some (.val (.str x))] := rfl
  have h1 : F_is_name_1 [some (.val (.str x))] = if (decide (1 ≤ (x.length : Int)) && decide ((x.length : Int) ≤ 8)) = true then .ok (.next [some (.val (.str x))]) else .ok (.ret (.val (.bl false))) := by
    unfold F_is_name_1
    simp only [List.getElem?_cons_zero, List.getElem?_cons_succ, rd_val, rd_ro, rd_own, rd_scr, bind_ok', as_int, as_bl, tru_bl, add_int, sub_int, eq_int, ib_int, List.length_cons, List.length_nil, if_true, sz0, sz1, sz2, sz3, sz4, sz5, sz6, sz7, sz8, sz9, sz10, sz11, sz12, isi_v, kn_str, ty_str, ib_str_str, len_str (fits (Nat.le_trans h (by decide))), ch_int, Bool.not_true, Bool.false_eq_true, if_false]
    cases (decide (1 ≤ (x.length : Int)) && decide ((x.length : Int) ≤ 8)) <;> rfl
  have h2 : F_is_name_2 [some (.val (.str x))] = .ok (.ret (.val (.bl (x.all letter)))) := by
    unfold F_is_name_2
    simp only [List.getElem?_cons_zero, List.getElem?_cons_succ, rd_val, rd_ro, rd_own, rd_scr, bind_ok', as_int, as_bl, tru_bl, add_int, sub_int, eq_int, ib_int, List.length_cons, List.length_nil, if_true, sz0, sz1, sz2, sz3, sz4, sz5, sz6, sz7, sz8, sz9, sz10, sz11, sz12, it_str]
    rw [if_pos (by rw [List.length_map]; omega), compF_map (p := fun _ => true) (g := fun d => match d with | .str [c] => .bl (letter c) | _ => .non) (x.map fun c => .str [c]) (fun d _ => rfl) (fun d hd _ => ?_)]
    · rw [List.filter_eq_self.mpr (fun _ _ => rfl), List.map_map]
      simp only [bind_ok']
      show (match blsOf (x.map fun c => Dt.bl (letter c)) with | some bs => R.ok (Er.val (.bl (bs.all id))) | none => .no).bind (fun r => R.ok (Fl.ret r)) = _
      rw [blsOf_map]
      show R.ok (Fl.ret (Er.val (.bl ((x.map letter).all id)))) = _
      rw [List.all_map]
      rfl
    · obtain ⟨c, _, rfl⟩ := List.mem_map.mp hd
      show chF leF leF (.val (.str [97])) (.val (.str [c])) (.ok (.val (.str [122]))) = _
      rw [le_sign]
  unfold f_is_name F_is_name nameB
  rw [hs]
  cases hc : (decide (1 ≤ (x.length : Int)) && decide ((x.length : Int) ≤ 8)) with
  | true =>
    rw [hc, if_pos rfl] at h1
    rw [seq_next h1, h2]; rfl
  | false =>
    rw [hc, if_neg Bool.false_ne_true] at h1
    rw [seq_ret h1]; rfl
theorem nameB_of {x : List Nat} (h : Nm x) : nameB x = true := by
  unfold nameB
  rw [decide_eq_true (by have := h.1; omega), decide_eq_true (by have := h.2.1; omega), all_letter h.2.2]
  rfl

/-! ### a name drawn by a cell -/
def abc : List Nat := [97, 98, 99, 100, 101, 102, 103, 104, 105, 106, 107, 108, 109, 110, 111, 112, 113, 114, 115, 116, 117, 118, 119, 120, 121, 122]
theorem name_turn (c n : Int) (x : List Nat) (s : Option Sl) (h : x.length ≤ 1000) : ∃ k, (97 ≤ k ∧ k ≤ 122) ∧ B__law_name_w1 [some (.val (.int c)), some (.val (.str abc)), some (.val (.int n)), some (.val (.str x)), s] =
    .ok (.next [some (.val (.int c)), some (.val (.str abc)), some (.val (.int (n / 26))), some (.val (.str (x ++ [k]))), s]) := by
  obtain ⟨k, hk⟩ := atI_in (xs := abc) (i := n % 26) (Int.emod_nonneg _ (by decide)) (by have := Int.emod_lt_of_pos n (show (0 : Int) < 26 by decide); show n % 26 < 26; exact this)
  refine ⟨k, atI_all (P := fun k => 97 ≤ k ∧ k ≤ 122) (by decide) hk, ?_⟩
  have h1 : B__law_name_w1_1 [some (.val (.int c)), some (.val (.str abc)), some (.val (.int n)), some (.val (.str x)), s] = .ok (.next [some (.val (.int c)), some (.val (.str abc)), some (.val (.int n)), some (.val (.str (x ++ [k]))), s]) := by
    unfold B__law_name_w1_1
    simp only [List.getElem?_cons_zero, List.getElem?_cons_succ, rd_val, rd_ro, rd_own, rd_scr, bind_ok', as_int, as_bl, tru_bl, add_int, sub_int, eq_int, ib_int, List.length_cons, List.length_nil, if_true, sz0, sz1, sz2, sz3, sz4, sz5, sz6, sz7, sz8, sz9, sz10, sz11, sz12, mod_lit (show (0 : Int) < 26 by decide), ix_str (show abc.length ≤ sizeLine by rw [sizeLine_eq]; decide) hk]
    rw [add_str (fits (by rw [List.length_singleton]; omega))]
    rfl
  have h2 : B__law_name_w1_2 [some (.val (.int c)), some (.val (.str abc)), some (.val (.int n)), some (.val (.str (x ++ [k]))), s] = .ok (.next [some (.val (.int c)), some (.val (.str abc)), some (.val (.int (n / 26))), some (.val (.str (x ++ [k]))), s]) := by
    unfold B__law_name_w1_2
    simp only [List.getElem?_cons_zero, List.getElem?_cons_succ, rd_val, rd_ro, rd_own, rd_scr, bind_ok', as_int, as_bl, tru_bl, add_int, sub_int, eq_int, ib_int, List.length_cons, List.length_nil, if_true, sz0, sz1, sz2, sz3, sz4, sz5, sz6, sz7, sz8, sz9, sz10, sz11, sz12, div_lit (show (0 : Int) < 26 by decide) (show (26 : Int) < 1073741824 by decide)]
    rfl
  unfold B__law_name_w1
  rw [seq_next h1, h2]
theorem name_loop (c : Int) : ∀ (ds : List Dt) (n : Int) (x : List Nat) (s : Option Sl), x.length + ds.length ≤ 1000 → (∀ c ∈ x, 97 ≤ c ∧ c ≤ 122) → ∃ n' x' s', forF 4 B__law_name_w1 ds [some (.val (.int c)), some (.val (.str abc)), some (.val (.int n)), some (.val (.str x)), s] =
    .ok (.next [some (.val (.int c)), some (.val (.str abc)), some (.val (.int n')), some (.val (.str x')), s']) ∧ x'.length = x.length + ds.length ∧ ∀ c ∈ x', 97 ≤ c ∧ c ≤ 122
  | [], n, x, s, _, hx => ⟨n, x, s, rfl, rfl, hx⟩
  | d :: ds, n, x, s, h, hx => by
    rw [List.length_cons] at h
    obtain ⟨k, hl, hk⟩ := name_turn c n x (some (.val d)) (by omega)
    obtain ⟨n', x', s', h1, h2, h3⟩ := name_loop c ds (n / 26) (x ++ [k]) (some (.val d)) (by rw [List.length_append, List.length_singleton]; omega) (by
      intro c hc
      rw [List.mem_append, List.mem_singleton] at hc
      rcases hc with hc | rfl
      · exact hx c hc
      · exact hl)
    refine ⟨n', x', s', ?_, by rw [h2, List.length_append, List.length_singleton, List.length_cons]; omega, h3⟩
    rw [for_next hk]
    exact h1
theorem name_ok (c : Int) : ∃ x, f__law_name [.val (.int c)] = .ok (.val (.str x)) ∧ Nm x := by
  have hm0 : 0 ≤ c % 8 := Int.emod_nonneg _ (by decide)
  have hm1 : c % 8 < 8 := Int.emod_lt_of_pos _ (by decide)
  have hn : ((List.range (1 + c % 8).toNat).map fun k => Dt.int (k : Nat)).length = (1 + c % 8).toNat := by rw [List.length_map, List.length_range]
  obtain ⟨n', x', s', h1, h2, h3⟩ := name_loop c ((List.range (1 + c % 8).toNat).map fun k => Dt.int (k : Nat)) (c / 8) [] none (by rw [hn]; simp only [List.length_nil]; omega) (by simp)
  rw [hn, List.length_nil] at h2
  refine ⟨x', ?_, by omega, by omega, h3⟩
  have e1 : F__law_name_1 [some (.val (.int c)), none, none, none, none] = .ok (.next [some (.val (.int c)), some (.val (.str abc)), none, none, none]) := rfl
  have e2 : F__law_name_2 [some (.val (.int c)), some (.val (.str abc)), none, none, none] = .ok (.next [some (.val (.int c)), some (.val (.str abc)), some (.val (.int (c / 8))), none, none]) := by
    unfold F__law_name_2
    simp only [List.getElem?_cons_zero, List.getElem?_cons_succ, rd_val, rd_ro, rd_own, rd_scr, bind_ok', as_int, as_bl, tru_bl, add_int, sub_int, eq_int, ib_int, List.length_cons, List.length_nil, if_true, sz0, sz1, sz2, sz3, sz4, sz5, sz6, sz7, sz8, sz9, sz10, sz11, sz12, div_lit (show (0 : Int) < 8 by decide) (show (8 : Int) < 1073741824 by decide)]
    rfl
  have e3 : F__law_name_3 [some (.val (.int c)), some (.val (.str abc)), some (.val (.int (c / 8))), none, none] = .ok (.next [some (.val (.int c)), some (.val (.str abc)), some (.val (.int (c / 8))), some (.val (.str [])), none]) := rfl
  have e4 : F__law_name_4 [some (.val (.int c)), some (.val (.str abc)), some (.val (.int (c / 8))), some (.val (.str [])), none] = .ok (.next [some (.val (.int c)), some (.val (.str abc)), some (.val (.int n')), some (.val (.str x')), s']) := by
    unfold F__law_name_4
    simp only [List.getElem?_cons_zero, List.getElem?_cons_succ, rd_val, rd_ro, rd_own, rd_scr, bind_ok', as_int, as_bl, tru_bl, add_int, sub_int, eq_int, ib_int, List.length_cons, List.length_nil, if_true, sz0, sz1, sz2, sz3, sz4, sz5, sz6, sz7, sz8, sz9, sz10, sz11, sz12, mod_lit (show (0 : Int) < 8 by decide)]
    rw [rng_ok (by omega), R.bind_ok]
    exact h1
  have hs : startR ["_law_cell", "_law_letters", "_law_number", "_law_name_here", "_law_k"] [.val (.int c)] = [some (.val (.int c)), none, none, none, none] := rfl
  unfold f__law_name F__law_name
  rw [hs, seq_next e1, seq_next e2, seq_next e3, seq_next e4]
  rfl

/-! ### a value drawn by a cell -/
theorem p1030 : powF (.val (.int 10)) (.val (.int 30)) = .ok (.val (.int (10 ^ 30))) := rfl
theorem p1012 : powF (.val (.int 10)) (.val (.int 12)) = .ok (.val (.int 1000000000000)) := rfl
theorem p1029 : powF (.val (.int 10)) (.val (.int 29)) = .ok (.val (.int (10 ^ 29))) := rfl
abbrev V2 (c r : Int) : Rho := [some (.val (.int c)), some (.val (.int r))]
theorem val2 (c r : Int) : ∃ d, Vl d ∧ F__law_value_2 (V2 c r) = if decide (c % 5 = 0) = true then .ok (.ret (.val d)) else .ok (.next (V2 c r)) := by
  have h0 : 0 ≤ r % 6 := Int.emod_nonneg _ (by decide)
  have h1 : r % 6 < 6 := Int.emod_lt_of_pos _ (by decide)
  obtain ⟨e, he⟩ := atI_in (xs := [Er.val (.int 0), Er.val (.int 1), Er.val (.int (-1)), Er.val (.int (10 ^ 30 - 1)), Er.val (.int (1 - 10 ^ 30)), Er.val (.int (10 ^ 29))]) (i := r % 6) h0 (by show r % 6 < 6; exact h1)
  obtain ⟨v, rfl, hv⟩ : ∃ v, e = .val (.int v) ∧ Vl (.int v) := atI_all (P := fun e => ∃ v, e = .val (.int v) ∧ Vl (.int v)) (by
    intro e he; simp only [List.mem_cons, List.not_mem_nil, or_false] at he
    rcases he with rfl | rfl | rfl | rfl | rfl | rfl <;> exact ⟨_, rfl, by decide, by decide⟩) he
  refine ⟨.int v, hv, ?_⟩
  unfold F__law_value_2
  simp only [List.getElem?_cons_zero, List.getElem?_cons_succ, rd_val, rd_ro, rd_own, rd_scr, bind_ok', as_int, as_bl, tru_bl, add_int, sub_int, eq_int, ib_int, List.length_cons, List.length_nil, if_true, sz0, sz1, sz2, sz3, sz4, sz5, sz6, sz7, sz8, sz9, sz10, sz11, sz12, mod_lit (show (0 : Int) < 5 by decide), p1030, p1029, mod_lit (show (0 : Int) < 6 by decide), pick_ok he]
theorem val3 (c r : Int) : ∃ d, Vl d ∧ F__law_value_3 (V2 c r) = if decide (c % 5 = 1) = true then .ok (.ret (.val d)) else .ok (.next (V2 c r)) := by
  have h0 : 0 ≤ r % 23 := Int.emod_nonneg _ (by decide)
  have h1 : r % 23 < 23 := Int.emod_lt_of_pos _ (by decide)
  refine ⟨.int (r % 23 - 11), ⟨by omega, by omega⟩, ?_⟩
  unfold F__law_value_3
  simp only [List.getElem?_cons_zero, List.getElem?_cons_succ, rd_val, rd_ro, rd_own, rd_scr, bind_ok', as_int, as_bl, tru_bl, add_int, sub_int, eq_int, ib_int, List.length_cons, List.length_nil, if_true, sz0, sz1, sz2, sz3, sz4, sz5, sz6, sz7, sz8, sz9, sz10, sz11, sz12, mod_lit (show (0 : Int) < 5 by decide), mod_lit (show (0 : Int) < 23 by decide)]
theorem val4 (c r : Int) : ∃ d, Vl d ∧ F__law_value_4 (V2 c r) = if decide (c % 5 = 2) = true then .ok (.ret (.val d)) else .ok (.next (V2 c r)) := by
  have h0 : 0 ≤ r % 1000000000000 := Int.emod_nonneg _ (by decide)
  have h1 : r % 1000000000000 < 1000000000000 := Int.emod_lt_of_pos _ (by decide)
  have h2 : 0 ≤ (r % 1000000000000 * 48271 + 11) ^ (5 : Int).toNat % (2 * 10 ^ 30 - 1) := Int.emod_nonneg _ (by decide)
  have h3 : (r % 1000000000000 * 48271 + 11) ^ (5 : Int).toNat % (2 * 10 ^ 30 - 1) < 2 * 10 ^ 30 - 1 := Int.emod_lt_of_pos _ (by decide)
  refine ⟨.int ((r % 1000000000000 * 48271 + 11) ^ (5 : Int).toNat % (2 * 10 ^ 30 - 1) - 10 ^ 30 + 1), ⟨by omega, by omega⟩, ?_⟩
  unfold F__law_value_4
  simp only [List.getElem?_cons_zero, List.getElem?_cons_succ, rd_val, rd_ro, rd_own, rd_scr, bind_ok', as_int, as_bl, tru_bl, add_int, sub_int, eq_int, ib_int, List.length_cons, List.length_nil, if_true, sz0, sz1, sz2, sz3, sz4, sz5, sz6, sz7, sz8, sz9, sz10, sz11, sz12, mod_lit (show (0 : Int) < 5 by decide), p1012, mod_lit (show (0 : Int) < 1000000000000 by decide), mul_lit (show -(2 ^ 64) < (48271 : Int) ∧ (48271 : Int) < 2 ^ 64 by decide), pow_lit (a := r % 1000000000000 * 48271 + 11) (b := 5) ⟨by decide, by decide, by omega⟩, p1030, mul_litL (show -(2 ^ 64) < (2 : Int) ∧ (2 : Int) < 2 ^ 64 by decide), mod_lit (show (0 : Int) < 2 * 10 ^ 30 - 1 by decide)]
theorem val5 (c r : Int) : ∃ d, Vl d ∧ F__law_value_5 (V2 c r) = if decide (c % 5 = 3) = true then .ok (.ret (.val d)) else .ok (.next (V2 c r)) := by
  have h2 : 0 ≤ r % (2 * 10 ^ 30 - 1) := Int.emod_nonneg _ (by decide)
  have h3 : r % (2 * 10 ^ 30 - 1) < 2 * 10 ^ 30 - 1 := Int.emod_lt_of_pos _ (by decide)
  refine ⟨.int (r % (2 * 10 ^ 30 - 1) - 10 ^ 30 + 1), ⟨by omega, by omega⟩, ?_⟩
  unfold F__law_value_5
  simp only [List.getElem?_cons_zero, List.getElem?_cons_succ, rd_val, rd_ro, rd_own, rd_scr, bind_ok', as_int, as_bl, tru_bl, add_int, sub_int, eq_int, ib_int, List.length_cons, List.length_nil, if_true, sz0, sz1, sz2, sz3, sz4, sz5, sz6, sz7, sz8, sz9, sz10, sz11, sz12, mod_lit (show (0 : Int) < 5 by decide), p1030, mul_litL (show -(2 ^ 64) < (2 : Int) ∧ (2 : Int) < 2 ^ 64 by decide), mod_lit (show (0 : Int) < 2 * 10 ^ 30 - 1 by decide)]
theorem val6 (c r : Int) : ∃ d, Vl d ∧ F__law_value_6 (V2 c r) = .ok (.ret (.val d)) := by
  obtain ⟨x, hx, hn⟩ := name_ok r
  refine ⟨.str x, hn, ?_⟩
  unfold F__law_value_6
  simp only [List.getElem?_cons_zero, List.getElem?_cons_succ, rd_val, rd_ro, rd_own, rd_scr, bind_ok', as_int, as_bl, tru_bl, add_int, sub_int, eq_int, ib_int, List.length_cons, List.length_nil, if_true, sz0, sz1, sz2, sz3, sz4, sz5, sz6, sz7, sz8, sz9, sz10, sz11, sz12, hx]
theorem or_next {F G : Rho → R Fl} {ρ : Rho} {d : Dt} {b : Bool} (h : F ρ = if b = true then .ok (.ret (.val d)) else .ok (.next ρ)) (hd : Vl d) (k : ∃ d, Vl d ∧ G ρ = .ok (.ret (.val d))) : ∃ d, Vl d ∧ seqF F G ρ = .ok (.ret (.val d)) := by
  cases b with
  | true => exact ⟨d, hd, seq_ret (by rw [h, if_pos rfl])⟩
  | false =>
    obtain ⟨d', hd', e⟩ := k
    exact ⟨d', hd', by rw [seq_next (by rw [h, if_neg Bool.false_ne_true]), e]⟩
theorem drawn_ok (c : Int) : ∃ d, f__law_value [.val (.int c)] = .ok (.val d) ∧ Vl d := by
  have hs : startR ["_law_cell", "_law_rest"] [.val (.int c)] = [some (.val (.int c)), none] := rfl
  have e1 : F__law_value_1 [some (.val (.int c)), none] = .ok (.next (V2 c (c / 5))) := by
    unfold F__law_value_1
    simp only [List.getElem?_cons_zero, List.getElem?_cons_succ, rd_val, rd_ro, rd_own, rd_scr, bind_ok', as_int, as_bl, tru_bl, add_int, sub_int, eq_int, ib_int, List.length_cons, List.length_nil, if_true, sz0, sz1, sz2, sz3, sz4, sz5, sz6, sz7, sz8, sz9, sz10, sz11, sz12, div_lit (show (0 : Int) < 5 by decide) (show (5 : Int) < 1073741824 by decide)]
    rfl
  obtain ⟨d2, v2, e2⟩ := val2 c (c / 5)
  obtain ⟨d3, v3, e3⟩ := val3 c (c / 5)
  obtain ⟨d4, v4, e4⟩ := val4 c (c / 5)
  obtain ⟨d5, v5, e5⟩ := val5 c (c / 5)
  obtain ⟨d, hd, e⟩ := or_next e2 v2 (or_next e3 v3 (or_next e4 v4 (or_next e5 v5 (val6 c (c / 5)))))
  refine ⟨d, ?_, hd⟩
  unfold f__law_value F__law_value
  rw [hs, seq_next e1, e]
  rfl

/-! ### writes_number, read_value -/
def figB (x : List Nat) : Bool := x.all fun c => decide (48 ≤ c ∧ c ≤ 57)
/-- what stands behind a sign ahead -/
def bare (x : List Nat) : List Nat := if (decide (1 ≤ x.length) && decide (x.take 1 = [45])) = true then cutL x (some 1) none else x
theorem bare_len (x : List Nat) : (bare x).length ≤ x.length := by
  unfold bare
  split
  · exact cutL_len _ _ _
  · exact Nat.le_refl _
def numB (x : List Nat) : Bool := (decide (1 ≤ ((bare x).length : Int)) && decide (((bare x).length : Int) ≤ 30)) && (figB (bare x) && (decide (x = [48]) || !decide ((bare x).take 1 = [48])))
theorem in_fig (c : Nat) : inF false (.val (.str [c])) (.val (.str [48, 49, 50, 51, 52, 53, 54, 55, 56, 57])) = .ok (.val (.bl (decide (48 ≤ c ∧ c ≤ 57)))) := by
  rw [← fig_mem]; rfl
theorem wnum_ok (x : List Nat) (h : x.length ≤ 10000) : f_writes_number [.val (.str x)] = .ok (.val (.bl (numB x))) := by
  have hs : startR ["text", "figures"] [.val (.str x)] = [some (.val (.str x)), none] := rfl
  have hb := bare_len x
  have h1 : F_writes_number_1 [some (.val (.str x)), none] = .ok (.next [some (.val (.str x)), some (.val (.str (bare x)))]) := by
    unfold F_writes_number_1
    unfold bare
    simp only [List.getElem?_cons_zero, List.getElem?_cons_succ, rd_val, rd_ro, rd_own, rd_scr, bind_ok', as_int, as_bl, tru_bl, add_int, sub_int, eq_int, ib_int, List.length_cons, List.length_nil, if_true, sz0, sz1, sz2, sz3, sz4, sz5, sz6, sz7, sz8, sz9, sz10, sz11, sz12, cut_str (fits (Nat.le_trans h (by decide))), isStr_str, sw_str]
    show ((if (decide (1 ≤ x.length) && decide (x.take 1 = [45])) = true then _ else _ : R Er)).bind _ = _
    cases (decide (1 ≤ x.length) && decide (x.take 1 = [45])) <;> rfl
  have h2 : F_writes_number_2 [some (.val (.str x)), some (.val (.str (bare x)))] = if (decide (1 ≤ ((bare x).length : Int)) && decide (((bare x).length : Int) ≤ 30)) = true then .ok (.next [some (.val (.str x)), some (.val (.str (bare x)))]) else .ok (.ret (.val (.bl false))) := by
    unfold F_writes_number_2
    simp only [List.getElem?_cons_zero, List.getElem?_cons_succ, rd_val, rd_ro, rd_own, rd_scr, bind_ok', as_int, as_bl, tru_bl, add_int, sub_int, eq_int, ib_int, List.length_cons, List.length_nil, if_true, sz0, sz1, sz2, sz3, sz4, sz5, sz6, sz7, sz8, sz9, sz10, sz11, sz12, len_str (fits (Nat.le_trans (Nat.le_trans hb h) (by decide))), ch_int]
    cases (decide (1 ≤ ((bare x).length : Int)) && decide (((bare x).length : Int) ≤ 30)) <;> rfl
  have h3 : F_writes_number_3 [some (.val (.str x)), some (.val (.str (bare x)))] = if figB (bare x) = true then .ok (.next [some (.val (.str x)), some (.val (.str (bare x)))]) else .ok (.ret (.val (.bl false))) := by
    unfold F_writes_number_3
    simp only [List.getElem?_cons_zero, List.getElem?_cons_succ, rd_val, rd_ro, rd_own, rd_scr, bind_ok', as_int, as_bl, tru_bl, add_int, sub_int, eq_int, ib_int, List.length_cons, List.length_nil, if_true, sz0, sz1, sz2, sz3, sz4, sz5, sz6, sz7, sz8, sz9, sz10, sz11, sz12, it_str]
    rw [if_pos (by rw [List.length_map]; omega), compF_map (p := fun _ => true) (g := fun d => match d with | .str [c] => .bl (decide (48 ≤ c ∧ c ≤ 57)) | _ => .non) ((bare x).map fun c => .str [c]) (fun d _ => rfl) (fun d hd _ => ?_)]
    · rw [List.filter_eq_self.mpr (fun _ _ => rfl), List.map_map]
      simp only [bind_ok']
      show ((((match blsOf ((bare x).map fun c => Dt.bl (decide (48 ≤ c ∧ c ≤ 57))) with | some bs => R.ok (Er.val (.bl (bs.all id))) | none => .no).bind truF).bind fun b => R.ok !b).bind _) = _
      rw [blsOf_map]
      show ((R.ok (!((bare x).map fun c => decide (48 ≤ c ∧ c ≤ 57)).all id)).bind _) = _
      rw [List.all_map, R.bind_ok]
      show (if (!figB (bare x)) = true then _ else _) = _
      cases figB (bare x) <;> rfl
    · obtain ⟨c, _, rfl⟩ := List.mem_map.mp hd
      exact in_fig c
  have h4 : 1 ≤ (bare x).length → F_writes_number_4 [some (.val (.str x)), some (.val (.str (bare x)))] = .ok (.ret (.val (.bl (decide (x = [48]) || !decide ((bare x).take 1 = [48]))))) := by
    intro hl
    have hb2 : (bare x).length ≤ sizeLine := fits (Nat.le_trans (Nat.le_trans hb h) (by decide))
    unfold F_writes_number_4
    simp only [List.getElem?_cons_zero, List.getElem?_cons_succ, rd_val, rd_ro, rd_own, rd_scr, bind_ok', as_int, as_bl, tru_bl, add_int, sub_int, eq_int, ib_int, List.length_cons, List.length_nil, if_true, sz0, sz1, sz2, sz3, sz4, sz5, sz6, sz7, sz8, sz9, sz10, sz11, sz12, eq_str, or_bl]
    match hz : bare x, hl with
    | c :: t, _ =>
      rw [hz] at hb2
      rw [ix_str (i := 0) hb2 (atI_nat (j := 0) rfl)]
      simp only [List.getElem?_cons_zero, List.getElem?_cons_succ, rd_val, rd_ro, rd_own, rd_scr, bind_ok', as_int, as_bl, tru_bl, add_int, sub_int, eq_int, ib_int, List.length_cons, List.length_nil, if_true, sz0, sz1, sz2, sz3, sz4, sz5, sz6, sz7, sz8, sz9, sz10, sz11, sz12, ne_str]
      cases decide (x = [48]) <;> rfl
  unfold f_writes_number F_writes_number numB
  rw [hs, seq_next h1]
  cases c1 : (decide (1 ≤ ((bare x).length : Int)) && decide (((bare x).length : Int) ≤ 30)) with
  | false => rw [c1, if_neg Bool.false_ne_true] at h2; rw [seq_ret h2]; rfl
  | true =>
    rw [c1, if_pos rfl] at h2; rw [seq_next h2]
    cases c2 : figB (bare x) with
    | false => rw [c2, if_neg Bool.false_ne_true] at h3; rw [seq_ret h3]; rfl
    | true =>
      rw [c2, if_pos rfl] at h3; rw [seq_next h3, h4 (by rw [Bool.and_eq_true, decide_eq_true_eq] at c1; omega)]; rfl
theorem bare_dec (i : Int) : bare (decL i) = digN i.natAbs := by
  unfold bare
  by_cases hi : i < 0
  · rw [dec_neg hi, if_pos (by simp), cutL_from1]
  · rw [dec_nonneg (by omega)]
    refine if_neg ?_
    intro e
    rw [Bool.and_eq_true, decide_eq_true_eq, decide_eq_true_eq] at e
    have h45 : 45 ∈ digN i.natAbs := List.mem_of_mem_take (i := 1) (by rw [e.2]; simp)
    have := digN_all _ 45 h45
    omega
theorem p30N : (10 : Nat) ^ 30 = 1000000000000000000000000000000 := by decide
theorem dec_len30 {i : Int} (h : Vl (.int i)) : 1 ≤ (digN i.natAbs).length ∧ (digN i.natAbs).length ≤ 30 ∧ (decL i).length ≤ 31 := by
  have hn : i.natAbs < 10 ^ (29 + 1) := by have h1 := h.1; have h2 := h.2; show i.natAbs < 10 ^ 30; omega
  have := digN_len' hn
  have := dec_len hn
  have : (digN i.natAbs).length ≠ 0 := fun e => digN_ne _ (List.length_eq_zero_iff.mp e)
  omega
theorem numB_dec {i : Int} (h : Vl (.int i)) : numB (decL i) = true := by
  obtain ⟨h1, h2, h3⟩ := dec_len30 h
  unfold numB
  rw [bare_dec, decide_eq_true (by omega), decide_eq_true (by omega), show figB (digN i.natAbs) = true from List.all_eq_true.mpr fun c hc => decide_eq_true (digN_all _ c hc)]
  by_cases hz : i = 0
  · subst hz; rfl
  · obtain ⟨c, t, e, hc, _⟩ := digN_head (m := i.natAbs) (by omega)
    rw [e]
    have : decide (List.take 1 (c :: t) = [48]) = false := decide_eq_false (by simp; omega)
    rw [this]
    simp
theorem nameB_dec (i : Int) : nameB (decL i) = false := by
  have hne := digN_ne i.natAbs
  have : (decL i).all letter = false := by
    rw [Bool.eq_false_iff]
    intro e
    rw [List.all_eq_true] at e
    unfold decL at e
    split at e
    · have := e 45 List.mem_cons_self
      exact absurd this (by decide)
    · match hz : digN i.natAbs, hne with
      | c :: t, _ =>
        have h1 := digN_all i.natAbs c (by rw [hz]; exact List.mem_cons_self)
        have h2 := e c (by rw [hz]; exact List.mem_cons_self)
        have := of_decide_eq_true h2
        omega
  unfold nameB
  rw [this, Bool.and_false]
/-- the text that writes a value -/
def wr : Dt → List Nat
  | .int i => decL i
  | .str x => x
  | _ => []
theorem read_name {x : List Nat} (h : Nm x) : f_read_value [.val (.str x)] = .ok (.val (.str x)) := by
  have hs : startR ["text"] [.val (.str x)] = [some (.val (.str x))] := rfl
  have h1 : F_read_value_1 [some (.val (.str x))] = .ok (.next [some (.val (.str x))]) := by
    unfold F_read_value_1
    simp only [List.getElem?_cons_zero, List.getElem?_cons_succ, rd_val, rd_ro, rd_own, rd_scr, bind_ok', as_int, as_bl, tru_bl, add_int, sub_int, eq_int, ib_int, List.length_cons, List.length_nil, if_true, sz0, sz1, sz2, sz3, sz4, sz5, sz6, sz7, sz8, sz9, sz10, sz11, sz12, isi_v, kn_str, ty_str, ib_str_str, Bool.not_true, Bool.false_eq_true, if_false]
  have h2 : F_read_value_2 [some (.val (.str x))] = .ok (.ret (.val (.str x))) := by
    unfold F_read_value_2
    simp only [List.getElem?_cons_zero, List.getElem?_cons_succ, rd_val, rd_ro, rd_own, rd_scr, bind_ok', as_int, as_bl, tru_bl, add_int, sub_int, eq_int, ib_int, List.length_cons, List.length_nil, if_true, sz0, sz1, sz2, sz3, sz4, sz5, sz6, sz7, sz8, sz9, sz10, sz11, sz12, isname_str x (by have := h.2.1; omega), nameB_of h]
  unfold f_read_value F_read_value
  rw [hs, seq_next h1, seq_ret h2]; rfl
theorem read_num {i : Int} (h : Vl (.int i)) : f_read_value [.val (.str (decL i))] = .ok (.val (.int i)) := by
  obtain ⟨_, _, hl⟩ := dec_len30 h
  have hs : startR ["text"] [.val (.str (decL i))] = [some (.val (.str (decL i)))] := rfl
  have h1 : F_read_value_1 [some (.val (.str (decL i)))] = .ok (.next [some (.val (.str (decL i)))]) := by
    unfold F_read_value_1
    simp only [List.getElem?_cons_zero, List.getElem?_cons_succ, rd_val, rd_ro, rd_own, rd_scr, bind_ok', as_int, as_bl, tru_bl, add_int, sub_int, eq_int, ib_int, List.length_cons, List.length_nil, if_true, sz0, sz1, sz2, sz3, sz4, sz5, sz6, sz7, sz8, sz9, sz10, sz11, sz12, isi_v, kn_str, ty_str, ib_str_str, Bool.not_true, Bool.false_eq_true, if_false]
  have h2 : F_read_value_2 [some (.val (.str (decL i)))] = .ok (.next [some (.val (.str (decL i)))]) := by
    unfold F_read_value_2
    simp only [List.getElem?_cons_zero, List.getElem?_cons_succ, rd_val, rd_ro, rd_own, rd_scr, bind_ok', as_int, as_bl, tru_bl, add_int, sub_int, eq_int, ib_int, List.length_cons, List.length_nil, if_true, sz0, sz1, sz2, sz3, sz4, sz5, sz6, sz7, sz8, sz9, sz10, sz11, sz12, isname_str (decL i) (by omega), nameB_dec i, Bool.false_eq_true, if_false]
  have h3 : F_read_value_3 [some (.val (.str (decL i)))] = .ok (.ret (.val (.int i))) := by
    unfold F_read_value_3
    simp only [List.getElem?_cons_zero, List.getElem?_cons_succ, rd_val, rd_ro, rd_own, rd_scr, bind_ok', as_int, as_bl, tru_bl, add_int, sub_int, eq_int, ib_int, List.length_cons, List.length_nil, if_true, sz0, sz1, sz2, sz3, sz4, sz5, sz6, sz7, sz8, sz9, sz10, sz11, sz12, wnum_ok (decL i) (by omega), numB_dec h, int_dec (i := i) (by omega)]
  unfold f_read_value F_read_value
  rw [hs, seq_next h1, seq_next h2, seq_ret h3]; rfl

/-! ### the law of values written and read -/
theorem show_ok {d : Dt} (h : Vl d) : f_show_value [.val d] = .ok (.val (.str (wr d))) := by
  have hs : startR ["value"] [.val d] = [some (.val d)] := rfl
  unfold f_show_value F_show_value F_show_value_1
  rw [hs]
  match d, h with
  | .int i, h =>
    simp only [List.getElem?_cons_zero, List.getElem?_cons_succ, rd_val, rd_ro, rd_own, rd_scr, bind_ok', as_int, as_bl, tru_bl, add_int, sub_int, eq_int, ib_int, List.length_cons, List.length_nil, if_true, sz0, sz1, sz2, sz3, sz4, sz5, sz6, sz7, sz8, sz9, sz10, sz11, sz12, str_int (i := i) (by have h1 := h.1; have h2 := h.2; omega)]
    rfl
  | .str x, h =>
    simp only [List.getElem?_cons_zero, List.getElem?_cons_succ, rd_val, rd_ro, rd_own, rd_scr, bind_ok', as_int, as_bl, tru_bl, add_int, sub_int, eq_int, ib_int, List.length_cons, List.length_nil, if_true, sz0, sz1, sz2, sz3, sz4, sz5, sz6, sz7, sz8, sz9, sz10, sz11, sz12, str_str]
    rfl
theorem mod10 (k : Nat) : atI figL ((k : Int) % 10) = some (48 + k % 10) := by
  have := fig_at (n := (k : Int) % 10) (by omega) (by omega)
  rw [this]
  congr 2
theorem figL_sz : figL.length ≤ sizeLine := by rw [sizeLine_eq]; decide
theorem wloop : ∀ (n k f : Nat) (t : List Nat) (v : Option Sl), k < 10 ^ n → n ≤ f → t.length + n ≤ 1000 → ∃ m : Int, whileF T__law_written_w1 B__law_written_w1 (f + 1) [v, some (.val (.int k)), some (.val (.str ((48 + k % 10) :: t)))] = .ok (.next [v, some (.val (.int m)), some (.val (.str (digN k ++ t)))]) := by
  intro n
  induction n with
  | zero =>
    intro k f t v h hf ht
    have hk : k = 0 := by omega
    subst hk
    refine ⟨0, ?_⟩
    rw [while_end (by
      unfold T__law_written_w1
      simp only [List.getElem?_cons_zero, List.getElem?_cons_succ, rd_val, rd_ro, rd_own, rd_scr, bind_ok', as_int, as_bl, tru_bl, add_int, sub_int, eq_int, ib_int, List.length_cons, List.length_nil, if_true, sz0, sz1, sz2, sz3, sz4, sz5, sz6, sz7, sz8, sz9, sz10, sz11, sz12]
      rfl), digN_lt (by decide)]
    rfl
  | succ n ih =>
    intro k f t v h hf ht
    have ht' : T__law_written_w1 [v, some (.val (.int k)), some (.val (.str ((48 + k % 10) :: t)))] = .ok (decide ((9 : Int) < k)) := by
      unfold T__law_written_w1
      simp only [List.getElem?_cons_zero, List.getElem?_cons_succ, rd_val, rd_ro, rd_own, rd_scr, bind_ok', as_int, as_bl, tru_bl, add_int, sub_int, eq_int, ib_int, List.length_cons, List.length_nil, if_true, sz0, sz1, sz2, sz3, sz4, sz5, sz6, sz7, sz8, sz9, sz10, sz11, sz12]
    by_cases hk : k < 10
    · refine ⟨k, ?_⟩
      rw [while_end (by rw [ht', decide_eq_false (by omega)]), digN_lt hk]
      have : k % 10 = k := by omega
      rw [this]; rfl
    · obtain ⟨f, rfl⟩ : ∃ g, f = g + 1 := ⟨f - 1, by omega⟩
      obtain ⟨m, hm⟩ := ih (k / 10) f ((48 + k % 10) :: t) v (by rw [Nat.pow_succ] at h; omega) (by omega) (by rw [List.length_cons]; omega)
      refine ⟨m, ?_⟩
      have h1 : B__law_written_w1_1 [v, some (.val (.int k)), some (.val (.str ((48 + k % 10) :: t)))] = .ok (.next [v, some (.val (.int ((k / 10 : Nat) : Int))), some (.val (.str ((48 + k % 10) :: t)))]) := by
        unfold B__law_written_w1_1
        simp only [List.getElem?_cons_zero, List.getElem?_cons_succ, rd_val, rd_ro, rd_own, rd_scr, bind_ok', as_int, as_bl, tru_bl, add_int, sub_int, eq_int, ib_int, List.length_cons, List.length_nil, if_true, sz0, sz1, sz2, sz3, sz4, sz5, sz6, sz7, sz8, sz9, sz10, sz11, sz12, div_lit (show (0 : Int) < 10 by decide) (show (10 : Int) < 1073741824 by decide)]
        have : (k : Int) / 10 = ((k / 10 : Nat) : Int) := by omega
        rw [this]; rfl
      have h2 : B__law_written_w1_2 [v, some (.val (.int ((k / 10 : Nat) : Int))), some (.val (.str ((48 + k % 10) :: t)))] = .ok (.next [v, some (.val (.int ((k / 10 : Nat) : Int))), some (.val (.str ((48 + k / 10 % 10) :: (48 + k % 10) :: t)))]) := by
        unfold B__law_written_w1_2
        simp only [List.getElem?_cons_zero, List.getElem?_cons_succ, rd_val, rd_ro, rd_own, rd_scr, bind_ok', as_int, as_bl, tru_bl, add_int, sub_int, eq_int, ib_int, List.length_cons, List.length_nil, if_true, sz0, sz1, sz2, sz3, sz4, sz5, sz6, sz7, sz8, sz9, sz10, sz11, sz12, mod_lit (show (0 : Int) < 10 by decide), ix_str figL_sz (mod10 (k / 10))]
        rw [show ([48, 49, 50, 51, 52, 53, 54, 55, 56, 57] : List Nat) = figL from rfl, ix_str figL_sz (mod10 (k / 10)), R.bind_ok, add_str (fits (by simp only [List.length_cons, List.length_nil]; omega))]
        rfl
      rw [while_next (ρ' := [v, some (.val (.int ((k / 10 : Nat) : Int))), some (.val (.str ((48 + k / 10 % 10) :: (48 + k % 10) :: t)))]) (by rw [ht', decide_eq_true (by omega)]) (by unfold B__law_written_w1; rw [seq_next h1, h2]), hm, digN_step hk, List.append_assoc]
      rfl
theorem written_ok {d : Dt} (h : Vl d) : f__law_written [.val d] = .ok (.val (.str (wr d))) := by
  have hs : startR ["_law_value_here", "_law_number", "_law_text"] [.val d] = [some (.val d), none, none] := rfl
  match d, h with
  | .str x, h =>
    have h1 : F__law_written_1 [some (.val (.str x)), none, none] = .ok (.ret (.val (.str x))) := by
      unfold F__law_written_1
      simp only [List.getElem?_cons_zero, List.getElem?_cons_succ, rd_val, rd_ro, rd_own, rd_scr, bind_ok', as_int, as_bl, tru_bl, add_int, sub_int, eq_int, ib_int, List.length_cons, List.length_nil, if_true, sz0, sz1, sz2, sz3, sz4, sz5, sz6, sz7, sz8, sz9, sz10, sz11, sz12, isi_v, kn_str, ty_str, ib_str_str]
    unfold f__law_written F__law_written
    rw [hs, seq_ret h1]; rfl
  | .int i, h =>
    have hi : i.natAbs < 10 ^ 31 := by have h1 := h.1; have h2 := h.2; omega
    have hl := (dec_len30 h).2.1
    have h1 : F__law_written_1 [some (.val (.int i)), none, none] = .ok (.next [some (.val (.int i)), none, none]) := by
      unfold F__law_written_1
      simp only [List.getElem?_cons_zero, List.getElem?_cons_succ, rd_val, rd_ro, rd_own, rd_scr, bind_ok', as_int, as_bl, tru_bl, add_int, sub_int, eq_int, ib_int, List.length_cons, List.length_nil, if_true, sz0, sz1, sz2, sz3, sz4, sz5, sz6, sz7, sz8, sz9, sz10, sz11, sz12, isi_v, kn_str, ty_int, ib_int_str, Bool.false_eq_true, if_false]
    have h2 : F__law_written_2 [some (.val (.int i)), none, none] = .ok (.next [some (.val (.int i)), some (.val (.int (i.natAbs : Int))), none]) := by
      unfold F__law_written_2
      simp only [List.getElem?_cons_zero, List.getElem?_cons_succ, rd_val, rd_ro, rd_own, rd_scr, bind_ok', as_int, as_bl, tru_bl, add_int, sub_int, eq_int, ib_int, List.length_cons, List.length_nil, if_true, sz0, sz1, sz2, sz3, sz4, sz5, sz6, sz7, sz8, sz9, sz10, sz11, sz12, abs_int]
      have : (if i < 0 then -i else i) = (i.natAbs : Int) := by split <;> omega
      rw [this]; rfl
    have h3 : F__law_written_3 [some (.val (.int i)), some (.val (.int (i.natAbs : Int))), none] = .ok (.next [some (.val (.int i)), some (.val (.int (i.natAbs : Int))), some (.val (.str [48 + i.natAbs % 10]))]) := by
      unfold F__law_written_3
      simp only [List.getElem?_cons_zero, List.getElem?_cons_succ, rd_val, rd_ro, rd_own, rd_scr, bind_ok', as_int, as_bl, tru_bl, add_int, sub_int, eq_int, ib_int, List.length_cons, List.length_nil, if_true, sz0, sz1, sz2, sz3, sz4, sz5, sz6, sz7, sz8, sz9, sz10, sz11, sz12, mod_lit (show (0 : Int) < 10 by decide)]
      rw [show ([48, 49, 50, 51, 52, 53, 54, 55, 56, 57] : List Nat) = figL from rfl, ix_str figL_sz (mod10 i.natAbs)]
      rfl
    obtain ⟨m, hm⟩ := wloop 31 i.natAbs 9999 [] (some (.val (.int i))) hi (by decide) (by decide)
    rw [List.append_nil] at hm
    have h4 : F__law_written_4 [some (.val (.int i)), some (.val (.int (i.natAbs : Int))), some (.val (.str [48 + i.natAbs % 10]))] = .ok (.next [some (.val (.int i)), some (.val (.int m)), some (.val (.str (digN i.natAbs)))]) := hm
    have h5 : F__law_written_5 [some (.val (.int i)), some (.val (.int m)), some (.val (.str (digN i.natAbs)))] = .ok (.ret (.val (.str (decL i)))) := by
      unfold F__law_written_5 decL
      simp only [List.getElem?_cons_zero, List.getElem?_cons_succ, rd_val, rd_ro, rd_own, rd_scr, bind_ok', as_int, as_bl, tru_bl, add_int, sub_int, eq_int, ib_int, List.length_cons, List.length_nil, if_true, sz0, sz1, sz2, sz3, sz4, sz5, sz6, sz7, sz8, sz9, sz10, sz11, sz12, int_bl]
      by_cases hn : i < 0
      · rw [decide_eq_true hn, if_pos hn, if_pos rfl, mul_str ⟨by decide, by decide, by decide⟩, R.bind_ok, show repL [45] 1 = [45] from rfl, add_str (fits (by simp only [List.length_cons, List.length_nil]; omega))]
        rfl
      · rw [decide_eq_false hn, if_neg hn, if_neg Bool.false_ne_true, mul_str ⟨by decide, by decide, by decide⟩, R.bind_ok, show repL [45] 0 = [] from rfl, add_str (fits (by simp only [List.length_nil]; omega))]
        rfl
    unfold f__law_written F__law_written
    rw [hs, seq_next h1, seq_next h2, seq_next h3, seq_next h4, h5]; rfl
theorem read_ok {d : Dt} (h : Vl d) : f_read_value [.val (.str (wr d))] = .ok (.val d) := by
  match d, h with
  | .str x, h => exact read_name h
  | .int i, h => exact read_num h
theorem turn_ok (s a b e : Option Sl) (c : Int) : ∃ a' b' e', B_law_w1 [s, some (.val (.int c)), a, b, e] = .ok (.next [s, some (.val (.int c)), a', b', e']) := by
  obtain ⟨d, hd, hv⟩ := drawn_ok c
  have h1 : B_law_w1_1 [s, some (.val (.int c)), a, b, e] = .ok (.next [s, some (.val (.int c)), some (.val d), b, e]) := by
    unfold B_law_w1_1
    simp only [List.getElem?_cons_zero, List.getElem?_cons_succ, rd_val, rd_ro, rd_own, rd_scr, bind_ok', as_int, as_bl, tru_bl, add_int, sub_int, eq_int, ib_int, List.length_cons, List.length_nil, if_true, sz0, sz1, sz2, sz3, sz4, sz5, sz6, sz7, sz8, sz9, sz10, sz11, sz12, hd]
    rfl
  have h2 : B_law_w1_2 [s, some (.val (.int c)), some (.val d), b, e] = .ok (.next [s, some (.val (.int c)), some (.val d), some (.val (.str (wr d))), e]) := by
    unfold B_law_w1_2
    simp only [List.getElem?_cons_zero, List.getElem?_cons_succ, rd_val, rd_ro, rd_own, rd_scr, bind_ok', as_int, as_bl, tru_bl, add_int, sub_int, eq_int, ib_int, List.length_cons, List.length_nil, if_true, sz0, sz1, sz2, sz3, sz4, sz5, sz6, sz7, sz8, sz9, sz10, sz11, sz12, show_ok hv]
    rfl
  have h3 : B_law_w1_3 [s, some (.val (.int c)), some (.val d), some (.val (.str (wr d))), e] = .ok (.next [s, some (.val (.int c)), some (.val d), some (.val (.str (wr d))), e]) := by
    unfold B_law_w1_3
    simp only [List.getElem?_cons_zero, List.getElem?_cons_succ, rd_val, rd_ro, rd_own, rd_scr, bind_ok', as_int, as_bl, tru_bl, add_int, sub_int, eq_int, ib_int, List.length_cons, List.length_nil, if_true, sz0, sz1, sz2, sz3, sz4, sz5, sz6, sz7, sz8, sz9, sz10, sz11, sz12, isi_v, kn_str, ty_str, ib_str_str, Bool.not_true, Bool.false_eq_true, if_false, written_ok hv, ne_str, decide_true]
  have h4 : B_law_w1_4 [s, some (.val (.int c)), some (.val d), some (.val (.str (wr d))), e] = .ok (.next [s, some (.val (.int c)), some (.val d), some (.val (.str (wr d))), some (.val d)]) := by
    unfold B_law_w1_4
    simp only [List.getElem?_cons_zero, List.getElem?_cons_succ, rd_val, rd_ro, rd_own, rd_scr, bind_ok', as_int, as_bl, tru_bl, add_int, sub_int, eq_int, ib_int, List.length_cons, List.length_nil, if_true, sz0, sz1, sz2, sz3, sz4, sz5, sz6, sz7, sz8, sz9, sz10, sz11, sz12, read_ok hv]
    rfl
  have h5 : B_law_w1_5 [s, some (.val (.int c)), some (.val d), some (.val (.str (wr d))), some (.val d)] = .ok (.next [s, some (.val (.int c)), some (.val d), some (.val (.str (wr d))), some (.val d)]) := by
    unfold B_law_w1_5
    match d, hv with
    | .int i, _ => simp only [List.getElem?_cons_zero, List.getElem?_cons_succ, rd_val, rd_ro, rd_own, rd_scr, bind_ok', as_int, as_bl, tru_bl, add_int, sub_int, eq_int, ib_int, List.length_cons, List.length_nil, if_true, sz0, sz1, sz2, sz3, sz4, sz5, sz6, sz7, sz8, sz9, sz10, sz11, sz12, isi_v, kn_str, kn_bool, ty_int, ib_int_str, ib_int_bool, Bool.false_eq_true, if_false, ne_bl, ne_int, decide_true, Bool.not_true]
    | .str x, _ => simp only [List.getElem?_cons_zero, List.getElem?_cons_succ, rd_val, rd_ro, rd_own, rd_scr, bind_ok', as_int, as_bl, tru_bl, add_int, sub_int, eq_int, ib_int, List.length_cons, List.length_nil, if_true, sz0, sz1, sz2, sz3, sz4, sz5, sz6, sz7, sz8, sz9, sz10, sz11, sz12, isi_v, kn_str, kn_bool, ty_str, ib_str_str, ib_str_bool, Bool.false_eq_true, if_false, ne_bl, ne_str, decide_true, Bool.not_true]
  exact ⟨_, _, _, by unfold B_law_w1; rw [seq_next h1, seq_next h2, seq_next h3, seq_next h4, h5]⟩
theorem loop_ok (s : Option Sl) : ∀ (ns : List Int) (x a b e : Option Sl), ∃ x' a' b' e', forF 1 B_law_w1 (ns.map Dt.int) [s, x, a, b, e] = .ok (.next [s, x', a', b', e'])
  | [], x, a, b, e => ⟨x, a, b, e, rfl⟩
  | n :: ns, x, a, b, e => by
    obtain ⟨a', b', e', h⟩ := turn_ok s a b e n
    obtain ⟨x2, a2, b2, e2, h2⟩ := loop_ok s ns (some (.val (.int n))) a' b' e'
    exact ⟨x2, a2, b2, e2, by rw [List.map_cons, for_next h]; exact h2⟩
theorem law_true (ns : List Int) (h : ns.length ≤ 63) : f_law [.scr (ns.map Dt.int)] = .ok (.val (.bl true)) := by
  have hs : startR ["_law_script", "_law_cell", "_law_value_here", "_law_text", "_law_again"] [.scr (ns.map Dt.int)] = [some (.scr (ns.map Dt.int)), none, none, none, none] := rfl
  obtain ⟨x, a, b, e, hl⟩ := loop_ok (some (.scr (ns.map Dt.int))) (cutL ns none (some 40) ++ [0, 5, 15, 20]) none none none none
  have hlen := cutL_len ns none (some 40)
  have e1 : F_law_1 [some (.scr (ns.map Dt.int)), none, none, none, none] = .ok (.next [some (.scr (ns.map Dt.int)), x, a, b, e]) := by
    unfold F_law_1
    simp only [List.getElem?_cons_zero, List.getElem?_cons_succ, rd_val, rd_ro, rd_own, rd_scr, bind_ok', as_int, as_bl, tru_bl, add_int, sub_int, eq_int, ib_int, List.length_cons, List.length_nil, if_true, sz0, sz1, sz2, sz3, sz4, sz5, sz6, sz7, sz8, sz9, sz10, sz11, sz12]
    show ((addF (.new (cutL (ns.map Dt.int) none (some 40))) (.new [.int 0, .int 5, .int 15, .int 20])).bind itL).bind _ = _
    have e : addF (.new (cutL (ns.map Dt.int) none (some 40))) (.new [.int 0, .int 5, .int 15, .int 20]) = .ok (.new ((cutL ns none (some 40) ++ [0, 5, 15, 20]).map Dt.int)) := by
      rw [cutL_map, List.map_append]
      exact if_pos (fits (by rw [List.length_map]; show _ + 4 ≤ _; omega))
    rw [e, R.bind_ok, it_new, R.bind_ok]
    exact hl
  unfold f_law F_law
  rw [hs, seq_next e1]
  rfl

section
variable {P : Program} {w : World} {K : PySem.W.Frag} {mg : Str → Option Value} {base : Heap}
def top (i : Nat) : Stmt := PySem.Challenge.pw_mendsure_k04_values_written_and_read.main.body.getD i (.Pass ⟨0, 0, 0, 0⟩)
abbrev s_is_name : Stmt := top 5
theorem sc_is_name : FnScope ["thing"] ["thing"] (defScope s_is_name) := ⟨rfl, rfl, rfl, by decide +kernel, rfl, by decide +kernel, by decide +kernel⟩
theorem ok_is_name {f : Addr} {fd : FuncData} (F : Fun K "is_name" "is_name" s_is_name f fd) (z_str : mg "str" = none) (z_isinstance : mg "isinstance" = none) (z_len : mg "len" = none) {t_MOST_LETTERS : Tok} (m_MOST_LETTERS : mg "MOST_LETTERS" = some (.int 8 t_MOST_LETTERS)) (z_all : mg "all" = none) : FnOk P w K mg base CX0 1 f fd ["thing"] (spD K 1 f_is_name) :=
  okD (k := 0) F_is_name F sc_is_name fun cdv A outer s H E hr => (sd_cons (sd_if (wd_pt (wd_or (td_not (td_plain (pd_callB call_isi cd_isi rfl z_isinstance bt_isinstance (ad_cons (pd_var 0) (ad_cons (pd_ty rfl z_str bt_str) ad_nil))))) (wd_or1 (td_not (td_lele pd_int (pd_callB call_len cd_len rfl z_len bt_len (ad_cons (pd_var 0) ad_nil)) (pd_gint rfl m_MOST_LETTERS)))))) (sd_one (sd_ret pd_bl)) sd_nil) (sd_one (sd_ret (pd_callB call_all_bls (cd_all rfl) rfl z_all bt_all (ad_cons (pd_comp (defScope s_is_name) ["thing"] [] (id_str (pd_var 0)) rfl (fun _ _ _ _ => ifd_nil) (fun _ _ _ _ => (pd_lele (pd_str [97]) (pd_var 0) (pd_str [122])))) ad_nil)))))
abbrev s_show_value : Stmt := top 9
theorem sc_show_value : FnScope ["value"] ["value"] (defScope s_show_value) := ⟨rfl, rfl, rfl, by decide +kernel, rfl, by decide +kernel, by decide +kernel⟩
theorem ok_show_value {f : Addr} {fd : FuncData} (F : Fun K "show_value" "show_value" s_show_value f fd) (z_str : mg "str" = none) : FnOk P w K mg base CX0 1 f fd ["value"] (spD K 1 f_show_value) :=
  okD (k := 0) F_show_value F sc_show_value fun cdv A outer s H E hr => (sd_one (sd_ret (pd_callTy call_str_sv cd_str rfl z_str bt_str (ad_cons (pd_var 0) ad_nil))))
abbrev s_writes_number : Stmt := top 10
theorem sc_writes_number : FnScope ["text", "figures"] ["text"] (defScope s_writes_number) := ⟨rfl, rfl, rfl, by decide +kernel, rfl, by decide +kernel, by decide +kernel⟩
theorem ok_writes_number {f : Addr} {fd : FuncData} (F : Fun K "writes_number" "writes_number" s_writes_number f fd) (z_len : mg "len" = none) {t_MOST_FIGURES : Tok} (m_MOST_FIGURES : mg "MOST_FIGURES" = some (.int 30 t_MOST_FIGURES)) {t_FIGURES : Tok} (m_FIGURES : mg "FIGURES" = some (.str (mkS [48, 49, 50, 51, 52, 53, 54, 55, 56, 57]) t_FIGURES)) (z_all : mg "all" = none) : FnOk P w K mg base CX0 1 f fd ["text"] (spD K 1 f_writes_number) :=
  okD (k := 0) F_writes_number F sc_writes_number fun cdv A outer s H E hr => (sd_cons (sd_set 1 sc_writes_number.nd (pd_if (td_plain (pd_starts (pd_var 0) (ad_cons (pd_str [45]) ad_nil))) (pd_cut (pd_var 0) (od_some pd_int) od_none) (pd_var 0))) (sd_cons (sd_if (td_not (td_lele pd_int (pd_callB call_len cd_len rfl z_len bt_len (ad_cons (pd_var 1) ad_nil)) (pd_gint rfl m_MOST_FIGURES))) (sd_one (sd_ret pd_bl)) sd_nil) (sd_cons (sd_if (td_not (td_plain (pd_callB call_all_bls (cd_all rfl) rfl z_all bt_all (ad_cons (pd_comp (defScope s_writes_number) ["text", "figures"] [] (id_str (pd_var 1)) rfl (fun _ _ _ _ => ifd_nil) (fun _ _ _ _ => (pd_in (pd_var 0) (pd_gstr (y := [48, 49, 50, 51, 52, 53, 54, 55, 56, 57]) rfl m_FIGURES)))) ad_nil)))) (sd_one (sd_ret pd_bl)) sd_nil) (sd_one (sd_ret (pd_or (pd_eq (pd_var 0) (pd_str [48])) (pd_one (pd_ne (pd_at (pd_var 1) pd_int) (pd_str [48])))))))))
abbrev s_read_value : Stmt := top 11
theorem sc_read_value : FnScope ["text"] ["text"] (defScope s_read_value) := ⟨rfl, rfl, rfl, by decide +kernel, rfl, by decide +kernel, by decide +kernel⟩
theorem ok_read_value {f : Addr} {fd : FuncData} (F : Fun K "read_value" "read_value" s_read_value f fd) (z_str : mg "str" = none) (z_isinstance : mg "isinstance" = none) {fa_is_name : Addr} {fd_is_name : FuncData} (G_is_name : FnOk P w K mg base CX0 1 fa_is_name fd_is_name ["thing"] (spD K 1 f_is_name)) (m_is_name : mg "is_name" = some (.ref fa_is_name)) (kp_is_name : PySem.W.keepIn K (.ref fa_is_name) = true) (b_is_name : Binds K fd_is_name ["thing"] []) {fa_writes_number : Addr} {fd_writes_number : FuncData} (G_writes_number : FnOk P w K mg base CX0 1 fa_writes_number fd_writes_number ["text"] (spD K 1 f_writes_number)) (m_writes_number : mg "writes_number" = some (.ref fa_writes_number)) (kp_writes_number : PySem.W.keepIn K (.ref fa_writes_number) = true) (b_writes_number : Binds K fd_writes_number ["text"] []) (z_int : mg "int" = none) : FnOk P w K mg base CX0 2 f fd ["text"] (spD K 1 f_read_value) :=
  okD (k := 1) F_read_value F sc_read_value fun cdv A outer s H E hr => (sd_cons (sd_if (td_not (td_plain (pd_callB call_isi cd_isi rfl z_isinstance bt_isinstance (ad_cons (pd_var 0) (ad_cons (pd_ty rfl z_str bt_str) ad_nil))))) (sd_one sd_never) sd_nil) (sd_cons (sd_if (td_plain (pd_call G_is_name (hr.mono (by decide)) rfl m_is_name kp_is_name b_is_name (ad_cons (pd_var 0) ad_nil))) (sd_one (sd_ret (pd_var 0))) sd_nil) (sd_cons (sd_if (td_plain (pd_call G_writes_number (hr.mono (by decide)) rfl m_writes_number kp_writes_number b_writes_number (ad_cons (pd_var 0) ad_nil))) (sd_one (sd_ret (pd_callTy call_int_sv cd_int rfl z_int bt_int (ad_cons (pd_var 0) ad_nil)))) sd_nil) (sd_one sd_never))))
abbrev s__law_name : Stmt := top 13
theorem sc__law_name : FnScope ["_law_cell", "_law_letters", "_law_number", "_law_name_here", "_law_k"] ["_law_cell"] (defScope s__law_name) := ⟨rfl, rfl, rfl, by decide +kernel, rfl, by decide +kernel, by decide +kernel⟩
theorem ok__law_name {f : Addr} {fd : FuncData} (F : Fun K "_law_name" "_law_name" s__law_name f fd) (z_range : mg "range" = none) : FnOk P w K mg base CX0 1 f fd ["_law_cell"] (spD K 1 f__law_name) :=
  okD (k := 0) F__law_name F sc__law_name fun cdv A outer s H E hr => (sd_cons (sd_set 1 sc__law_name.nd (pd_str [97, 98, 99, 100, 101, 102, 103, 104, 105, 106, 107, 108, 109, 110, 111, 112, 113, 114, 115, 116, 117, 118, 119, 120, 121, 122])) (sd_cons (sd_set 2 sc__law_name.nd (pd_div (pd_var 0) pd_int)) (sd_cons (sd_set 3 sc__law_name.nd (pd_str [])) (sd_cons (sd_for 4 sc__law_name.nd PassesOwn.never rfl (id_range1 rfl z_range (ad_cons (pd_add pd_int (pd_mod (pd_var 0) pd_int)) ad_nil)) (sd_cons (sd_set 3 sc__law_name.nd (pd_add (pd_var 3) (pd_at (pd_var 1) (pd_mod (pd_var 2) pd_int)))) (sd_one (sd_set 2 sc__law_name.nd (pd_div (pd_var 2) pd_int))))) (sd_one (sd_ret (pd_var 3)))))))
abbrev s__law_value : Stmt := top 14
theorem sc__law_value : FnScope ["_law_cell", "_law_rest"] ["_law_cell"] (defScope s__law_value) := ⟨rfl, rfl, rfl, by decide +kernel, rfl, by decide +kernel, by decide +kernel⟩
theorem ok__law_value {f : Addr} {fd : FuncData} (F : Fun K "_law_value" "_law_value" s__law_value f fd) {fa__law_name : Addr} {fd__law_name : FuncData} (G__law_name : FnOk P w K mg base CX0 1 fa__law_name fd__law_name ["_law_cell"] (spD K 1 f__law_name)) (m__law_name : mg "_law_name" = some (.ref fa__law_name)) (kp__law_name : PySem.W.keepIn K (.ref fa__law_name) = true) (b__law_name : Binds K fd__law_name ["_law_cell"] []) : FnOk P w K mg base CX0 2 f fd ["_law_cell"] (spD K 1 f__law_value) :=
  okD (k := 1) F__law_value F sc__law_value fun cdv A outer s H E hr => (sd_cons (sd_set 1 sc__law_value.nd (pd_div (pd_var 0) pd_int)) (sd_cons (sd_if (td_eq (pd_mod (pd_var 0) pd_int) pd_int) (sd_one (sd_ret (pd_pick (ad_cons pd_int (ad_cons pd_int (ad_cons pd_neg (ad_cons (pd_sub (pd_pow pd_int pd_int) pd_int) (ad_cons (pd_sub pd_int (pd_pow pd_int pd_int)) (ad_cons (pd_pow pd_int pd_int) ad_nil)))))) (pd_mod (pd_var 1) pd_int)))) sd_nil) (sd_cons (sd_if (td_eq (pd_mod (pd_var 0) pd_int) pd_int) (sd_one (sd_ret (pd_sub (pd_mod (pd_var 1) pd_int) pd_int))) sd_nil) (sd_cons (sd_if (td_eq (pd_mod (pd_var 0) pd_int) pd_int) (sd_one (sd_ret (pd_add (pd_sub (pd_mod (pd_pow (pd_add (pd_mul (pd_mod (pd_var 1) (pd_pow pd_int pd_int)) pd_int) pd_int) pd_int) (pd_sub (pd_mul pd_int (pd_pow pd_int pd_int)) pd_int)) (pd_pow pd_int pd_int)) pd_int))) sd_nil) (sd_cons (sd_if (td_eq (pd_mod (pd_var 0) pd_int) pd_int) (sd_one (sd_ret (pd_add (pd_sub (pd_mod (pd_var 1) (pd_sub (pd_mul pd_int (pd_pow pd_int pd_int)) pd_int)) (pd_pow pd_int pd_int)) pd_int))) sd_nil) (sd_one (sd_ret (pd_call G__law_name (hr.mono (by decide)) rfl m__law_name kp__law_name b__law_name (ad_cons (pd_var 1) ad_nil)))))))))
abbrev s__law_written : Stmt := top 15
theorem sc__law_written : FnScope ["_law_value_here", "_law_number", "_law_text"] ["_law_value_here"] (defScope s__law_written) := ⟨rfl, rfl, rfl, by decide +kernel, rfl, by decide +kernel, by decide +kernel⟩
theorem ok__law_written {f : Addr} {fd : FuncData} (F : Fun K "_law_written" "_law_written" s__law_written f fd) (z_str : mg "str" = none) (z_isinstance : mg "isinstance" = none) (z_abs : mg "abs" = none) (z_int : mg "int" = none) : FnOk P w K mg base CX0 1 f fd ["_law_value_here"] (spD K 1 f__law_written) :=
  okD (k := 0) F__law_written F sc__law_written fun cdv A outer s H E hr => (sd_cons (sd_if (td_plain (pd_callB call_isi cd_isi rfl z_isinstance bt_isinstance (ad_cons (pd_var 0) (ad_cons (pd_ty rfl z_str bt_str) ad_nil)))) (sd_one (sd_ret (pd_var 0))) sd_nil) (sd_cons (sd_set 1 sc__law_written.nd (pd_callB call_abs cd_abs rfl z_abs bt_abs (ad_cons (pd_var 0) ad_nil))) (sd_cons (sd_set 2 sc__law_written.nd (pd_at (pd_str [48, 49, 50, 51, 52, 53, 54, 55, 56, 57]) (pd_mod (pd_var 1) pd_int))) (sd_cons (sd_while PassesOwn.never (td_gt (pd_var 1) pd_int) (sd_cons (sd_set 1 sc__law_written.nd (pd_div (pd_var 1) pd_int)) (sd_one (sd_set 2 sc__law_written.nd (pd_add (pd_at (pd_str [48, 49, 50, 51, 52, 53, 54, 55, 56, 57]) (pd_mod (pd_var 1) pd_int)) (pd_var 2)))))) (sd_one (sd_ret (pd_add (pd_mul (pd_str [45]) (pd_callTy call_int_sv cd_int rfl z_int bt_int (ad_cons (pd_lt (pd_var 0) pd_int) ad_nil))) (pd_var 2))))))))
abbrev s_law : Stmt := top 16
theorem sc_law : FnScope ["_law_script", "_law_cell", "_law_value_here", "_law_text", "_law_again"] ["_law_script"] (defScope s_law) := ⟨rfl, rfl, rfl, by decide +kernel, rfl, by decide +kernel, by decide +kernel⟩
theorem ok_law {f : Addr} {fd : FuncData} (F : Fun K "law" "law" s_law f fd) {fa__law_value : Addr} {fd__law_value : FuncData} (G__law_value : FnOk P w K mg base CX0 2 fa__law_value fd__law_value ["_law_cell"] (spD K 1 f__law_value)) (m__law_value : mg "_law_value" = some (.ref fa__law_value)) (kp__law_value : PySem.W.keepIn K (.ref fa__law_value) = true) (b__law_value : Binds K fd__law_value ["_law_cell"] []) {fa_show_value : Addr} {fd_show_value : FuncData} (G_show_value : FnOk P w K mg base CX0 1 fa_show_value fd_show_value ["value"] (spD K 1 f_show_value)) (m_show_value : mg "show_value" = some (.ref fa_show_value)) (kp_show_value : PySem.W.keepIn K (.ref fa_show_value) = true) (b_show_value : Binds K fd_show_value ["value"] []) (z_str : mg "str" = none) (z_isinstance : mg "isinstance" = none) {fa__law_written : Addr} {fd__law_written : FuncData} (G__law_written : FnOk P w K mg base CX0 1 fa__law_written fd__law_written ["_law_value_here"] (spD K 1 f__law_written)) (m__law_written : mg "_law_written" = some (.ref fa__law_written)) (kp__law_written : PySem.W.keepIn K (.ref fa__law_written) = true) (b__law_written : Binds K fd__law_written ["_law_value_here"] []) {fa_read_value : Addr} {fd_read_value : FuncData} (G_read_value : FnOk P w K mg base CX0 2 fa_read_value fd_read_value ["text"] (spD K 1 f_read_value)) (m_read_value : mg "read_value" = some (.ref fa_read_value)) (kp_read_value : PySem.W.keepIn K (.ref fa_read_value) = true) (b_read_value : Binds K fd_read_value ["text"] []) (z_bool : mg "bool" = none) : FnOk P w K mg base CX0 3 f fd ["_law_script"] (spD K 1 f_law) :=
  okD (k := 2) F_law F sc_law fun cdv A outer s H E hr => (sd_cons (sd_for 1 sc_law.nd PassesOwn.never rfl (id_list (pd_add (pd_cut (pd_var 0) od_none (od_some pd_int)) (pd_lst (ad_cons pd_int (ad_cons pd_int (ad_cons pd_int (ad_cons pd_int ad_nil))))))) (sd_cons (sd_set 2 sc_law.nd (pd_call G__law_value (hr.mono (by decide)) rfl m__law_value kp__law_value b__law_value (ad_cons (pd_var 1) ad_nil))) (sd_cons (sd_set 3 sc_law.nd (pd_call G_show_value (hr.mono (by decide)) rfl m_show_value kp_show_value b_show_value (ad_cons (pd_var 2) ad_nil))) (sd_cons (sd_if (wd_pt (wd_or (td_not (td_plain (pd_callB call_isi cd_isi rfl z_isinstance bt_isinstance (ad_cons (pd_var 3) (ad_cons (pd_ty rfl z_str bt_str) ad_nil))))) (wd_or1 (td_ne (pd_var 3) (pd_call G__law_written (hr.mono (by decide)) rfl m__law_written kp__law_written b__law_written (ad_cons (pd_var 2) ad_nil)))))) (sd_one (sd_ret pd_bl)) sd_nil) (sd_cons (sd_set 4 sc_law.nd (pd_call G_read_value (hr.mono (by decide)) rfl m_read_value kp_read_value b_read_value (ad_cons (pd_var 3) ad_nil))) (sd_one (sd_if (wd_pt (wd_or (td_plain (pd_callB call_isi cd_isi rfl z_isinstance bt_isinstance (ad_cons (pd_var 4) (ad_cons (pd_ty rfl z_bool bt_bool) ad_nil)))) (wd_or (td_ne (pd_callB call_isi cd_isi rfl z_isinstance bt_isinstance (ad_cons (pd_var 4) (ad_cons (pd_ty rfl z_str bt_str) ad_nil))) (pd_callB call_isi cd_isi rfl z_isinstance bt_isinstance (ad_cons (pd_var 2) (ad_cons (pd_ty rfl z_str bt_str) ad_nil)))) (wd_or1 (td_ne (pd_var 4) (pd_var 2)))))) (sd_one (sd_ret pd_bl)) sd_nil))))))) (sd_one (sd_ret pd_bl)))
end
theorem all_mk {l : PySem.W.OpenLaw} {w : World} {K : PySem.W.Frag} {h : Heap} {mg : Str → Option Value} {fa : Addr} (X : K.In h) (GG : h.Ns mainGlobals mg) (hfa : mg "law" = some (.ref fa))
    {g0 : Addr} {od0 an0 : Option Addr} {sl0 : Array (Option Value)} {oc0 kV0 dc0 pm0 cd0 ct0 : Value} (a0 : PySem.W.nsIn K mainGlobals "is_name" = some (some (.ref g0))) (l0 : K.lookup g0 = some ⟨oc0, od0, .func (PySem.W.fnOf "is_name" "is_name" (defArgs s_is_name) (defBody s_is_name) (defScope s_is_name) .none kV0 dc0 pm0 an0 cd0 ct0), sl0⟩) (c0 : PySem.W.codeIn K cd0 "is_name" = true) (k0 : PySem.W.keepIn K (.ref g0) = true)
    {g1 : Addr} {od1 an1 : Option Addr} {sl1 : Array (Option Value)} {oc1 kV1 dc1 pm1 cd1 ct1 : Value} (a1 : PySem.W.nsIn K mainGlobals "show_value" = some (some (.ref g1))) (l1 : K.lookup g1 = some ⟨oc1, od1, .func (PySem.W.fnOf "show_value" "show_value" (defArgs s_show_value) (defBody s_show_value) (defScope s_show_value) .none kV1 dc1 pm1 an1 cd1 ct1), sl1⟩) (c1 : PySem.W.codeIn K cd1 "show_value" = true) (k1 : PySem.W.keepIn K (.ref g1) = true)
    {g2 : Addr} {od2 an2 : Option Addr} {sl2 : Array (Option Value)} {oc2 kV2 dc2 pm2 cd2 ct2 : Value} (a2 : PySem.W.nsIn K mainGlobals "writes_number" = some (some (.ref g2))) (l2 : K.lookup g2 = some ⟨oc2, od2, .func (PySem.W.fnOf "writes_number" "writes_number" (defArgs s_writes_number) (defBody s_writes_number) (defScope s_writes_number) .none kV2 dc2 pm2 an2 cd2 ct2), sl2⟩) (c2 : PySem.W.codeIn K cd2 "writes_number" = true) (k2 : PySem.W.keepIn K (.ref g2) = true)
    {g3 : Addr} {od3 an3 : Option Addr} {sl3 : Array (Option Value)} {oc3 kV3 dc3 pm3 cd3 ct3 : Value} (a3 : PySem.W.nsIn K mainGlobals "read_value" = some (some (.ref g3))) (l3 : K.lookup g3 = some ⟨oc3, od3, .func (PySem.W.fnOf "read_value" "read_value" (defArgs s_read_value) (defBody s_read_value) (defScope s_read_value) .none kV3 dc3 pm3 an3 cd3 ct3), sl3⟩) (c3 : PySem.W.codeIn K cd3 "read_value" = true) (k3 : PySem.W.keepIn K (.ref g3) = true)
    {g4 : Addr} {od4 an4 : Option Addr} {sl4 : Array (Option Value)} {oc4 kV4 dc4 pm4 cd4 ct4 : Value} (a4 : PySem.W.nsIn K mainGlobals "_law_name" = some (some (.ref g4))) (l4 : K.lookup g4 = some ⟨oc4, od4, .func (PySem.W.fnOf "_law_name" "_law_name" (defArgs s__law_name) (defBody s__law_name) (defScope s__law_name) .none kV4 dc4 pm4 an4 cd4 ct4), sl4⟩) (c4 : PySem.W.codeIn K cd4 "_law_name" = true) (k4 : PySem.W.keepIn K (.ref g4) = true)
    {g5 : Addr} {od5 an5 : Option Addr} {sl5 : Array (Option Value)} {oc5 kV5 dc5 pm5 cd5 ct5 : Value} (a5 : PySem.W.nsIn K mainGlobals "_law_value" = some (some (.ref g5))) (l5 : K.lookup g5 = some ⟨oc5, od5, .func (PySem.W.fnOf "_law_value" "_law_value" (defArgs s__law_value) (defBody s__law_value) (defScope s__law_value) .none kV5 dc5 pm5 an5 cd5 ct5), sl5⟩) (c5 : PySem.W.codeIn K cd5 "_law_value" = true) (k5 : PySem.W.keepIn K (.ref g5) = true)
    {g6 : Addr} {od6 an6 : Option Addr} {sl6 : Array (Option Value)} {oc6 kV6 dc6 pm6 cd6 ct6 : Value} (a6 : PySem.W.nsIn K mainGlobals "_law_written" = some (some (.ref g6))) (l6 : K.lookup g6 = some ⟨oc6, od6, .func (PySem.W.fnOf "_law_written" "_law_written" (defArgs s__law_written) (defBody s__law_written) (defScope s__law_written) .none kV6 dc6 pm6 an6 cd6 ct6), sl6⟩) (c6 : PySem.W.codeIn K cd6 "_law_written" = true) (k6 : PySem.W.keepIn K (.ref g6) = true)
    {g7 : Addr} {od7 an7 : Option Addr} {sl7 : Array (Option Value)} {oc7 kV7 dc7 pm7 cd7 ct7 : Value} (a7 : PySem.W.nsIn K mainGlobals "law" = some (some (.ref g7))) (l7 : K.lookup g7 = some ⟨oc7, od7, .func (PySem.W.fnOf "law" "law" (defArgs s_law) (defBody s_law) (defScope s_law) .none kV7 dc7 pm7 an7 cd7 ct7), sl7⟩) (c7 : PySem.W.codeIn K cd7 "law" = true) (k7 : PySem.W.keepIn K (.ref g7) = true)
    {t_FIGURES : Tok} {v_FIGURES : Str} (m_FIGURES : PySem.W.nsIn K mainGlobals "FIGURES" = some (some (.str v_FIGURES t_FIGURES))) (e_FIGURES : v_FIGURES = mkS [48, 49, 50, 51, 52, 53, 54, 55, 56, 57])
    {t_MOST_FIGURES : Tok} (m_MOST_FIGURES : PySem.W.nsIn K mainGlobals "MOST_FIGURES" = some (some (.int 30 t_MOST_FIGURES)))
    {t_MOST_LETTERS : Tok} (m_MOST_LETTERS : PySem.W.nsIn K mainGlobals "MOST_LETTERS" = some (some (.int 8 t_MOST_LETTERS)))
    (z_abs : PySem.W.nsIn K mainGlobals "abs" = some none)
    (z_all : PySem.W.nsIn K mainGlobals "all" = some none)
    (z_bool : PySem.W.nsIn K mainGlobals "bool" = some none)
    (z_int : PySem.W.nsIn K mainGlobals "int" = some none)
    (z_isinstance : PySem.W.nsIn K mainGlobals "isinstance" = some none)
    (z_len : PySem.W.nsIn K mainGlobals "len" = some none)
    (z_range : PySem.W.nsIn K mainGlobals "range" = some none)
    (z_str : PySem.W.nsIn K mainGlobals "str" = some none)
    : ∃ fd : FuncData, (∀ (s : Shared) (v : Value), BindsTo s fd ⟨[v], []⟩ [("_law_script", v)]) ∧ ∀ base : Heap, K.In base → base.Ns mainGlobals mg → FnOk l.prog w K mg base CX0 3 fa fd ["_law_script"] (spD K 1 f_law) := by
  have e := hfa.symm.trans (PySem.W.mg_of X GG a7)
  cases e
  have Z_abs := PySem.W.mg_none_of X GG z_abs
  have Z_all := PySem.W.mg_none_of X GG z_all
  have Z_bool := PySem.W.mg_none_of X GG z_bool
  have Z_int := PySem.W.mg_none_of X GG z_int
  have Z_isinstance := PySem.W.mg_none_of X GG z_isinstance
  have Z_len := PySem.W.mg_none_of X GG z_len
  have Z_range := PySem.W.mg_none_of X GG z_range
  have Z_str := PySem.W.mg_none_of X GG z_str
  subst e_FIGURES
  have M_FIGURES := PySem.W.mg_of X GG m_FIGURES
  have M_MOST_FIGURES := PySem.W.mg_of X GG m_MOST_FIGURES
  have M_MOST_LETTERS := PySem.W.mg_of X GG m_MOST_LETTERS
  have F0 := fun_mk (st := s_is_name) l0 c0 k0
  have b0 := F0.binds (ps := ["thing"]) fun _ _ _ _ _ _ us hl => match us, hl with | [_], _ => rfl
  have m0 := PySem.W.mg_of X GG a0
  have F1 := fun_mk (st := s_show_value) l1 c1 k1
  have b1 := F1.binds (ps := ["value"]) fun _ _ _ _ _ _ us hl => match us, hl with | [_], _ => rfl
  have m1 := PySem.W.mg_of X GG a1
  have F2 := fun_mk (st := s_writes_number) l2 c2 k2
  have b2 := F2.binds (ps := ["text"]) fun _ _ _ _ _ _ us hl => match us, hl with | [_], _ => rfl
  have m2 := PySem.W.mg_of X GG a2
  have F3 := fun_mk (st := s_read_value) l3 c3 k3
  have b3 := F3.binds (ps := ["text"]) fun _ _ _ _ _ _ us hl => match us, hl with | [_], _ => rfl
  have m3 := PySem.W.mg_of X GG a3
  have F4 := fun_mk (st := s__law_name) l4 c4 k4
  have b4 := F4.binds (ps := ["_law_cell"]) fun _ _ _ _ _ _ us hl => match us, hl with | [_], _ => rfl
  have m4 := PySem.W.mg_of X GG a4
  have F5 := fun_mk (st := s__law_value) l5 c5 k5
  have b5 := F5.binds (ps := ["_law_cell"]) fun _ _ _ _ _ _ us hl => match us, hl with | [_], _ => rfl
  have m5 := PySem.W.mg_of X GG a5
  have F6 := fun_mk (st := s__law_written) l6 c6 k6
  have b6 := F6.binds (ps := ["_law_value_here"]) fun _ _ _ _ _ _ us hl => match us, hl with | [_], _ => rfl
  have m6 := PySem.W.mg_of X GG a6
  have F7 := fun_mk (st := s_law) l7 c7 k7
  have b7 := F7.binds (ps := ["_law_script"]) fun _ _ _ _ _ _ us hl => match us, hl with | [_], _ => rfl
  have m7 := PySem.W.mg_of X GG a7
  refine ⟨PySem.W.fnOf "law" "law" (defArgs s_law) (defBody s_law) (defScope s_law) .none kV7 dc7 pm7 an7 cd7 ct7, fun s v => .of_eq rfl, fun base _ _ => ?_⟩
  have G0 := ok_is_name (P := l.prog) (w := w) (base := base) F0 Z_str Z_isinstance Z_len M_MOST_LETTERS Z_all
  have G1 := ok_show_value (P := l.prog) (w := w) (base := base) F1 Z_str
  have G2 := ok_writes_number (P := l.prog) (w := w) (base := base) F2 Z_len M_MOST_FIGURES M_FIGURES Z_all
  have G3 := ok_read_value (P := l.prog) (w := w) (base := base) F3 Z_str Z_isinstance G0 m0 k0 b0 G2 m2 k2 b2 Z_int
  have G4 := ok__law_name (P := l.prog) (w := w) (base := base) F4 Z_range
  have G5 := ok__law_value (P := l.prog) (w := w) (base := base) F5 G4 m4 k4 b4
  have G6 := ok__law_written (P := l.prog) (w := w) (base := base) F6 Z_str Z_isinstance Z_abs Z_int
  have G7 := ok_law (P := l.prog) (w := w) (base := base) F7 G5 m5 k5 b5 G1 m1 k1 b1 Z_str Z_isinstance G6 m6 k6 b6 G3 m3 k3 b3 Z_bool
  exact G7
theorem walk {l : PySem.W.OpenLaw} {q : Program} {loose : List Str} {XP : (Str → Option Value) → Heap → Prop} {YP : World → Heap → Prop} {d : DefRec} {K : Params → PySem.W.Frag} (hn : l.most = some 63) (hdf : d.params.defaults = [])
    (hY : ∀ (w : World) (h : Heap), YP w h → (K w.params).In h)
    (F : ∀ (w : World) (mg : Str → Option Value) (fa : Addr) (h : Heap), (K w.params).In h → h.Ns mainGlobals mg → mg d.name = some (.ref fa) →
      ∃ fd : FuncData, (∀ (s : Shared) (u : Value), BindsTo s fd ⟨[u], []⟩ [("_law_script", u)]) ∧ ∀ base : Heap, (K w.params).In base → base.Ns mainGlobals mg → FnOk l.prog w (K w.params) mg base CX0 3 fa fd ["_law_script"] (spD (K w.params) 1 f_law)) :
    PySem.W.WalkO q loose XP YP l.row.toRowW d [] (fun f vs => PySem.call f vs) :=
  L2.walk_of (n := 63) (k := 3) (x := "_law_script") (CX := fun _ => CX0) (sp := fun w => spD (K w.params) 1 f_law) hn (by decide) hdf ⟨rfl, by decide, by decide⟩ hY F
    (fun w H a ns hl _ hS => ⟨[.scr (ns.map Dt.int)], .cons ⟨a, _, rfl, hS, denl_ints ns⟩ .nil, rfl, by rw [law_true ns hl]; exact fun v H' _ d => den_bl_of d.1⟩) fun _ _ _ _ _ z => z

end My
end D2
end L2
open PySem PySem.W PyProof.Rows
set_option maxRecDepth 100000 in
set_option maxHeartbeats 0 in
theorem PySem.Challenge.cw_mendsure_k04_values_written_and_read_holds : PySem.Challenge.rw_mendsure_k04_values_written_and_read.Holds := by
  w_on; o_law; k_head; (case hw => w_witness2)
  k_fill
  refine L2.D2.My.walk (l := PySem.Challenge.rw_mendsure_k04_values_written_and_read) rfl rfl (fun w h Y => PySem.W.kIn_of Y) ?F
  case F =>
    intro w mg fa h KX G hmg
    refine' L2.D2.My.all_mk KX G hmg ?a0 ?l0 ?c0 ?k0 ?a1 ?l1 ?c1 ?k1 ?a2 ?l2 ?c2 ?k2 ?a3 ?l3 ?c3 ?k3 ?a4 ?l4 ?c4 ?k4 ?a5 ?l5 ?c5 ?k5 ?a6 ?l6 ?c6 ?k6 ?a7 ?l7 ?c7 ?k7 ?m_FIGURES ?e_FIGURES ?m_MOST_FIGURES ?m_MOST_LETTERS ?z_abs ?z_all ?z_bool ?z_int ?z_isinstance ?z_len ?z_range ?z_str
    (case a0 => k_is)
    (case l0 => k_is)
    (case c0 => k_is)
    (case k0 => k_is)
    (case a1 => k_is)
    (case l1 => k_is)
    (case c1 => k_is)
    (case k1 => k_is)
    (case a2 => k_is)
    (case l2 => k_is)
    (case c2 => k_is)
    (case k2 => k_is)
    (case a3 => k_is)
    (case l3 => k_is)
    (case c3 => k_is)
    (case k3 => k_is)
    (case a4 => k_is)
    (case l4 => k_is)
    (case c4 => k_is)
    (case k4 => k_is)
    (case a5 => k_is)
    (case l5 => k_is)
    (case c5 => k_is)
    (case k5 => k_is)
    (case a6 => k_is)
    (case l6 => k_is)
    (case c6 => k_is)
    (case k6 => k_is)
    (case a7 => k_is)
    (case l7 => k_is)
    (case c7 => k_is)
    (case k7 => k_is)
    (case m_FIGURES => k_is)
    (case e_FIGURES => rfl)
    (case m_MOST_FIGURES => k_is)
    (case m_MOST_LETTERS => k_is)
    (case z_abs => k_is)
    (case z_all => k_is)
    (case z_bool => k_is)
    (case z_int => k_is)
    (case z_isinstance => k_is)
    (case z_len => k_is)
    (case z_range => k_is)
    (case z_str => k_is)
#print axioms PySem.Challenge.cw_mendsure_k04_values_written_and_read_holds
