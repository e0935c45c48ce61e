import PyProof.Rows.All
import Wide.All
import OpenK.AllK
import Wide.FinOn
import Lean
import PyProof.EqAt
import PyProof.EqKinds
import PyProof.TupleCall
import PySem.Challenge.RW_mendsure_k02_which_is_ahead
set_option Elab.async false
set_option linter.all false
set_option maxRecDepth 100000
/-! THE HAND LAYER, for ints, bools, texts, own classes, LISTS and tuples (index, slices, in, append, pop ..), calls, loops. Paste it whole ahead of your own text; what your proof does not reach may be deleted. -/
namespace L2
open PySem PySem.Spec PyProof.Rows

/-- a key: an int or a str -/
abbrev Key := Sum Int Str
def keyIs : Key → Value → Bool
  | .inl k, v => Value.isInt k v
  | .inr x, v => Value.isStrOf x v
def keyH (w : World) : Key → Int
  | .inl k => hashInt k
  | .inr x => hashStr w x
theorem keyIs_shape : ∀ {k : Key} {v : Value}, keyIs k v = true → (∃ i t, k = Sum.inl i ∧ v = Value.int i t) ∨ (∃ x t, k = Sum.inr x ∧ v = Value.str x t)
  | .inl i, v, h => by
    obtain ⟨t, e⟩ := Value.isInt_shape (k := i) (v := v) h
    exact .inl ⟨i, t, rfl, e⟩
  | .inr x, v, h => by
    obtain ⟨t, e⟩ := Value.isStrOf_shape (x := x) (v := v) h
    exact .inr ⟨x, t, rfl, e⟩
theorem keyIs_int (i : Int) (t : Tok) : keyIs (.inl i) (.int i t) = true := by simp [keyIs, Value.isInt]
theorem keyIs_str (x : Str) (t : Tok) : keyIs (.inr x) (.str x t) = true := by simp [keyIs, Value.isStrOf]
theorem key_ll (a b : Int) : decide ((Sum.inl a : Key) = Sum.inl b) = (a == b) := by
  by_cases e : a = b
  · subst e; simp
  · have h : ¬ (Sum.inl a : Key) = Sum.inl b := fun q => e (Sum.inl.inj q)
    rw [decide_eq_false h]
    exact (beq_eq_false_iff_ne.mpr e).symm
theorem key_rr (a b : Str) : decide ((Sum.inr a : Key) = Sum.inr b) = decide (a = b) := by
  by_cases e : a = b
  · subst e; simp
  · have h : ¬ (Sum.inr a : Key) = Sum.inr b := fun q => e (Sum.inr.inj q)
    rw [decide_eq_false h, decide_eq_false e]
theorem key_lr (a : Int) (b : Str) : decide ((Sum.inl a : Key) = Sum.inr b) = false := decide_eq_false (fun q => nomatch q)
theorem key_rl (a : Str) (b : Int) : decide ((Sum.inr a : Key) = Sum.inl b) = false := decide_eq_false (fun q => nomatch q)

def mixKind (prog : Program) (w : World) : PySem.KeyKind prog w Key where
  is := keyIs
  hash := keyH w
  inj := fun v a b ha hb => by
    rcases keyIs_shape ha with ⟨i, t, rfl, rfl⟩ | ⟨x, t, rfl, rfl⟩
    · rcases keyIs_shape hb with ⟨j, u, rfl, e⟩ | ⟨y, u, rfl, e⟩
      · injection e with e1 _; rw [e1]
      · exact nomatch e
    · rcases keyIs_shape hb with ⟨j, u, rfl, e⟩ | ⟨y, u, rfl, e⟩
      · exact nomatch e
      · injection e with e1 _; rw [e1]
  byValue := fun k v h => by
    rcases keyIs_shape h with ⟨i, t, rfl, rfl⟩ | ⟨x, t, rfl, rfl⟩ <;> rfl
  pyHash := fun hv h => by
    rcases keyIs_shape hv with ⟨i, t, rfl, rfl⟩ | ⟨x, t, rfl, rfl⟩
    · exact wpAny_pyHash_int h
    · exact wpAny_pyHash_str h
  eqBool := fun hu hv h => by
    rcases keyIs_shape hu with ⟨i, t, rfl, rfl⟩ | ⟨x, t, rfl, rfl⟩
    · rcases keyIs_shape hv with ⟨j, u, rfl, rfl⟩ | ⟨y, u, rfl, rfl⟩
      · rw [key_ll] at h; exact wpAny_eqBool_int h
      · rw [key_lr] at h; exact SeqAt.EqAt.int_str i t y u _ _ _ _ h
    · rcases keyIs_shape hv with ⟨j, u, rfl, rfl⟩ | ⟨y, u, rfl, rfl⟩
      · rw [key_rl] at h; exact SeqAt.EqAt.str_int x t j u _ _ _ _ h
      · rw [key_rr] at h; exact wpAny_eqBool_str h
  «strs» := fun k x t v h => by
    rcases keyIs_shape h with ⟨i, u, rfl, e⟩ | ⟨y, u, rfl, e⟩
    · exact nomatch e
    · injection e with e1 _
      subst e1
      cases v <;> rfl

theorem mixKind_is (prog : Program) (w : World) (k : Key) (v : Value) : (mixKind prog w).is k v = keyIs k v := rfl
theorem mixKind_int (prog : Program) (w : World) (i : Int) (t : Tok) : (mixKind prog w).is (.inl i) (.int i t) = true := keyIs_int i t
theorem mixKind_str (prog : Program) (w : World) (x : Str) (t : Tok) : (mixKind prog w).is (.inr x) (.str x t) = true := keyIs_str x t
end L2

namespace L2
open PySem PySem.Spec PyProof.Rows

/-- a value, without the heap -/
inductive V where
  | non | bl (b : Bool) | int (i : Int) | str (x : Str) | byt (b : Array UInt8) | flt (b : UInt64) | ref (a : Addr) | ty (n : String)
  deriving DecidableEq

def RelV : V → Value → Prop
  | .non, u => u = Value.none
  | .bl b, u => u = Value.bool b
  | .int i, u => ∃ t, u = Value.int i t
  | .str x, u => ∃ t, u = Value.str x t
  | .byt b, u => ∃ t, u = Value.bytes b t
  | .flt b, u => ∃ t, u = Value.float b t
  | .ref a, u => u = Value.ref a
  | .ty n, u => u = Value.type n

abbrev Vals : List V → List Value → Prop := Paired RelV
theorem Vals.length {xs : List V} {us : List Value} (r : Vals xs us) : xs.length = us.length := Paired.length r
theorem Vals.get : ∀ {xs : List V} {us : List Value} {i : Nat} {x : V}, Vals xs us → xs[i]? = some x → ∃ u, us[i]? = some u ∧ RelV x u
  | _, _, _, _, .nil, e => by simp at e
  | _, _, 0, _, .cons r _, e => by simp at e; subst e; exact ⟨_, rfl, r⟩
  | _, _, i + 1, x, .cons _ t, e => by
    obtain ⟨u, h1, h2⟩ := Vals.get (i := i) (x := x) t (by simpa using e)
    exact ⟨u, by simpa using h1, h2⟩
theorem Vals.set {x : V} {u : Value} (r : RelV x u) : ∀ {xs : List V} {us : List Value} (i : Nat), Vals xs us → Vals (xs.set i x) (us.set i u)
  | _, _, _, .nil => .nil
  | _, _, 0, .cons _ t => .cons r t
  | _, _, i + 1, .cons q t => .cons q (Vals.set r i t)
theorem Vals.append : ∀ {xs ys : List V} {us ws : List Value}, Vals xs us → Vals ys ws → Vals (xs ++ ys) (us ++ ws)
  | _, _, _, _, .nil, s => s
  | _, _, _, _, .cons r t, s => .cons r (Vals.append t s)
theorem Vals.take : ∀ {xs : List V} {us : List Value} (n : Nat), Vals xs us → Vals (xs.take n) (us.take n)
  | _, _, 0, _ => .nil
  | _, _, _ + 1, .nil => .nil
  | _, _, n + 1, .cons r t => .cons r (Vals.take n t)
theorem Vals.drop : ∀ {xs : List V} {us : List Value} (n : Nat), Vals xs us → Vals (xs.drop n) (us.drop n)
  | _, _, 0, r => r
  | _, _, _ + 1, .nil => .nil
  | _, _, n + 1, .cons _ t => Vals.drop n t
theorem Vals.none_of : ∀ {xs : List V} {us : List Value} {i : Nat}, Vals xs us → xs[i]? = none → us[i]? = none := fun {xs us i} r e => by
  have h1 := r.length
  have h2 : xs.length ≤ i := List.getElem?_eq_none_iff.mp e
  exact List.getElem?_eq_none_iff.mpr (by omega)

def RelO : Option V → Option Value → Prop
  | some v, some u => RelV v u
  | none, none => True
  | _, _ => False
def KV {κ : Type} : List (κ × V) → List (κ × Value) → Prop := Paired fun (p : κ × V) (q : κ × Value) => p.1 = q.1 ∧ RelV p.2 q.2

/-- a key of a dict (00_mix): an int or a text -/
def kV : Key → V
  | .inl i => .int i
  | .inr x => .str x

/-- what stands at a tracked address -/
inductive HO where
  /-- a list -/
  | lst (xs : List V)
  /-- a tuple (never changes) -/
  | tup (xs : List V)
  /-- a dict whose keys are ints and texts; one whose keys are tuples of ints and texts (the empty one is both) -/
  | dK (kvs : List (Key × V)) | dT (kvs : List (List Key × V))
  /-- a set of ints: its members, its size -/
  | set (S : Int → Bool) (n : Nat)
  /-- an instance of the class at C, its dict at dx, its attributes -/
  | ins (C dx : Addr) (fs : List (Str × V))
  /-- the dict of the instance at x -/
  | own (x : Addr)
  /-- the dict of an exception -/
  | xd (fs : List (Str × V))
  /-- a bound method, f of x -/
  | met (f x : Addr)
  /-- a range object lo, lo + 1, .. below hi -/
  | rng (lo hi : Int)
  /-- a thing that is known to the object (the script; a dict while a loop walks it): read, never written while it is so -/
  | frz (o : Obj) (u : HO)
  /-- a code object's table -/
  | tbl (ps : Array Value)
  /-- any other thing, by what is true of its one object (a def of one's own: SetO a S n := HO.ext fun h => ..) -/
  | ext (φ : Heap → Prop)

abbrev Hp := Addr → Option HO
def upd (H : Hp) (a : Addr) (o : HO) : Hp := fun b => if b = a then some o else H b
theorem upd_same {H : Hp} {a : Addr} {o : HO} : upd H a o a = some o := by unfold upd; rw [if_pos rfl]
theorem upd_ne {H : Hp} {a b : Addr} {o : HO} (h : b ≠ a) : upd H a o b = H b := by unfold upd; rw [if_neg h]
theorem upd_upd {H : Hp} {a : Addr} {o u : HO} : upd (upd H a o) a u = upd H a u := by
  funext b; unfold upd; split <;> rfl
/-- two objects of different content stand apart -/
theorem ne_of {H : Hp} {a b : Addr} {o u : HO} (h : H a = some o) (h' : H b = some u) (d : o ≠ u) : a ≠ b := by
  intro e; subst e; rw [h] at h'; exact d (Option.some.inj h')
theorem ne_of_none {H : Hp} {a b : Addr} {o : HO} (h : H a = some o) (h' : H b = none) : a ≠ b := by
  intro e; subst e; rw [h] at h'; cases h'

section
variable (P : Program) (w : World)
def ObjOk (H : Hp) (h : Heap) (a : Addr) : HO → Prop
  | .lst xs => xs.length ≤ sizeLine ∧ ∃ (its : List Value) (n : Nat), Vals xs its ∧ h.get? a = some { cls := .type "list", data := .seq its.toArray n }
  | .tup xs => xs.length ≤ sizeLine ∧ ∃ its : List Value, Vals xs its ∧ IsTup h a its.toArray
  | .dK kvs => kvs.length ≤ sizeLine ∧ (a == sysModules) = false ∧ ∃ vs, KV kvs vs ∧ h.DictOf (mixKind P w) a vs
  | .dT kvs => kvs.length ≤ sizeLine ∧ (a == sysModules) = false ∧ ∃ xs : List (List Key × Addr × Value),
      Paired (fun (p : List Key × V) (q : List Key × Addr × Value) => p.1 = q.1 ∧ H q.2.1 = some (.tup (p.1.map kV)) ∧ RelV p.2 q.2.2) kvs xs ∧
      ∃ o es ep, h.get? a = some o ∧ o.ExactDict ∧ o.data = .dict es ep ∧ es.toList = xs.map (entryOfKey (tupleKind (mixKind P w))) ∧ (xs.map (·.1)).Nodup
  | .set S n => h.SetOf (intKind P w) a S n
  | .ins C dx fs => H dx = some (.own a) ∧ fs.length ≤ 1000 ∧ dx ≠ a ∧ h.get? a = some (PySem.W.instObj C dx) ∧
      ∃ mA, h.Ns1 dx mA ∧ (∀ f, RelO (fs.lookup f) (mA f)) ∧ PySem.Within mA (fs.map (·.1))
  | .own _ => ∃ o, h.get? a = some o
  | .xd fs => ∃ mA, h.Ns1 a mA ∧ ∀ f, RelO (fs.lookup f) (mA f)
  | .rng lo hi => ∃ t u v, h.get? a = some { cls := .type "range", data := .fields #[.int lo t, .int hi u, .int 1 v] }
  | .frz o u => h.get? a = some o ∧ ObjOk H h a u
  | .tbl ps => h.get? a = some { cls := .none, data := .fields ps }
  | .met f x => h.get? a = some (PySem.W.methodObj (.ref f) (.ref x))
  | .ext φ => φ h ∧ (∃ o, h.get? a = some o) ∧ ∀ h1 h2 : Heap, φ h1 → (∀ o, h1.get? a = some o → h2.get? a = some o) → φ h2
/-- the abstract heap is held -/
def HOk (H : Hp) (h : Heap) : Prop := ∀ a o, H a = some o → ObjOk P w H h a o
end

section
variable {P : Program} {w : World} {H H' : Hp} {h h' : Heap} {a : Addr} {o : HO}
theorem ObjOk.lt (x : ObjOk P w H h a o) : a < h.objs.size := by
  cases o with
  | lst xs => obtain ⟨_, _, _, _, e⟩ := x; exact Heap.lt_size e
  | tup xs => obtain ⟨_, _, _, p⟩ := x; exact p.lt
  | dK kvs => obtain ⟨_, _, _, _, o, _, _, e, _⟩ := x; exact Heap.lt_size e
  | dT kvs => obtain ⟨_, _, _, _, o, _, _, e, _⟩ := x; exact Heap.lt_size e
  | set S n => obtain ⟨o, _, _, _, e, _⟩ := x; exact Heap.lt_size e
  | ins C dx fs => obtain ⟨_, _, _, e, _⟩ := x; exact Heap.lt_size e
  | own y => obtain ⟨_, e⟩ := x; exact Heap.lt_size e
  | xd fs => obtain ⟨_, ⟨_, _, _, e, _⟩, _⟩ := x; exact Heap.lt_size e
  | rng lo hi => obtain ⟨_, _, _, e⟩ := x; exact Heap.lt_size e
  | frz ob u => obtain ⟨e, _⟩ := x; exact Heap.lt_size e
  | tbl ps => exact Heap.lt_size (show h.get? a = some _ from x)
  | met f y => exact Heap.lt_size (show h.get? a = some _ from x)
  | ext φ => obtain ⟨_, ⟨_, e⟩, _⟩ := x; exact Heap.lt_size e
theorem Paired.mapP {α β : Type} {F G : α → β → Prop} : ∀ {l₁ : List α} {l₂ : List β}, Paired F l₁ l₂ → (∀ a b, F a b → G a b) → Paired G l₁ l₂
  | _, _, .nil, _ => .nil
  | _, _, .cons r t, f => .cons (f _ _ r) (Paired.mapP t f)
theorem Paired.imp' {α β : Type} {F G : α → β → Prop} (f : ∀ a b, F a b → G a b) {l₁ : List α} {l₂ : List β} (r : Paired F l₁ l₂) : Paired G l₁ l₂ := Paired.mapP r f
/-- what an object's description leans on: its own object, its own dict, the tuples -/
theorem ObjOk.stay (x : ObjOk P w H h a o) (k : ∀ b u, (b = a ∨ H b = some (.own a)) → h.get? b = some u → h'.get? b = some u)
    (ho : ∀ b, H b = some (.own a) → H' b = some (.own a)) (ht : ∀ b xs, H b = some (.tup xs) → H' b = some (.tup xs)) : ObjOk P w H' h' a o := by
  induction o with
  | lst xs => obtain ⟨z, its, n, r, e⟩ := x; exact ⟨z, its, n, r, k _ _ (.inl rfl) e⟩
  | tup xs => obtain ⟨z, its, r, ob, e, c⟩ := x; exact ⟨z, its, r, ob, k _ _ (.inl rfl) e, c⟩
  | dK kvs => obtain ⟨z, y, vs, r, ob, es, ep, e, c⟩ := x; exact ⟨z, y, vs, r, ob, es, ep, k _ _ (.inl rfl) e, c⟩
  | dT kvs =>
    obtain ⟨z, y, xs, r, ob, es, ep, e, c⟩ := x
    exact ⟨z, y, xs, Paired.mapP r fun p q z => ⟨z.1, ht _ _ z.2.1, z.2.2⟩, ob, es, ep, k _ _ (.inl rfl) e, c⟩
  | set S n => obtain ⟨ob, es, ep, t, e, c⟩ := x; exact ⟨ob, es, ep, t, k _ _ (.inl rfl) e, c⟩
  | ins C dx fs =>
    obtain ⟨d, z, ne, e, mA, ⟨od, es, ep, e2, c⟩, r⟩ := x
    exact ⟨ho _ d, z, ne, k _ _ (.inl rfl) e, mA, ⟨od, es, ep, k _ _ (.inr d) e2, c⟩, r⟩
  | own y => obtain ⟨ob, e⟩ := x; exact ⟨ob, k _ _ (.inl rfl) e⟩
  | xd fs => obtain ⟨mA, ⟨od, es, ep, e, c⟩, r⟩ := x; exact ⟨mA, ⟨od, es, ep, k _ _ (.inl rfl) e, c⟩, r⟩
  | rng lo hi => obtain ⟨t, u, v, e⟩ := x; exact ⟨t, u, v, k _ _ (.inl rfl) e⟩
  | frz ob u ih => obtain ⟨e, q⟩ := x; exact ⟨k _ _ (.inl rfl) e, ih q⟩
  | tbl ps =>
    have e : h.get? a = some { cls := .none, data := .fields ps } := x
    show h'.get? a = some { cls := .none, data := .fields ps }
    exact k a _ (.inl rfl) e
  | met f y =>
    have e : h.get? a = some (PySem.W.methodObj (.ref f) (.ref y)) := x
    show h'.get? a = some (PySem.W.methodObj (.ref f) (.ref y))
    exact k a _ (.inl rfl) e
  | ext φ => obtain ⟨p, ⟨o, e⟩, st⟩ := x; exact ⟨st _ _ p fun o q => k _ _ (.inl rfl) q, ⟨o, k _ _ (.inl rfl) e⟩, st⟩
theorem HOk.lt (x : HOk P w H h) (e : H a = some o) : a < h.objs.size := (x a o e).lt
theorem HOk.fresh (x : HOk P w H h) (e : h.objs.size ≤ a) : H a = none := by
  cases q : H a with
  | none => rfl
  | some u => exact absurd (Nat.lt_of_lt_of_le (x.lt q) e) (Nat.lt_irrefl _)
/-- every object of the heap is kept -/
theorem HOk.kept (x : HOk P w H h) (k : ∀ b u, h.get? b = some u → h'.get? b = some u) : HOk P w H h' := fun a o e =>
  (x a o e).stay (fun b u _ q => k b u q) (fun _ q => q) fun _ _ q => q
/-- a new object is laid and tracked -/
theorem HOk.laid (x : HOk P w H h) (k : ∀ b u, h.get? b = some u → h'.get? b = some u) (hp : h.objs.size ≤ a) (new : ObjOk P w (upd H a o) h' a o) : HOk P w (upd H a o) h' := fun b u e => by
  have hn := x.fresh hp
  by_cases hb : b = a
  · subst hb; rw [upd_same] at e; cases e; exact new
  · rw [upd_ne hb] at e
    exact (x b u e).stay (fun c v _ q => k c v q) (fun c q => by rw [upd_ne (ne_of_none q hn)]; exact q) fun c xs q => by rw [upd_ne (ne_of_none q hn)]; exact q
end

/-- what may be read as u: it is u, or a known u -/
def Rd (H : Hp) (a : Addr) (u : HO) : Prop := H a = some u ∨ ∃ o, H a = some (.frz o u)
theorem Rd.of {H : Hp} {a : Addr} {u : HO} (h : H a = some u) : Rd H a u := .inl h
theorem Rd.ok {P : Program} {w : World} {H : Hp} {h : Heap} {a : Addr} {u : HO} (r : Rd H a u) (x : HOk P w H h) : ObjOk P w H h a u := by
  rcases r with r | ⟨o, r⟩
  · exact x a u r
  · obtain ⟨_, q⟩ := x a _ r
    exact q
/-- what may be written -/
def Mut : Option HO → Prop
  | some (.lst _) => True
  | some (.dK _) => True
  | some (.dT _) => True
  | some (.set _ _) => True
  | some (.ins _ _ _) => True
  | some (.ext _) => True
  | _ => False
section
variable {P : Program} {w : World} {H : Hp} {h h' : Heap} {x e : Addr} {o' : HO}
/-- the object at e is changed: x itself, or the dict of the instance x -/
theorem HOk.write (ok : HOk P w H h) (mu : Mut (H x)) (he : e = x ∨ H e = some (.own x)) (k : ∀ b u, b ≠ e → h.get? b = some u → h'.get? b = some u) (heo : ∃ u, h'.get? e = some u)
    (new : ObjOk P w (upd H x o') h' x o') : HOk P w (upd H x o') h' := fun b u q => by
  have nown : ∀ c y, H c = some (.own y) → c ≠ x := fun c y r z => by subst z; rw [r] at mu; exact mu
  have ntup : ∀ c xs, H c = some (.tup xs) → c ≠ x := fun c xs r z => by subst z; rw [r] at mu; exact mu
  by_cases hb : b = x
  · subst hb; rw [upd_same] at q; cases q; exact new
  · rw [upd_ne hb] at q
    by_cases hbe : b = e
    · have q' : H b = some (.own x) := by
        rcases he with z | z
        · exact absurd (hbe.trans z) hb
        · rw [hbe]; exact z
      rw [q] at q'; cases q'
      obtain ⟨v, hv⟩ := heo
      exact ⟨v, by rw [hbe]; exact hv⟩
    · refine (ok b u q).stay (fun c v hc r => k c v ?_ r) (fun c r => by rw [upd_ne (nown c b r)]; exact r) fun c xs r => by rw [upd_ne (ntup c xs r)]; exact r
      rcases hc with rfl | hc
      · exact hbe
      · rintro rfl
        rcases he with z | z
        · exact nown c b hc z
        · rw [hc] at z; cases z; exact hb rfl
end

/-! ### kept unless tracked; of the frames at fs (the callers') the slots may change (an exception that passes writes there); of the records at ex (iterators) nothing is said -/
structure Un (fs ex : List Addr) (H H' : Hp) (h h' : Heap) : Prop where
  keep : ∀ b o, h.get? b = some o → H b = none → b ∉ fs → b ∉ ex → h'.get? b = some o
  slot : ∀ b o, h.get? b = some o → H b = none → b ∈ fs → b ∉ ex → ∃ sl, h'.get? b = some { o with slots := sl }
  free : ∀ b o, h.get? b = some o → H b = none → b ∉ ex → H' b = none
  there : ∀ b o, h.get? b = some o → b ∉ ex → ∃ o', h'.get? b = some o'
  tups : ∀ b xs, H b = some (.tup xs) → H' b = some (.tup xs)
  frzs : ∀ b o u, H b = some (.frz o u) → H' b = some (.frz o u)
  tbls : ∀ b ps, H b = some (.tbl ps) → ∃ more, H' b = some (.tbl (ps ++ more))
section
variable {fs fs' ex ex' : List Addr} {H H1 H2 : Hp} {h h1 h2 h' : Heap} {a x e : Addr} {o : HO}
theorem Un.any (u : Un fs ex H H1 h h1) {b : Addr} {ob : Obj} (q : h.get? b = some ob) (n : H b = none) (hx : b ∉ ex) : ∃ sl, h1.get? b = some { ob with slots := sl } := by
  by_cases hb : b ∈ fs
  · exact u.slot b ob q n hb hx
  · exact ⟨ob.slots, u.keep b ob q n hb hx⟩
theorem Un.trans (a : Un fs ex H H1 h h1) (b : Un fs ex H1 H2 h1 h2) : Un fs ex H H2 h h2 where
  keep := fun c ob q n hc hx => b.keep c ob (a.keep c ob q n hc hx) (a.free c ob q n hx) hc hx
  slot := fun c ob q n hc hx => by
    obtain ⟨sl, e1⟩ := a.slot c ob q n hc hx
    obtain ⟨sl', e2⟩ := b.slot c _ e1 (a.free c ob q n hx) hc hx
    exact ⟨sl', e2⟩
  free := fun c ob q n hx => by
    obtain ⟨o', e1⟩ := a.there c ob q hx
    exact b.free c o' e1 (a.free c ob q n hx) hx
  there := fun c ob q hx => by
    obtain ⟨o', e1⟩ := a.there c ob q hx
    exact b.there c o' e1 hx
  tups := fun c xs q => b.tups c xs (a.tups c xs q)
  frzs := fun c ob xs q => b.frzs c ob xs (a.frzs c ob xs q)
  tbls := fun c ps q => by
    obtain ⟨m1, e1⟩ := a.tbls c ps q
    obtain ⟨m2, e2⟩ := b.tbls c _ e1
    exact ⟨m1 ++ m2, by rw [e2, Array.append_assoc]⟩
theorem Un.kept (k : ∀ b u, h.get? b = some u → h'.get? b = some u) : Un fs ex H H h h' :=
  ⟨fun b ob q _ _ _ => k b ob q, fun b ob q _ _ _ => ⟨ob.slots, k b ob q⟩, fun _ _ _ n _ => n, fun b ob q _ => ⟨ob, k b ob q⟩, fun _ _ q => q, fun _ _ _ q => q, fun _ ps q => ⟨#[], by rw [q]; simp⟩⟩
theorem Un.refl : Un fs ex H H h h := Un.kept fun _ _ q => q
theorem Un.laid (k : ∀ b u, h.get? b = some u → h'.get? b = some u) (hp : h.objs.size ≤ a) (hn : H a = none) : Un fs ex H (upd H a o) h h' where
  keep := fun b u q _ _ _ => k b u q
  slot := fun b u q _ _ _ => ⟨u.slots, k b u q⟩
  free := fun b u q n _ => by rw [upd_ne (Nat.ne_of_lt (Nat.lt_of_lt_of_le (Heap.lt_size q) hp))]; exact n
  there := fun b u q _ => ⟨u, k b u q⟩
  tups := fun b xs q => by rw [upd_ne (ne_of_none q hn)]; exact q
  frzs := fun b u xs q => by rw [upd_ne (ne_of_none q hn)]; exact q
  tbls := fun b ps q => ⟨#[], by rw [upd_ne (ne_of_none q hn), q]; simp⟩
theorem Un.write (mu : Mut (H x)) (he : e = x ∨ H e = some (.own x)) (k : ∀ b u, b ≠ e → h.get? b = some u → h'.get? b = some u) (heo : ∃ u, h'.get? e = some u) : Un fs ex H (upd H x o) h h' := by
  have hx : ∀ b, H b = none → b ≠ x := fun b n z => by subst z; rw [n] at mu; exact mu
  have hb : ∀ b, H b = none → b ≠ e := fun b n z => by
    subst z
    rcases he with r | r
    · exact hx b n r
    · rw [n] at r; cases r
  have hm : ∀ b u, H b = some u → ¬ Mut (some u) → b ≠ x := fun b u q nm z => by subst z; rw [q] at mu; exact nm mu
  refine ⟨fun b u q n _ _ => k b u (hb b n) q, fun b u q n _ _ => ⟨u.slots, k b u (hb b n) q⟩, fun b u q n _ => by rw [upd_ne (hx b n)]; exact n, fun b u q _ => ?_,
    fun b xs q => by rw [upd_ne (hm b _ q fun z => z)]; exact q, fun b u xs q => by rw [upd_ne (hm b _ q fun z => z)]; exact q, fun b ps q => ⟨#[], by rw [upd_ne (hm b _ q fun z => z), q]; simp⟩⟩
  by_cases hbe : b = e
  · subst hbe; exact heo
  · exact ⟨u, k b u hbe q⟩
theorem Un.mono (u : Un fs ex H H1 h h1) (hs : ∀ b ∈ fs, b ∈ fs') (hx : ∀ b ∈ ex, b ∈ ex') : Un fs' ex' H H1 h h1 :=
  ⟨fun b ob q n hb he => u.keep b ob q n (fun z => hb (hs b z)) fun z => he (hx b z), fun _ _ q n _ he => u.any q n fun z => he (hx _ z), fun b ob q n he => u.free b ob q n fun z => he (hx b z), fun b ob q he => u.there b ob q fun z => he (hx b z), u.tups, u.frzs, u.tbls⟩
end

/-! ### the heap without what is tracked -/
def trk (h : Heap) (H : Hp) : List Addr := (List.range h.objs.size).filter fun a => (H a).isSome
def hidT (h : Heap) (H : Hp) : Heap := PySem.W.hideAll h (trk h H)
theorem hidT_size (h : Heap) (H : Hp) : (hidT h H).objs.size = h.objs.size := PySem.W.hideAll_size _ _
theorem hidT_get {h : Heap} {H : Hp} {b : Addr} {o : Obj} (e : h.get? b = some o) (n : H b = none) : (hidT h H).get? b = some o :=
  PySem.W.hideAll_get _ e fun hm => by
    have q : (H b).isSome = true := (List.mem_filter.mp hm).2
    rw [n] at q; simp at q
theorem of_hidT {h : Heap} {H : Hp} {b : Addr} {o : Obj} (e : (hidT h H).get? b = some o) : h.get? b = some o ∧ H b = none := by
  have e' : h.get? b = some o := PySem.W.of_hideAll (trk h H) e
  refine ⟨e', ?_⟩
  cases q : H b with
  | none => rfl
  | some x =>
    have hm : b ∈ trk h H := List.mem_filter.mpr ⟨List.mem_range.mpr (Heap.lt_size e'), by simp [q]⟩
    have z : (hidT h H).get? b = none := PySem.W.hideAll_none (trk h H) hm
    rw [z] at e; cases e

/-! ### OpenK's ledger, filled with every new object but one -/
def allNews (g h : Heap) (L : Addr) : List (Addr × Obj) := (List.range h.objs.size).filterMap fun a => if a = L ∨ (g.get? a).isSome = true then none else (h.get? a).map fun o => (a, o)
theorem mem_allNews {g h : Heap} {L a : Addr} {o : Obj} (h1 : a ≠ L) (h2 : g.get? a = none) (h3 : h.get? a = some o) : (a, o) ∈ allNews g h L :=
  List.mem_filterMap.mpr ⟨a, List.mem_range.mpr (Heap.lt_size h3), by simp [h1, h2, h3]⟩
theorem of_mem_allNews {g h : Heap} {L : Addr} {p : Addr × Obj} (hp : p ∈ allNews g h L) : p.1 ≠ L ∧ g.get? p.1 = none ∧ h.get? p.1 = some p.2 := by
  obtain ⟨b, _, e⟩ := List.mem_filterMap.mp hp
  split at e
  · cases e
  · rename_i hn
    cases q : h.get? b with
    | none => rw [q] at e; simp at e
    | some u =>
      rw [q] at e
      simp only [Option.map_some, Option.some.injEq] at e
      subst e
      refine ⟨fun z => hn (.inl z), ?_, q⟩
      show g.get? b = none
      cases r : g.get? b with
      | none => rfl
      | some v => exact (hn (.inr (by simp [r]))).elim
def rest (g h : Heap) (L d : Addr) : List (Addr × Obj) := (allNews g h L).filter fun p => decide (p.1 ≠ d)
theorem rest_ne {g h : Heap} {L d : Addr} : ∀ p ∈ rest g h L d, p.1 ≠ d := fun p hp => of_decide_eq_true (List.mem_filter.mp hp).2
theorem mem_rest {g h : Heap} {L d a : Addr} {o : Obj} (h1 : a ≠ L) (h2 : g.get? a = none) (h3 : h.get? a = some o) (h4 : a ≠ d) : (a, o) ∈ rest g h L d :=
  List.mem_filter.mpr ⟨mem_allNews h1 h2 h3, decide_eq_true h4⟩
theorem news_all {g h : Heap} {L : Addr} : News g L h (allNews g h L) := fun p hp => let ⟨a, b, c⟩ := of_mem_allNews hp; ⟨c, a, b⟩
theorem news_at {g h : Heap} {L d : Addr} {o : Obj} (h1 : d ≠ L) (h2 : g.get? d = none) (h3 : h.get? d = some o) : News g L h ((d, o) :: rest g h L d) := fun p hp => by
  rcases List.mem_cons.mp hp with rfl | hp
  · exact ⟨h3, h1, h2⟩
  · exact news_all p (List.mem_filter.mp hp).1
/-- behind a rule that changed d alone: all else but the frame is kept -/
theorem kept_of_news {g h h' : Heap} {L d : Addr} {m : Str → Option Value} (k : ∀ b o, g.get? b = some o → h.get? b = some o) (F : Fr g L h' m) (N : News g L h' (rest g h L d)) :
    ∀ b o, b ≠ L → b ≠ d → h.get? b = some o → h'.get? b = some o := fun b o h1 h2 e => by
  cases q : g.get? b with
  | some u =>
    have := k b u q
    rw [e] at this; cases this
    exact F.keep b _ q
  | none => exact (N (b, o) (mem_rest h1 q e h2)).1
end L2

namespace L2
open PySem PySem.Spec PyProof.Rows

/-- the module's facts, over the base: the heap at the law's entry without what is tracked there -/
structure Mod (K : PySem.W.Frag) (mg : Str → Option Value) (base : Heap) : Prop where
  kin : K.In base
  glob : base.Ns mainGlobals mg
  blt : ∃ mb, base.Ns builtinsNs mb ∧ ∀ x : Str, x ≠ "__name__" → mb x = bootBuiltins x
  nolimit : base.NoLimit

/-- the context: a def's body (or a comprehension's block) running. base: fixed through the whole law; s₀, H₀: the entry; outer: the frames whose slots others may change (a def's callers); stack: all frames that run;
   ex: iterators that were made ahead of the entry and are walked here (a comprehension's); fn: the names whose cells were made at the entry (a def: all; a comprehension's block: its own); calm: not within an except suite; pn: pins that every state bears; xe: what is wanted of an exception that leaves the code -/
structure Cx where
  prog : Program
  w : World
  K : PySem.W.Frag
  mg : Str → Option Value
  base : Heap
  A : Around
  N : List Str
  s₀ : Shared
  H₀ : Hp
  env : Env
  outer : List Env
  stack : List Env
  ex : List Addr
  fn : Str → Bool
  calm : Bool
  pn : List (Addr × Obj)
  xe : Value → Shared → Prop
/-- the callers' frames -/
def frs (l : List Env) : List Addr := l.filterMap (·.frame)
abbrev Cx.fs (X : Cx) : List Addr := frs X.outer

def Vis (sc : Scope) (x : Str) : Prop := sc.names.lookup x = some .local ∨ sc.names.lookup x = some .cell ∨ sc.names.lookup x = some .free
def Loc (sc : Scope) (x : Str) : Prop := sc.names.lookup x = some .local ∨ sc.names.lookup x = some .cell
def Look (env : Env) (h : Heap) (m : Str → Option Value) (x : Str) (u : Value) : Prop :=
  (env.kindOf x = some .local ∧ m x = some u) ∨ ((env.kindOf x = some .cell ∨ env.kindOf x = some .free) ∧ ∃ c, env.cells.lookup x = some c ∧ h.IsCell c (some u))

structure Cx.Ok (X : Cx) : Prop where
  mod : Mod X.K X.mg X.base
  kind : X.env.scope.kind = .function
  glob : X.env.globals = mainGlobals
  blt : X.env.builtins = builtinsNs
  above : X.s₀.heap.objs.size ≤ X.env.locals
  inj : ∀ x y c, X.env.cells.lookup x = some c → X.env.cells.lookup y = some c → x = y
  has : ∀ x, (X.env.kindOf x = some .cell ∨ X.env.kindOf x = some .free) → ∃ c, X.env.cells.lookup x = some c
  cab : ∀ x c, X.fn x = true → X.env.cells.lookup x = some c → X.s₀.heap.objs.size ≤ c
  hd : X.calm = true → X.A.handled = none
  frames : X.A.frames = some X.stack
  stk : X.stack = X.outer ∨ (X.stack = X.env :: X.outer ∧ X.env.frame = some X.env.locals)
  exf : ∀ b ∈ X.ex, b ≠ X.env.locals ∧ ∀ x c, X.env.cells.lookup x = some c → c ≠ b
  bs : ∀ b o, X.base.get? b = some o → X.s₀.heap.get? b = some o ∧ X.H₀ b = none
  bsz : X.base.objs.size ≤ X.s₀.heap.objs.size
  noex : ∀ b o, X.base.get? b = some o → b ∉ X.ex
  exfs : ∀ b ∈ X.ex, b ∉ X.fs
  funs : X.s₀.heap.FunFrames X.base X.outer
  frf : ∀ b ∈ X.fs, X.H₀ b = none

structure Inv (X : Cx) (pins : List (Addr × Obj)) (σ : List (Option V)) (H : Hp) (s : Shared) : Prop where
  ok : X.Ok
  os : s.os = X.s₀.os
  bare : AllBare s.gens
  base : Un X.fs X.ex X.H₀ H X.s₀.heap s.heap
  loc : ∃ m, s.heap.Ns X.env.locals m ∧ ∀ (i : Nat) (x : Str) (v : V), X.N[i]? = some x → σ[i]? = some (some v) → Vis X.env.scope x → ∃ u, RelV v u ∧ Look X.env s.heap m x u
  cell : ∀ x c, X.env.cells.lookup x = some c → ∃ v, s.heap.IsCell c v
  free : H X.env.locals = none
  freeC : ∀ x c, X.env.cells.lookup x = some c → H c = none
  pin : ∀ p ∈ X.pn ++ pins, s.heap.get? p.1 = some p.2 ∧ H p.1 = none ∧ p.1 ≠ X.env.locals ∧ p.1 ∉ X.fs ∧ ∀ v, p.2.data ≠ .cell v
  hok : HOk X.prog X.w H s.heap
  len : σ.length = X.N.length

section
variable {X : Cx} {pins : List (Addr × Obj)} {σ : List (Option V)} {H H' : Hp} {s : Shared} {h' : Heap}

theorem Cx.Ok.nofr (ok : X.Ok) {b : Addr} {o : Obj} (e : X.base.get? b = some o) : b ∉ X.fs := fun hb => by
  have := (ok.funs.mem hb).1
  rw [e] at this; cases this
theorem Inv.bs (I : Inv X pins σ H s) : ∀ b o, X.base.get? b = some o → s.heap.get? b = some o ∧ H b = none := fun b o e =>
  ⟨I.base.keep b o (I.ok.bs b o e).1 (I.ok.bs b o e).2 (I.ok.nofr e) (I.ok.noex b o e), I.base.free b o (I.ok.bs b o e).1 (I.ok.bs b o e).2 (I.ok.noex b o e)⟩
theorem Inv.bk (I : Inv X pins σ H s) : ∀ b o, X.base.get? b = some o → s.heap.get? b = some o := fun b o e => (I.bs b o e).1
theorem Inv.mod (I : Inv X pins σ H s) : Mod X.K X.mg X.base := I.ok.mod
theorem Inv.kIn (I : Inv X pins σ H s) : X.K.In s.heap := I.ok.mod.kin.keeps I.bk
theorem Inv.nolimit (I : Inv X pins σ H s) : s.heap.NoLimit := I.ok.mod.nolimit.keeps I.bk
/-- the frame over the base: for OpenK's rules (K.In X.base is I.mod.kin) -/
theorem Inv.fr (I : Inv X pins σ H s) : ∃ m, Fr X.base X.env.locals s.heap m :=
  let ⟨m, hn, _⟩ := I.loc
  ⟨m, hn, I.bk, Nat.le_trans I.ok.bsz I.ok.above⟩
theorem Inv.lt (I : Inv X pins σ H s) : X.env.locals < s.heap.objs.size := let ⟨_, hn, _⟩ := I.loc; hn.lt
theorem Inv.sz (I : Inv X pins σ H s) : X.s₀.heap.objs.size ≤ s.heap.objs.size := Nat.le_trans I.ok.above (Nat.le_of_lt I.lt)
theorem Inv.nofs (I : Inv X pins σ H s) {a : Addr} (h : s.heap.objs.size ≤ a) : a ∉ X.fs := fun hb => by
  obtain ⟨_, o, ho, _⟩ := I.ok.funs.mem hb
  exact absurd (Nat.lt_of_lt_of_le (Heap.lt_size ho) (Nat.le_trans I.sz h)) (Nat.lt_irrefl _)
theorem Inv.cne (I : Inv X pins σ H s) : ∀ x c, X.env.cells.lookup x = some c → c ≠ X.env.locals := fun x c e z => by
  obtain ⟨v, o, ho, hd⟩ := I.cell x c e
  obtain ⟨m, ⟨o', es, ep, ho', hd', _⟩, _⟩ := I.loc
  rw [z, ho'] at ho; cases ho; rw [hd'] at hd; cases hd
theorem Inv.funs (I : Inv X pins σ H s) : s.heap.FunFrames X.base X.outer := by
  have all : ∀ (l : List Env), (∀ b ∈ frs l, b ∈ X.fs) → X.s₀.heap.FunFrames X.base l → s.heap.FunFrames X.base l := by
    intro l
    induction l with
    | nil => intro _ _; trivial
    | cons env r ih =>
      intro hs hl
      obtain ⟨hk, ⟨L, o, hf, hn, ho, hd⟩, hr⟩ := hl
      have hL : L ∈ X.fs := hs L (by unfold frs; rw [List.filterMap_cons, hf]; exact List.mem_cons_self)
      obtain ⟨sl, e⟩ := I.base.slot L o ho (I.ok.frf L hL) hL fun z => I.ok.exfs L z hL
      exact ⟨hk, ⟨L, _, hf, hn, e, hd⟩, ih (fun b hb => hs b (by unfold frs; rw [List.filterMap_cons, hf]; exact List.mem_cons_of_mem _ hb)) hr⟩
  exact all X.outer (fun _ hb => hb) I.ok.funs

/-- the frames that run, for a call -/
theorem Inv.stack (I : Inv X pins σ H s) : s.heap.FunFrames X.base X.stack := by
  rcases I.ok.stk with e | ⟨e, hf⟩
  · rw [e]; exact I.funs
  · rw [e]
    obtain ⟨m, hn, _⟩ := I.loc
    refine .cons (by rw [I.ok.kind]; decide) hf hn ?_ I.funs
    exact Heap.get?_none_of_le (Nat.le_trans I.ok.bsz I.ok.above)
theorem Inv.stkSub (I : Inv X pins σ H s) : ∀ b ∈ frs X.stack, b ∈ X.env.locals :: X.fs := fun b hb => by
  rcases I.ok.stk with e | ⟨e, hf⟩
  · rw [e] at hb; exact List.mem_cons_of_mem _ hb
  · rw [e] at hb
    unfold frs at hb
    rw [List.filterMap_cons, hf] at hb
    exact hb
theorem Inv.stkFree (I : Inv X pins σ H s) : ∀ b ∈ frs X.stack, H b = none := fun b hb => by
  rcases List.mem_cons.mp (I.stkSub b hb) with e | hb
  · rw [e]; exact I.free
  · obtain ⟨_, o, ho, _⟩ := I.ok.funs.mem hb
    exact I.base.free b o ho (I.ok.frf b hb) fun z => I.ok.exfs b z hb

/-- THE STEP: the untracked objects but the frame and the records at ch are kept (the callers' frames up to slots), the frame's map is kept, the new abstract heap is held -/
theorem Inv.step {g' : Array GenState} {t' : Nat} {d' : Drawn} {ch : List Addr} (I : Inv X pins σ H s)
    (hch : ∀ b ∈ ch, (b ∈ X.ex ∨ X.s₀.heap.objs.size ≤ b) ∧ b ≠ X.env.locals ∧ (∀ x c, X.env.cells.lookup x = some c → c ≠ b) ∧ ∀ p ∈ X.pn ++ pins, p.1 ≠ b)
    (keep : ∀ b o, b ≠ X.env.locals → b ∉ X.fs → b ∉ ch → s.heap.get? b = some o → H b = none → h'.get? b = some o)
    (slot : ∀ b o, b ≠ X.env.locals → b ∈ X.fs → b ∉ ch → s.heap.get? b = some o → H b = none → ∃ sl, h'.get? b = some { o with slots := sl }) (free : ∀ b o, b ∉ ch → s.heap.get? b = some o → H b = none → H' b = none)
    (there : ∀ b o, b ∉ ch → s.heap.get? b = some o → ∃ o', h'.get? b = some o')
    (tups : ∀ b xs, H b = some (.tup xs) → H' b = some (.tup xs)) (frzs : ∀ b o u, H b = some (.frz o u) → H' b = some (.frz o u)) (tbls : ∀ b ps, H b = some (.tbl ps) → ∃ more, H' b = some (.tbl (ps ++ more)))
    (ns : ∀ m, s.heap.Ns X.env.locals m → h'.Ns X.env.locals m) (hok : HOk X.prog X.w H' h') (hg : AllBare g') :
    Inv X pins σ H' { s with heap := h', gens := g', drawn := d', toks := t' } := by
  have neL : ∀ b o, X.s₀.heap.get? b = some o → b ≠ X.env.locals := fun b o e => Nat.ne_of_lt (Nat.lt_of_lt_of_le (Heap.lt_size e) I.ok.above)
  have neC : ∀ b o, X.s₀.heap.get? b = some o → b ∉ X.ex → b ∉ ch := fun b o e hx hb => by
    rcases (hch b hb).1 with z | z
    · exact hx z
    · exact absurd (Nat.lt_of_lt_of_le (Heap.lt_size e) z) (Nat.lt_irrefl _)
  have cellK : ∀ x c, X.env.cells.lookup x = some c → ∀ v, s.heap.IsCell c v → h'.IsCell c v := fun x c e v ⟨o, ho, hd⟩ => by
    have nch : c ∉ ch := fun z => (hch c z).2.2.1 x c e rfl
    by_cases hc : c ∈ X.fs
    · obtain ⟨sl, q⟩ := slot c o (I.cne x c e) hc nch ho (I.freeC x c e)
      exact ⟨_, q, hd⟩
    · exact ⟨o, keep c o (I.cne x c e) hc nch ho (I.freeC x c e), hd⟩
  refine ⟨I.ok, I.os, hg, ⟨fun b o e n hb hx => ?_, fun b o e n hb hx => ?_, fun b o e n hx => ?_, fun b o e hx => ?_, fun b xs e => tups b xs (I.base.tups b xs e), fun b o xs e => frzs b o xs (I.base.frzs b o xs e), fun b ps e => ?_⟩, ?_, fun x c e => ?_, ?_, fun x c e => ?_, fun p hp => ?_, hok, I.len⟩
  · exact keep b o (neL b o e) hb (neC b o e hx) (I.base.keep b o e n hb hx) (I.base.free b o e n hx)
  · obtain ⟨sl, e1⟩ := I.base.slot b o e n hb hx
    obtain ⟨sl', e2⟩ := slot b _ (neL b o e) hb (neC b o e hx) e1 (I.base.free b o e n hx)
    exact ⟨sl', e2⟩
  · obtain ⟨o', e1⟩ := I.base.there b o e hx
    exact free b o' (neC b o e hx) e1 (I.base.free b o e n hx)
  · obtain ⟨o', e1⟩ := I.base.there b o e hx
    exact there b o' (neC b o e hx) e1
  · obtain ⟨m1, e1⟩ := I.base.tbls b ps e
    obtain ⟨m2, e2⟩ := tbls b _ e1
    exact ⟨m1 ++ m2, by rw [e2, Array.append_assoc]⟩
  · obtain ⟨m, hn, hl⟩ := I.loc
    refine ⟨m, ns m hn, fun i x v e1 e2 e3 => ?_⟩
    obtain ⟨u, r, l⟩ := hl i x v e1 e2 e3
    refine ⟨u, r, ?_⟩
    rcases l with l | ⟨k, c, e, z⟩
    · exact .inl l
    · exact .inr ⟨k, c, e, cellK x c e _ z⟩
  · obtain ⟨v, z⟩ := I.cell x c e
    exact ⟨v, cellK x c e v z⟩
  · obtain ⟨m, ⟨o, _, _, ho, _⟩, _⟩ := I.loc
    exact free _ o (fun z => (hch _ z).2.1 rfl) ho I.free
  · obtain ⟨v, o, ho, hd⟩ := I.cell x c e
    exact free c o (fun z => (hch c z).2.2.1 x c e rfl) ho (I.freeC x c e)
  · obtain ⟨e, n, ne, nf, d⟩ := I.pin p hp
    have nch : p.1 ∉ ch := fun z => (hch p.1 z).2.2.2 p hp rfl
    exact ⟨keep p.1 p.2 ne nf nch e n, free p.1 p.2 nch e n, ne, nf, d⟩
/-- .. where the frame's own object is kept too -/
theorem Inv.un {t' : Nat} (I : Inv X pins σ H s) (u : Un X.fs [] H H' s.heap h') (hok : HOk X.prog X.w H' h') : Inv X pins σ H' { s with heap := h', toks := t' } := by
  obtain ⟨m, ⟨o, es, ep, ho, r⟩, _⟩ := id I.loc
  obtain ⟨sl, hL⟩ := u.any ho I.free (by simp)
  exact I.step (g' := s.gens) (d' := s.drawn) (ch := []) (fun _ z => nomatch z) (fun b o _ hb _ e n => u.keep b o e n hb (by simp)) (fun b o _ hb _ e n => u.slot b o e n hb (by simp)) (fun b o _ e n => u.free b o e n (by simp)) (fun b o _ e => u.there b o e (by simp)) u.tups u.frzs u.tbls (fun m' hm => by
    obtain ⟨o', es', ep', ho', r'⟩ := hm
    rw [ho] at ho'; cases ho'
    exact ⟨_, es', ep', hL, r'⟩) hok I.bare
/-- behind a call (or a comprehension's block): the slots of this frame may have changed too, the records at ch may have turned -/
theorem Inv.call {g' : Array GenState} {t' : Nat} {d' : Drawn} {ch : List Addr} (I : Inv X pins σ H s) (u : Un (frs X.stack) ch H H' s.heap h') (hok : HOk X.prog X.w H' h') (hg : AllBare g')
    (hch : ∀ b ∈ ch, (b ∈ X.ex ∨ X.s₀.heap.objs.size ≤ b) ∧ b ≠ X.env.locals ∧ (∀ x c, X.env.cells.lookup x = some c → c ≠ b) ∧ ∀ p ∈ X.pn ++ pins, p.1 ≠ b) :
    Inv X pins σ H' { s with heap := h', gens := g', drawn := d', toks := t' } := by
  obtain ⟨m, ⟨o, es, ep, ho, r⟩, _⟩ := id I.loc
  obtain ⟨sl, hL⟩ := u.any ho I.free fun z => (hch _ z).2.1 rfl
  exact I.step (ch := ch) hch (fun b o hL hb hc e n => u.keep b o e n (fun z => (List.mem_cons.mp (I.stkSub b z)).elim hL hb) hc) (fun b o _ _ hc e n => u.any e n hc) (fun b o hc e n => u.free b o e n hc) (fun b o hc e => u.there b o e hc) u.tups u.frzs u.tbls (fun m' hm => by
    obtain ⟨o', es', ep', ho', r'⟩ := hm
    rw [ho] at ho'; cases ho'
    exact ⟨_, es', ep', hL, r'⟩) hok hg
/-- an untracked record of ours (an iterator) has turned -/
theorem Inv.turned {t' : Nat} {it : Addr} (I : Inv X pins σ H s) (k : ∀ b o, b ≠ it → s.heap.get? b = some o → h'.get? b = some o) (hn : H it = none) (hL : it ≠ X.env.locals)
    (h1 : it ∈ X.ex ∨ X.s₀.heap.objs.size ≤ it) (h2 : ∀ x c, X.env.cells.lookup x = some c → c ≠ it) (h3 : ∀ p ∈ X.pn ++ pins, p.1 ≠ it) : Inv X pins σ H { s with heap := h', toks := t' } := by
  have nit : ∀ b u, H b = some u → b ≠ it := fun b u e z => by rw [z, hn] at e; cases e
  refine I.step (g' := s.gens) (d' := s.drawn) (ch := [it]) (fun b hb => ?_) (fun b o _ _ hc e _ => k b o (fun z => hc (by simp [z])) e) (fun b o _ _ hc e _ => ⟨o.slots, k b o (fun z => hc (by simp [z])) e⟩) (fun _ _ _ _ n => n)
    (fun b o hc e => ⟨o, k b o (fun z => hc (by simp [z])) e⟩) (fun _ _ e => e) (fun _ _ _ e => e) (fun b ps e => ⟨#[], by rw [e]; simp⟩) (fun m hm => ?_) (fun b u e => ?_) I.bare
  · have e : b = it := by simpa using hb
    subst e
    exact ⟨h1, hL, h2, h3⟩
  · obtain ⟨o, es, ep, ho, r⟩ := hm
    exact ⟨o, es, ep, k _ o (Ne.symm hL) ho, r⟩
  · refine (I.hok b u e).stay (fun c v hc q => k c v ?_ q) (fun _ q => q) fun _ _ q => q
    rcases hc with z | z
    · rw [z]; exact nit b u e
    · exact nit c _ z
theorem Inv.tok (I : Inv X pins σ H s) (t : Nat) : Inv X pins σ H { s with toks := t } := I.un (h' := s.heap) (t' := t) Un.refl I.hok
/-- all objects kept -/
theorem Inv.kept {t' : Nat} (I : Inv X pins σ H s) (k : ∀ b u, s.heap.get? b = some u → h'.get? b = some u) : Inv X pins σ H { s with heap := h', toks := t' } := I.un (Un.kept k) (I.hok.kept k)
/-- a new object laid and tracked -/
theorem Inv.laid {a : Addr} {o : HO} {t' : Nat} (I : Inv X pins σ H s) (k : ∀ b u, s.heap.get? b = some u → h'.get? b = some u) (hp : s.heap.objs.size ≤ a) (new : ObjOk X.prog X.w (upd H a o) h' a o) :
    Inv X pins σ (upd H a o) { s with heap := h', toks := t' } := I.un (Un.laid k hp (I.hok.fresh hp)) (I.hok.laid k hp new)
/-- an object written -/
theorem Inv.write {x e : Addr} {o : HO} {t' : Nat} (I : Inv X pins σ H s) (mu : Mut (H x)) (he : e = x ∨ H e = some (.own x)) (k : ∀ b u, b ≠ e → s.heap.get? b = some u → h'.get? b = some u) (heo : ∃ u, h'.get? e = some u)
    (new : ObjOk X.prog X.w (upd H x o) h' x o) : Inv X pins σ (upd H x o) { s with heap := h', toks := t' } := I.un (Un.write mu he k heo) (I.hok.write mu he k heo new)
/-- forgetting slots, pins -/
theorem Inv.weak {σ' : List (Option V)} (I : Inv X pins σ H s) (hl : σ'.length = σ.length) (w : ∀ (i : Nat) v, σ'[i]? = some (some v) → σ[i]? = some (some v)) : Inv X pins σ' H s :=
  ⟨I.ok, I.os, I.bare, I.base, let ⟨m, hn, hl'⟩ := I.loc; ⟨m, hn, fun i x v e1 e2 e3 => hl' i x v e1 (w i v e2) e3⟩, I.cell, I.free, I.freeC, I.pin, I.hok, hl.trans I.len⟩
theorem Inv.pins_of {pins' : List (Addr × Obj)} (I : Inv X pins σ H s) (h : ∀ p ∈ pins', s.heap.get? p.1 = some p.2 ∧ H p.1 = none ∧ p.1 ≠ X.env.locals ∧ p.1 ∉ X.fs ∧ ∀ v, p.2.data ≠ .cell v) : Inv X pins' σ H s :=
  ⟨I.ok, I.os, I.bare, I.base, I.loc, I.cell, I.free, I.freeC, fun p hp => (List.mem_append.mp hp).elim (fun z => I.pin p (List.mem_append_left _ z)) (h p), I.hok, I.len⟩

theorem nodup_ix {N : List Str} (hN : N.Nodup) {i j : Nat} {x : Str} (a : N[i]? = some x) (b : N[j]? = some x) : i = j := by
  obtain ⟨h1, e1⟩ := List.getElem?_eq_some_iff.mp a
  obtain ⟨h2, e2⟩ := List.getElem?_eq_some_iff.mp b
  exact (List.getElem_inj hN).mp (e1.trans e2.symm)

/-- a name is stored; what changed -/
theorem store_ok2 {M : Model} {A : Around} {E : Value → Shared → Prop} {i : Nat} {x : Str} {v : V} {u : Value} {Q : Unit → Shared → Prop} (I : Inv X pins σ H s) (hN : X.N.Nodup) (hi : X.N[i]? = some x) (hx : Loc X.env.scope x) (r : RelV v u)
    (h : ∀ s', Inv X pins (σ.set i (some v)) H s' → (∃ a, Heap.SameBut a s.heap s'.heap ∧ (a = X.env.locals ∨ X.env.cells.lookup x = some a)) → Q () s') (hf : X.fn x = true ∨ X.env.scope.names.lookup x = some .local := by first | exact .inl rfl | exact .inr rfl | assumption) : wpAny M A (storeName X.env x u) Q E s := by
  obtain ⟨m, hn, hl⟩ := id I.loc
  have hcls : (X.env.scope.kind == .class || (X.env.scope.kind == .module && X.env.locals != X.env.globals)) = false := by rw [I.ok.kind]; rfl
  have hiσ : i < σ.length := by rw [I.len]; exact (List.getElem?_eq_some_iff.mp hi).1
  have cne := I.cne
  have tracked : ∀ {a : Addr} {h' : Heap}, (∃ o, s.heap.get? a = some o ∧ H a = none) → Heap.SameBut a s.heap h' → HOk X.prog X.w H h' := fun {a h'} ha hs b ob e => by
    obtain ⟨_, _, hfree⟩ := ha
    refine (I.hok b ob e).stay (fun c w' hc q => (hs.2 c ?_).trans q) (fun _ q => q) fun _ _ q => q
    rintro rfl
    rcases hc with rfl | hc
    · rw [hfree] at e; cases e
    · rw [hfree] at hc; cases hc
  rcases hx with hk | hk
  · refine wpAny_storeName_local hk hn (fun h' hn' hs => ?_) hcls
    obtain ⟨oL, _, _, hoL, _⟩ := id hn
    refine h _ ⟨I.ok, I.os, I.bare, ⟨fun b o e n hb hx => ?_, fun b o e n hb hx => ?_, I.base.free, fun b o e hx => ?_, I.base.tups, I.base.frzs, I.base.tbls⟩, ⟨_, hn', fun j y v' e1 e2 e3 => ?_⟩, fun y c e => ?_, I.free, I.freeC, fun p hp => ?_, tracked ⟨oL, hoL, I.free⟩ hs, by simpa using I.len⟩ ⟨_, hs, .inl rfl⟩
    · exact (hs.2 b (Nat.ne_of_lt (Nat.lt_of_lt_of_le (Heap.lt_size e) I.ok.above))).trans (I.base.keep b o e n hb hx)
    · obtain ⟨sl, e1⟩ := I.base.slot b o e n hb hx
      exact ⟨sl, (hs.2 b (Nat.ne_of_lt (Nat.lt_of_lt_of_le (Heap.lt_size e) I.ok.above))).trans e1⟩
    · obtain ⟨o', e1⟩ := I.base.there b o e hx
      exact ⟨o', (hs.2 b (Nat.ne_of_lt (Nat.lt_of_lt_of_le (Heap.lt_size e) I.ok.above))).trans e1⟩
    · by_cases hj : j = i
      · subst hj
        rw [hi] at e1; cases e1
        rw [List.getElem?_set_self hiσ] at e2
        cases e2
        exact ⟨u, r, .inl ⟨hk, by simp⟩⟩
      · rw [List.getElem?_set_ne (Ne.symm hj)] at e2
        obtain ⟨u', r', q⟩ := hl j y v' e1 e2 e3
        refine ⟨u', r', ?_⟩
        rcases q with ⟨k, e⟩ | ⟨k, c, e, z⟩
        · refine .inl ⟨k, ?_⟩
          have : y ≠ x := fun e => hj (nodup_ix hN e1 (e ▸ hi))
          simp [this, e]
        · exact .inr ⟨k, c, e, z.sameBut hs (cne y c e)⟩
    · obtain ⟨w', z⟩ := I.cell y c e
      exact ⟨w', z.sameBut hs (cne y c e)⟩
    · obtain ⟨e, n, ne, nf, d⟩ := I.pin p hp
      exact ⟨(hs.2 p.1 ne).trans e, n, ne, nf, d⟩
  · have hfn : X.fn x = true := by
      rcases hf with z | z
      · exact z
      · rw [z] at hk; cases hk
    obtain ⟨c, hc⟩ := I.ok.has x (.inl hk)
    obtain ⟨w', z⟩ := I.cell x c hc
    refine wpAny_storeName_cell I.ok.kind hk hc z (fun h' hc' hs => ?_)
    obtain ⟨oc, hoc, hocd⟩ := id z
    refine h { s with heap := h' } ⟨I.ok, I.os, I.bare, ⟨fun b o e n hb hx => ?_, fun b o e n hb hx => ?_, I.base.free, fun b o e hx => ?_, I.base.tups, I.base.frzs, I.base.tbls⟩, ⟨m, hn.sameBut hs (Ne.symm (cne x c hc)), fun j y v' e1 e2 e3 => ?_⟩, fun y c' e => ?_, I.free, I.freeC, fun p hp => ?_, tracked ⟨oc, hoc, I.freeC x c hc⟩ hs, by simpa using I.len⟩ ⟨c, hs, .inr hc⟩
    · exact (hs.2 b (Nat.ne_of_lt (Nat.lt_of_lt_of_le (Heap.lt_size e) (I.ok.cab x c hfn hc)))).trans (I.base.keep b o e n hb hx)
    · obtain ⟨sl, e1⟩ := I.base.slot b o e n hb hx
      exact ⟨sl, (hs.2 b (Nat.ne_of_lt (Nat.lt_of_lt_of_le (Heap.lt_size e) (I.ok.cab x c hfn hc)))).trans e1⟩
    · obtain ⟨o', e1⟩ := I.base.there b o e hx
      exact ⟨o', (hs.2 b (Nat.ne_of_lt (Nat.lt_of_lt_of_le (Heap.lt_size e) (I.ok.cab x c hfn hc)))).trans e1⟩
    · by_cases hj : j = i
      · subst hj
        rw [hi] at e1; cases e1
        rw [List.getElem?_set_self hiσ] at e2
        cases e2
        exact ⟨u, r, .inr ⟨.inl hk, c, hc, hc'⟩⟩
      · rw [List.getElem?_set_ne (Ne.symm hj)] at e2
        obtain ⟨u', r', q⟩ := hl j y v' e1 e2 e3
        refine ⟨u', r', ?_⟩
        rcases q with q | ⟨k, c', e, z'⟩
        · exact .inl q
        · refine .inr ⟨k, c', e, z'.sameBut hs ?_⟩
          rintro rfl
          exact hj (nodup_ix hN e1 (I.ok.inj _ _ _ e hc ▸ hi))
    · by_cases hcc : c' = c
      · subst hcc; exact ⟨_, hc'⟩
      · obtain ⟨w2, z2⟩ := I.cell y c' e
        exact ⟨w2, z2.sameBut hs hcc⟩
    · obtain ⟨e, n, ne, nf, d⟩ := I.pin p hp
      refine ⟨(hs.2 p.1 ?_).trans e, n, ne, nf, d⟩
      intro q
      rw [q, hoc] at e
      have q' : oc = p.2 := Option.some.inj e
      exact d w' (by rw [← q']; exact hocd)
theorem store_ok {M : Model} {A : Around} {E : Value → Shared → Prop} {i : Nat} {x : Str} {v : V} {u : Value} {Q : Unit → Shared → Prop} (I : Inv X pins σ H s) (hN : X.N.Nodup) (hi : X.N[i]? = some x) (hx : Loc X.env.scope x) (r : RelV v u)
    (h : ∀ s', Inv X pins (σ.set i (some v)) H s' → Q () s') (hf : X.fn x = true ∨ X.env.scope.names.lookup x = some .local := by first | exact .inl rfl | exact .inr rfl | assumption) : wpAny M A (storeName X.env x u) Q E s :=
  store_ok2 I hN hi hx r (fun s' I' _ => h s' I') hf
/-- behind a call or a block, the state as it is -/
theorem Inv.call' {s' : Shared} {ch : List Addr} (I : Inv X pins σ H s) (ho : s'.os = s.os) (u : Un (frs X.stack) ch H H' s.heap s'.heap) (hok : HOk X.prog X.w H' s'.heap) (hg : AllBare s'.gens)
    (hch : ∀ b ∈ ch, (b ∈ X.ex ∨ X.s₀.heap.objs.size ≤ b) ∧ b ≠ X.env.locals ∧ (∀ x c, X.env.cells.lookup x = some c → c ≠ b) ∧ ∀ p ∈ X.pn ++ pins, p.1 ≠ b) : Inv X pins σ H' s' := by
  obtain ⟨h', g', d', t', o'⟩ := s'
  have e : o' = s.os := ho
  subst e
  exact I.call (g' := g') (t' := t') (d' := d') u hok hg hch
end

/-! ### the judgements -/
/-- an exception: its class, its own dict's address (where it has one), the abstract heap behind it -/
abbrev XK := Value → Option Addr → Hp → Prop
abbrev St := List (Option V)
abbrev VK := V → Hp → Prop
/-- an expression's reading; a test's; an argument list's -/
abbrev TE := St → Hp → VK → Prop
abbrev TT := St → Hp → (Bool → Hp → Prop) → Prop
abbrev TA := St → Hp → (List V → Hp → Prop) → Prop
/-- what is wanted behind a statement -/
structure Ends where
  nx : St → Hp → Prop
  rt : VK
  bk : St → Hp → Prop := fun _ _ => False
  ct : St → Hp → Prop := fun _ _ => False
abbrev TS := Ends → St → Hp → Prop

def EP (X : Cx) (pins : List (Addr × Obj)) (σ : St) (Q : VK) (u : Value) (s' : Shared) : Prop := ∃ v H', Inv X pins σ H' s' ∧ RelV v u ∧ Q v H'
def TP (X : Cx) (pins : List (Addr × Obj)) (σ : St) (Q : Bool → Hp → Prop) (b : Bool) (s' : Shared) : Prop := ∃ H', Inv X pins σ H' s' ∧ Q b H'
def AP (X : Cx) (pins : List (Addr × Obj)) (σ : St) (Q : List V → Hp → Prop) (us : List Value) (s' : Shared) : Prop := ∃ vs H', Inv X pins σ H' s' ∧ Vals vs us ∧ Q vs H'
def SP (X : Cx) (pins : List (Addr × Obj)) (D : Ends) (f : Flow) (s' : Shared) : Prop :=
  match f with
  | .next => ∃ σ' H', Inv X pins σ' H' s' ∧ D.nx σ' H'
  | .brk => ∃ σ' H', Inv X pins σ' H' s' ∧ D.bk σ' H'
  | .cont => ∃ σ' H', Inv X pins σ' H' s' ∧ D.ct σ' H'
  | .ret u => ∃ v σ' H', Inv X pins σ' H' s' ∧ RelV v u ∧ D.rt v H'

def PE (X : Cx) (e : Expr) (t : TE) : Prop :=
  ∀ (pins : List (Addr × Obj)) (s : Shared) (σ : St) (H : Hp) (Q : VK), Inv X pins σ H s → t σ H Q → wpAny (model X.prog X.w) X.A (eval e X.env) (EP X pins σ Q) X.xe s
def PT (X : Cx) (e : Expr) (t : TT) : Prop :=
  ∀ (pins : List (Addr × Obj)) (s : Shared) (σ : St) (H : Hp) (Q : Bool → Hp → Prop), Inv X pins σ H s → t σ H Q → wpAny (model X.prog X.w) X.A (isTrue e X.env (eval e X.env)) (TP X pins σ Q) X.xe s
/-- a test whatever its 'whole' is (and, or) -/
def PW (X : Cx) (e : Expr) (t : TT) : Prop :=
  ∀ (whole : Sem Value) (pins : List (Addr × Obj)) (s : Shared) (σ : St) (H : Hp) (Q : Bool → Hp → Prop), Inv X pins σ H s → t σ H Q → wpAny (model X.prog X.w) X.A (isTrue e X.env whole) (TP X pins σ Q) X.xe s
theorem PW.pt {X : Cx} {e : Expr} {t : TT} (h : PW X e t) : PT X e t := h _
/-- an argument list (no star), from the left -/
def PA (X : Cx) (es : List Expr) (t : TA) : Prop :=
  ∀ (pos : Pos) (pins : List (Addr × Obj)) (s : Shared) (σ : St) (H : Hp) (Q : List V → Hp → Prop), Inv X pins σ H s → t σ H Q → wpAny (model X.prog X.w) X.A (spliced (backTo pos (starEach es X.env))) (AP X pins σ Q) X.xe s
def PS (X : Cx) (st : Stmt) (t : TS) : Prop :=
  ∀ (pins : List (Addr × Obj)) (s : Shared) (σ : St) (H : Hp) (D : Ends), Inv X pins σ H s → t D σ H → wpAny (model X.prog X.w) X.A (exec st X.env) (SP X pins D) X.xe s
def PSs (X : Cx) (st : List Stmt) (t : TS) : Prop :=
  ∀ (pins : List (Addr × Obj)) (s : Shared) (σ : St) (H : Hp) (D : Ends), Inv X pins σ H s → t D σ H → wpAny (model X.prog X.w) X.A (execs st X.env) (SP X pins D) X.xe s
/-- weaken the end -/
theorem thn {α : Type} {t : Sem α} {Q Q' : α → Shared → Prop} {M : Model} {A : Around} {E : Value → Shared → Prop} {s : Shared} (h : wpAny M A t Q E s) (hQ : ∀ a s, Q a s → Q' a s) : wpAny M A t Q' E s := wpAny_mono h hQ fun _ _ x => x
end L2

namespace L2
open PySem PySem.Spec PyProof.Rows
section
variable {X : Cx}

/-- two expressions in a row -/
theorem bin {a b : Expr} {ta tb : TE} (ha : PE X a ta) (hb : PE X b tb) {pins : List (Addr × Obj)} {s : Shared} {σ : St} {H : Hp} {R : V → V → Hp → Prop} (I : Inv X pins σ H s) (h : ta σ H fun x H1 => tb σ H1 fun y H2 => R x y H2)
    {α : Type} {Q : α → Shared → Prop} {f : Value → Value → Sem α}
    (hf : ∀ v u s2 x y H2, Inv X pins σ H2 s2 → RelV x v → RelV y u → R x y H2 → wpAny (model X.prog X.w) X.A (f v u) Q X.xe s2) :
    wpAny (model X.prog X.w) X.A (eval a X.env) (fun v s₁ => wpAny (model X.prog X.w) X.A (eval b X.env) (fun u s₂ => wpAny (model X.prog X.w) X.A (f v u) Q X.xe s₂) X.xe s₁) X.xe s := by
  refine thn (ha pins s σ H _ I h) fun v s1 ⟨x, H1, I1, r1, q1⟩ => ?_
  refine thn (hb pins s1 σ H1 _ I1 q1) fun u s2 ⟨y, H2, I2, r2, q2⟩ => ?_
  exact hf v u s2 x y H2 I2 r1 r2 q2

/-! ### names and constants -/
def tVar (i : Nat) : TE := fun σ H Q => ∃ v, σ[i]? = some (some v) ∧ Q v H
def tC (v : V) : TE := fun _ H Q => Q v H
theorem pe_var {i : Nat} {x : Str} {pos : Pos} (hN : X.N[i]? = some x) (hv : Vis X.env.scope x) (hd : (x == ("__debug__" : Str)) = false := by decide) (hcd : (x == ("__classdict__" : Str)) = false := by decide) : PE X (.Name x pos) (tVar i) := by
  intro pins s σ H Q I h
  obtain ⟨v, e, h⟩ := h
  obtain ⟨m, hn, hl⟩ := I.loc
  obtain ⟨u, r, l⟩ := hl i x v hN e hv
  have fin : EP X pins σ Q u s := ⟨v, H, I, r, h⟩
  rcases l with ⟨hk, hm⟩ | ⟨hk, c, hc, hcell⟩
  · exact wpAny_Name (wpAny_loadName_local I.ok.kind hk hn hm fin) hd
  · rcases hk with hk | hk
    · exact wpAny_Name (wpAny_loadName_cell I.ok.kind hk hc hcell fin) hd
    · exact wpAny_Name (wpAny_loadName_free I.ok.kind hk hc hcell fin hcd) hd
theorem pe_int {i j pos} : PE X (.Constant (.int i) j pos) (tC (.int i)) := fun _ _ _ H _ I h => wpAny_Constant_int ⟨.int i, H, I.tok _, ⟨_, rfl⟩, h⟩
theorem pe_bl {b j pos} : PE X (.Constant (.bool b) j pos) (tC (.bl b)) := fun _ _ _ H _ I h => Constant_bool ⟨.bl b, H, I, rfl, h⟩
theorem pe_non {j pos} : PE X (.Constant .none j pos) (tC .non) := fun _ _ _ H _ I h => Constant_none ⟨.non, H, I, rfl, h⟩
theorem pe_str {x j pos} : PE X (.Constant (.str x) j pos) (tC (.str x)) := fun _ _ _ H _ I h => Calls.Constant_str ⟨.str x, H, I.tok _, ⟨_, rfl⟩, h⟩

/-- a global name of the def -/
def Gl (X : Cx) (x : Str) : Prop := X.env.kindOf x = some .globalImplicit
theorem ld_glob {E : Value → Shared → Prop} {pins : List (Addr × Obj)} {s : Shared} {σ : St} {H : Hp} {x : Str} {u : Value} {pos : Pos} {Q : Value → Shared → Prop} (I : Inv X pins σ H s) (hg : Gl X x) (hm : X.mg x = some u) (h : Q u s)
    (hd : (x == ("__debug__" : Str)) = false := by decide) : wpAny (model X.prog X.w) X.A (eval (.Name x pos) X.env) Q E s :=
  Calls.Name_function_global I.ok.kind hg (Calls.loadGlobal_global (by rw [I.ok.glob]; exact I.mod.glob.keeps I.bk) hm h) hd
theorem ld_blt {E : Value → Shared → Prop} {pins : List (Addr × Obj)} {s : Shared} {σ : St} {H : Hp} {x : Str} {u : Value} {pos : Pos} {Q : Value → Shared → Prop} (I : Inv X pins σ H s) (hg : Gl X x) (hm : X.mg x = none) (hv : bootBuiltins x = some u) (h : Q u s)
    (hn : x ≠ "__name__" := by decide) (hd : (x == ("__debug__" : Str)) = false := by decide) : wpAny (model X.prog X.w) X.A (eval (.Name x pos) X.env) Q E s := by
  obtain ⟨mb, h1, h2⟩ := I.mod.blt
  exact Calls.Name_function_global I.ok.kind hg (Calls.loadGlobal_builtin (by rw [I.ok.glob]; exact I.mod.glob.keeps I.bk) hm (by rw [I.ok.blt]; exact h1.keeps I.bk) ((h2 x hn).trans hv) h) hd
/-- a module's constant, a class, a function, as a value -/
theorem pe_glob {x : Str} {v : V} {u : Value} {pos : Pos} (hg : Gl X x) (hm : X.mg x = some u) (r : RelV v u) (hd : (x == ("__debug__" : Str)) = false := by decide) : PE X (.Name x pos) (tC v) :=
  fun _ _ _ H _ I h => ld_glob I hg hm ⟨v, H, I, r, h⟩ hd
theorem pe_bltn {x : Str} {v : V} {u : Value} {pos : Pos} (hg : Gl X x) (hm : X.mg x = none) (hv : bootBuiltins x = some u) (r : RelV v u) (hn : x ≠ "__name__" := by decide) (hd : (x == ("__debug__" : Str)) = false := by decide) : PE X (.Name x pos) (tC v) :=
  fun _ _ _ H _ I h => ld_blt I hg hm hv ⟨v, H, I, r, h⟩ hn hd

/-! ### arithmetic -/
/-- two ints -/
def t2I (ta tb : TE) (k : Int → Int → Hp → Prop) : St → Hp → Prop := fun σ H => ta σ H fun x H1 => tb σ H1 fun y H2 => ∃ i j, x = .int i ∧ y = .int j ∧ k i j H2
def tAdd (ta tb : TE) : TE := fun σ H Q => t2I ta tb (fun i j H2 => Q (.int (i + j)) H2) σ H
def tSub (ta tb : TE) : TE := fun σ H Q => t2I ta tb (fun i j H2 => Q (.int (i - j)) H2) σ H
/-- the left factor below 2^64 -/
def tMul (ta tb : TE) : TE := fun σ H Q => t2I ta tb (fun i j H2 => (-(2 ^ 64) < i ∧ i < 2 ^ 64) ∧ Q (.int (i * j)) H2) σ H
variable {a b : Expr} {ta tb : TE} {pos : Pos}
theorem pe_add (ha : PE X a ta) (hb : PE X b tb) : PE X (.BinOp a .Add b pos) (tAdd ta tb) := by
  intro pins s σ H Q I h
  refine wpAny_BinOp (bin ha hb I h fun v u s2 x y H2 I2 rx ry q => ?_)
  obtain ⟨i, j, rfl, rfl, q⟩ := q
  obtain ⟨t, rfl⟩ := rx
  obtain ⟨t', rfl⟩ := ry
  exact add_int ⟨.int _, H2, I2.tok _, ⟨_, rfl⟩, q⟩
theorem pe_sub (ha : PE X a ta) (hb : PE X b tb) : PE X (.BinOp a .Sub b pos) (tSub ta tb) := by
  intro pins s σ H Q I h
  refine wpAny_BinOp (bin ha hb I h fun v u s2 x y H2 I2 rx ry q => ?_)
  obtain ⟨i, j, rfl, rfl, q⟩ := q
  obtain ⟨t, rfl⟩ := rx
  obtain ⟨t', rfl⟩ := ry
  exact sub_int ⟨.int _, H2, I2.tok _, ⟨_, rfl⟩, q⟩
theorem pe_mul (ha : PE X a ta) (hb : PE X b tb) : PE X (.BinOp a .Mult b pos) (tMul ta tb) := by
  intro pins s σ H Q I h
  refine wpAny_BinOp (bin ha hb I h fun v u s2 x y H2 I2 rx ry q => ?_)
  obtain ⟨i, j, rfl, rfl, ⟨q1, q2⟩, q⟩ := q
  obtain ⟨t, rfl⟩ := rx
  obtain ⟨t', rfl⟩ := ry
  exact mul_int ⟨.int _, H2, I2.tok _, ⟨_, rfl⟩, q⟩ (.of_left (intBits_le_64 q1 q2))

/-! ### comparisons -/
def PC (X : Cx) (op : CmpOp) (a b : Expr) (t : TE) : Prop :=
  ∀ (pins : List (Addr × Obj)) (s : Shared) (σ : St) (H : Hp) (Q : VK), Inv X pins σ H s → t σ H Q →
    wpAny (model X.prog X.w) X.A (eval a X.env) (fun v s₁ => wpAny (model X.prog X.w) X.A (eval b X.env) (fun u s₂ => wpAny (model X.prog X.w) X.A (compareOp op v u) (EP X pins σ Q) X.xe s₂) X.xe s₁) X.xe s
theorem nobehind (b : Expr) {op : CmpOp} (h : op ≠ .In) (h2 : op ≠ .NotIn) : behindInMarks op b = false := by
  have e1 : (op == CmpOp.In) = false := by cases op <;> first | rfl | exact absurd rfl h
  have e2 : (op == CmpOp.NotIn) = false := by cases op <;> first | rfl | exact absurd rfl h2
  cases b <;> simp [behindInMarks, e1, e2]
def tCmp (p : Int → Int → Bool) (ta tb : TE) : TE := fun σ H Q => t2I ta tb (fun i j H2 => Q (.bl (p i j)) H2) σ H
abbrev tLt : TE → TE → TE := tCmp fun i j => decide (i < j)
abbrev tLe : TE → TE → TE := tCmp fun i j => decide (i ≤ j)
abbrev tGt : TE → TE → TE := tCmp fun i j => decide (j < i)
abbrev tGe : TE → TE → TE := tCmp fun i j => decide (j ≤ i)
abbrev tEqI : TE → TE → TE := tCmp fun i j => decide (i = j)
abbrev tNeI : TE → TE → TE := tCmp fun i j => !decide (i = j)
/-- a comparison of two ints, by its rule -/
theorem pc_int {op : CmpOp} {p : Int → Int → Bool} (ha : PE X a ta) (hb : PE X b tb)
    (rule : ∀ (i j : Int) (t u : Tok) (Q : Value → Shared → Prop) (s : Shared), Q (.bool (p i j)) s → wpAny (model X.prog X.w) X.A (compareOp op (.int i t) (.int j u)) Q X.xe s) : PC X op a b (tCmp p ta tb) := by
  intro pins s σ H Q I h
  refine bin ha hb I h fun v u s2 x y H2 I2 rx ry q => ?_
  obtain ⟨i, j, rfl, rfl, q⟩ := q
  obtain ⟨t, rfl⟩ := rx
  obtain ⟨t', rfl⟩ := ry
  exact rule i j t t' _ s2 ⟨.bl _, H2, I2, rfl, q⟩
theorem pc_lt (ha : PE X a ta) (hb : PE X b tb) : PC X .Lt a b (tLt ta tb) := pc_int ha hb fun _ _ _ _ _ _ h => lt_int h
theorem pc_le (ha : PE X a ta) (hb : PE X b tb) : PC X .LtE a b (tLe ta tb) := pc_int ha hb fun _ _ _ _ _ _ h => le_int h
theorem pc_gt (ha : PE X a ta) (hb : PE X b tb) : PC X .Gt a b (tGt ta tb) := pc_int ha hb fun _ _ _ _ _ _ h => gt_int h
theorem pc_ge (ha : PE X a ta) (hb : PE X b tb) : PC X .GtE a b (tGe ta tb) := pc_int ha hb fun _ _ _ _ _ _ h => ge_int h
theorem pc_eqI (ha : PE X a ta) (hb : PE X b tb) : PC X .Eq a b (tEqI ta tb) := pc_int ha hb fun _ _ _ _ _ _ h => eq_int (by rw [Bool.beq_eq_decide_eq]; exact h)
theorem pc_neI (ha : PE X a ta) (hb : PE X b tb) : PC X .NotEq a b (tNeI ta tb) := pc_int ha hb fun _ _ _ _ _ _ h => ne_int (by rw [bne, Bool.beq_eq_decide_eq]; exact h)
/-- is None -/
def tIsN (ta : TE) : TE := fun σ H Q => ta σ H fun x H1 => Q (.bl (decide (x = .non))) H1
def tNotN (ta : TE) : TE := fun σ H Q => ta σ H fun x H1 => Q (.bl (!decide (x = .non))) H1
theorem RelV.none_iff {x : V} {v : Value} (r : RelV x v) : (v == Value.none) = decide (x = .non) := by
  cases x with
  | non => cases r; rfl
  | bl _ => cases r; rfl
  | int _ => obtain ⟨t, rfl⟩ := r; rfl
  | str _ => obtain ⟨t, rfl⟩ := r; rfl
  | byt _ => obtain ⟨t, rfl⟩ := r; rfl
  | flt _ => obtain ⟨t, rfl⟩ := r; rfl
  | ref _ => cases r; rfl
  | ty _ => cases r; rfl
theorem pc_isN {j pos'} (ha : PE X a ta) : PC X .Is a (.Constant .none j pos') (tIsN ta) := by
  intro pins s σ H Q I h
  refine thn (ha pins s σ H _ I h) fun v s1 ⟨x, H1, I1, r1, q1⟩ => ?_
  exact Constant_none (is_none_gen ⟨.bl _, H1, I1, by rw [r1.none_iff]; rfl, q1⟩)
theorem pc_notN {j pos'} (ha : PE X a ta) : PC X .IsNot a (.Constant .none j pos') (tNotN ta) := by
  intro pins s σ H Q I h
  refine thn (ha pins s σ H _ I h) fun v s1 ⟨x, H1, I1, r1, q1⟩ => ?_
  exact Constant_none (isnot_none_gen ⟨.bl _, H1, I1, by rw [r1.none_iff]; rfl, q1⟩)
/-- a comparison as a value, as a test -/
def tB (t : TE) : TT := fun σ H Q => t σ H fun x H1 => ∃ c, x = .bl c ∧ Q c H1
theorem pe_cmp {op : CmpOp} {t : TE} (h : PC X op a b t) (h1 : behindInMarks op b = false := by first | exact nobehind _ (by decide) (by decide) | rfl) : PE X (.Compare a [op] [b] pos) t := fun pins s σ H Q I hw => wpAny_Compare1 (h pins s σ H Q I hw) h1
theorem pt_cmp {op : CmpOp} {t : TE} (h : PC X op a b t) (h1 : behindInMarks op b = false := by first | exact nobehind _ (by decide) (by decide) | rfl) : PT X (.Compare a [op] [b] pos) (tB t) := by
  intro pins s σ H Q I hw
  refine wpAny_isTrue_Compare1 (thn (h pins s σ H _ I hw) fun v s1 h1 => thn h1 fun u s2 h2 => thn h2 fun c s3 ⟨x, H1, I1, r1, q1⟩ => ?_) h1
  obtain ⟨d, rfl, q⟩ := q1
  cases r1
  exact wpAny_truthy_bool ⟨H1, I1, q⟩
/-- an expression whose value is a bool, as a test -/
theorem pt_val {e : Expr} {t : TE} (h : PE X e t) (he : ∀ whole, isTrue e X.env whole = (do let v ← whole; standAt e.pos; holding [v] (truthy v)) := by intro _; rfl) : PT X e (tB t) := by
  intro pins s σ H Q I hw
  refine isTrue_plain (thn (h pins s σ H _ I hw) fun v s1 ⟨x, H1, I1, r1, q1⟩ => ?_) (he _)
  obtain ⟨d, rfl, q⟩ := q1
  cases r1
  exact wpAny_truthy_bool ⟨H1, I1, q⟩

/-! ### and, or, not -/
variable {tA tB' : TT} {rest : List Expr}
def tAnd (t u : TT) : TT := fun σ H Q => t σ H fun c H1 => if c = true then u σ H1 Q else Q false H1
def tOr (t u : TT) : TT := fun σ H Q => t σ H fun c H1 => if c = true then Q true H1 else u σ H1 Q
def tNot (t : TT) : TT := fun σ H Q => t σ H fun c H1 => Q (!c) H1
theorem pw_and1 (ha : PT X a tA) : PW X (.BoolOp .And [a] pos) tA := by
  intro wh pins s σ H Q I h
  refine isTrue_and (thn (ha pins s σ H Q I h) fun c s1 e => ?_)
  cases c with
  | true => exact isTrue_and_nil e
  | false => exact e
theorem pw_or1 (ha : PT X a tA) : PW X (.BoolOp .Or [a] pos) tA := by
  intro wh pins s σ H Q I h
  refine isTrue_or (thn (ha pins s σ H Q I h) fun c s1 e => ?_)
  cases c with
  | false => exact isTrue_or_nil e
  | true => exact e
theorem pw_and (ha : PT X a tA) (hb : PW X (.BoolOp .And (b :: rest) pos) tB') : PW X (.BoolOp .And (a :: b :: rest) pos) (tAnd tA tB') := by
  intro wh pins s σ H Q I h
  refine isTrue_and (thn (ha pins s σ H _ I h) fun c s1 ⟨H1, I1, q1⟩ => ?_)
  cases c with
  | true => exact hb wh pins s1 σ H1 Q I1 q1
  | false => exact ⟨H1, I1, q1⟩
theorem pw_or (ha : PT X a tA) (hb : PW X (.BoolOp .Or (b :: rest) pos) tB') : PW X (.BoolOp .Or (a :: b :: rest) pos) (tOr tA tB') := by
  intro wh pins s σ H Q I h
  refine isTrue_or (thn (ha pins s σ H _ I h) fun c s1 ⟨H1, I1, q1⟩ => ?_)
  cases c with
  | true => exact ⟨H1, I1, q1⟩
  | false => exact hb wh pins s1 σ H1 Q I1 q1
theorem pt_not (ha : PT X a tA) : PT X (.UnaryOp .Not a pos) (tNot tA) := by
  intro pins s σ H Q I h
  exact isTrue_not (ha pins s σ H (fun c H1 => Q (!c) H1) I h)
/-- .. as values (bools) -/
def tAndV (ta tb : TE) : TE := fun σ H Q => ta σ H fun x H1 => ∃ c, x = .bl c ∧ if c = true then tb σ H1 Q else Q (.bl false) H1
def tOrV (ta tb : TE) : TE := fun σ H Q => ta σ H fun x H1 => ∃ c, x = .bl c ∧ if c = true then Q (.bl true) H1 else tb σ H1 Q
def tNotV (ta : TE) : TE := fun σ H Q => ta σ H fun x H1 => ∃ c, x = .bl c ∧ Q (.bl (!c)) H1
theorem pe_one {op} {t : TE} (h : PE X a t) : PE X (.BoolOp op [a] pos) t := fun pins s σ H Q I hw => BoolOp_one (h pins s σ H Q I hw)
theorem pe_and (ha : PE X a ta) (hb : PE X (.BoolOp .And (b :: rest) pos) tb) : PE X (.BoolOp .And (a :: b :: rest) pos) (tAndV ta tb) := by
  intro pins s σ H Q I h
  refine BoolOp_and (thn (ha pins s σ H _ I h) fun v s1 ⟨x, H1, I1, r1, q1⟩ => ?_)
  obtain ⟨c, rfl, q1⟩ := q1
  cases r1
  refine wpAny_truthy_bool ?_
  cases c with
  | true => exact hb pins s1 σ H1 Q I1 q1
  | false => exact ⟨.bl false, H1, I1, rfl, q1⟩
theorem pe_or (ha : PE X a ta) (hb : PE X (.BoolOp .Or (b :: rest) pos) tb) : PE X (.BoolOp .Or (a :: b :: rest) pos) (tOrV ta tb) := by
  intro pins s σ H Q I h
  refine BoolOp_or (thn (ha pins s σ H _ I h) fun v s1 ⟨x, H1, I1, r1, q1⟩ => ?_)
  obtain ⟨c, rfl, q1⟩ := q1
  cases r1
  refine wpAny_truthy_bool ?_
  cases c with
  | false => exact hb pins s1 σ H1 Q I1 q1
  | true => exact ⟨.bl true, H1, I1, rfl, q1⟩
theorem pe_not (ha : PE X a ta) : PE X (.UnaryOp .Not a pos) (tNotV ta) := by
  intro pins s σ H Q I h
  refine UnaryOp_ (thn (ha pins s σ H _ I h) fun v s1 ⟨x, H1, I1, r1, q1⟩ => ?_)
  obtain ⟨c, rfl, q1⟩ := q1
  cases r1
  exact not_of (wpAny_truthy_bool ⟨.bl (!c), H1, I1, rfl, q1⟩)
/-- a if t else b -/
def tIf (t : TT) (ta tb : TE) : TE := fun σ H Q => t σ H fun c H1 => if c = true then ta σ H1 Q else tb σ H1 Q
theorem pe_ifExp {c : Expr} (hc : PT X c tA) (ha : PE X a ta) (hb : PE X b tb) : PE X (.IfExp c a b pos) (tIf tA ta tb) := by
  intro pins s σ H Q I h
  refine wpAny_IfExp (thn (hc pins s σ H _ I h) fun d s1 ⟨H1, I1, q1⟩ => ?_)
  cases d with
  | true => exact ha pins s1 σ H1 Q I1 q1
  | false => exact hb pins s1 σ H1 Q I1 q1
end
end L2

namespace L2
open PySem PySem.Spec PyProof.Rows

/-! ### a list, a tuple that is read: tracked, frozen, or an object of the module -/
def SqL (K : PySem.W.Frag) (H : Hp) (a : Addr) (xs : List V) : Prop :=
  Rd H a (.lst xs) ∨
    ∃ (o : Obj) (its : Array Value) (n : Nat), K.lookup a = some o ∧ o.cls = .type "list" ∧ o.dict = none ∧ o.data = .seq its n ∧ its.size ≤ sizeLine ∧ Vals xs its.toList
def SqT (K : PySem.W.Frag) (H : Hp) (a : Addr) (xs : List V) : Prop :=
  Rd H a (.tup xs) ∨
    ∃ (o : Obj) (its : Array Value) (n : Nat), K.lookup a = some o ∧ o.cls = .type "tuple" ∧ o.data = .seq its n ∧ its.size ≤ sizeLine ∧ Vals xs its.toList
def absV : Value → Option V
  | .none => some .non
  | .bool b => some (.bl b)
  | .int i _ => some (.int i)
  | .str x _ => some (.str x)
  | .bytes b _ => some (.byt b)
  | .float b _ => some (.flt b)
  | .ref a => some (.ref a)
  | .type n => some (.ty n)
  | _ => none
theorem RelV.abs {x : V} {u : Value} (r : RelV x u) : absV u = some x := by
  cases x with
  | non => cases r; rfl
  | bl _ => cases r; rfl
  | int _ => obtain ⟨t, rfl⟩ := r; rfl
  | str _ => obtain ⟨t, rfl⟩ := r; rfl
  | byt _ => obtain ⟨t, rfl⟩ := r; rfl
  | flt _ => obtain ⟨t, rfl⟩ := r; rfl
  | ref _ => cases r; rfl
  | ty _ => cases r; rfl
theorem RelV.inj {x y : V} {u : Value} (r : RelV x u) (q : RelV y u) : x = y := Option.some.inj (r.abs.symm.trans q.abs)
theorem Vals.inj : ∀ {xs ys : List V} {us : List Value}, Vals xs us → Vals ys us → xs = ys
  | _, _, _, .nil, .nil => rfl
  | _, _, _, .cons r t, .cons r' t' => by rw [r.inj r', Vals.inj t t']
section
variable {X : Cx} {pins : List (Addr × Obj)} {σ : St} {H : Hp} {s : Shared} {a : Addr} {xs ys : List V}
theorem SqL.of {K : PySem.W.Frag} (h : H a = some (.lst xs)) : SqL K H a xs := .inl (.inl h)
theorem SqT.of {K : PySem.W.Frag} (h : H a = some (.tup xs)) : SqT K H a xs := .inl (.inl h)
theorem Inv.list (I : Inv X pins σ H s) (h : SqL X.K H a xs) : ∃ its : List Value, Vals xs its ∧ PlainL s.heap a its.toArray ∧ xs.length ≤ sizeLine := by
  rcases h with h | ⟨o, its, n, hk, hc, hd, hs, hz, r⟩
  · obtain ⟨z, its, n, r, e⟩ := h.ok I.hok
    exact ⟨its, r, ⟨_, n, e, rfl, rfl, rfl⟩, z⟩
  · refine ⟨its.toList, r, ⟨o, n, I.kIn a o hk, hc, hd, by simpa using hs⟩, ?_⟩
    have e := r.length
    simp only [Array.length_toList] at e
    omega
theorem Inv.tuple (I : Inv X pins σ H s) (h : SqT X.K H a xs) : ∃ its : List Value, Vals xs its ∧ IsTup s.heap a its.toArray ∧ xs.length ≤ sizeLine := by
  rcases h with h | ⟨o, its, n, hk, hc, hs, hz, r⟩
  · obtain ⟨z, its, r, p⟩ := h.ok I.hok
    exact ⟨its, r, p, z⟩
  · refine ⟨its.toList, r, ⟨o, I.kIn a o hk, hc, n, by simpa using hs⟩, ?_⟩
    have e := r.length
    simp only [Array.length_toList] at e
    omega
theorem Inv.list_inj (I : Inv X pins σ H s) (h : SqL X.K H a xs) (h' : SqL X.K H a ys) : xs = ys := by
  obtain ⟨its, r, ⟨o, n, e, _, _, d⟩, _⟩ := I.list h
  obtain ⟨its', r', ⟨o', n', e', _, _, d'⟩, _⟩ := I.list h'
  rw [e] at e'; cases e'
  rw [d] at d'
  injection d' with d1 _
  have : its = its' := by simpa using congrArg Array.toList d1
  subst this
  exact r.inj r'
theorem Inv.tuple_inj (I : Inv X pins σ H s) (h : SqT X.K H a xs) (h' : SqT X.K H a ys) : xs = ys := by
  obtain ⟨its, r, ⟨o, e, _, n, d⟩, _⟩ := I.tuple h
  obtain ⟨its', r', ⟨o', e', _, n', d'⟩, _⟩ := I.tuple h'
  rw [e] at e'; cases e'
  rw [d] at d'
  injection d' with d1 _
  have : its = its' := by simpa using congrArg Array.toList d1
  subst this
  exact r.inj r'
end

/-! ### another wish about exceptions -/
abbrev Cx.wish (X : Cx) (E : Value → Shared → Prop) : Cx := { X with xe := E }
/-- no exception leaves -/
abbrev Cx.nox (X : Cx) : Cx := X.wish fun _ _ => False
theorem Cx.Ok.wish {X : Cx} (ok : X.Ok) (E : Value → Shared → Prop) : (X.wish E).Ok :=
  ⟨ok.mod, ok.kind, ok.glob, ok.blt, ok.above, ok.inj, ok.has, ok.cab, ok.hd, ok.frames, ok.stk, ok.exf, ok.bs, ok.bsz, ok.noex, ok.exfs, ok.funs, ok.frf⟩
theorem Cx.Ok.unwish {X : Cx} {E : Value → Shared → Prop} (ok : (X.wish E).Ok) : X.Ok :=
  ⟨ok.mod, ok.kind, ok.glob, ok.blt, ok.above, ok.inj, ok.has, ok.cab, ok.hd, ok.frames, ok.stk, ok.exf, ok.bs, ok.bsz, ok.noex, ok.exfs, ok.funs, ok.frf⟩
section
variable {X : Cx} {pins : List (Addr × Obj)} {σ : St} {H : Hp} {s : Shared} {E : Value → Shared → Prop}
theorem Inv.wish (I : Inv X pins σ H s) (E : Value → Shared → Prop) : Inv (X.wish E) pins σ H s := ⟨I.ok.wish E, I.os, I.bare, I.base, I.loc, I.cell, I.free, I.freeC, I.pin, I.hok, I.len⟩
theorem Inv.unwish (I : Inv (X.wish E) pins σ H s) : Inv X pins σ H s := ⟨I.ok.unwish, I.os, I.bare, I.base, I.loc, I.cell, I.free, I.freeC, I.pin, I.hok, I.len⟩
theorem SP.unwish {D : Ends} {f : Flow} {s' : Shared} (h : SP (X.wish E) pins D f s') : SP X pins D f s' := by
  cases f with
  | next => obtain ⟨σ', H', I, q⟩ := h; exact ⟨σ', H', I.unwish, q⟩
  | brk => obtain ⟨σ', H', I, q⟩ := h; exact ⟨σ', H', I.unwish, q⟩
  | cont => obtain ⟨σ', H', I, q⟩ := h; exact ⟨σ', H', I.unwish, q⟩
  | ret u => obtain ⟨v, σ', H', I, r, q⟩ := h; exact ⟨v, σ', H', I.unwish, r, q⟩
theorem PE.nox {e : Expr} {t : TE} (h : PE X.nox e t) : PE X e t := fun pins s σ H Q I hw =>
  wpAny_mono (h pins s σ H Q (I.wish _) hw) (fun _ _ ⟨v, H', I', r, q⟩ => ⟨v, H', I'.unwish, r, q⟩) fun _ _ z => False.elim z
theorem PT.nox {e : Expr} {t : TT} (h : PT X.nox e t) : PT X e t := fun pins s σ H Q I hw =>
  wpAny_mono (h pins s σ H Q (I.wish _) hw) (fun _ _ ⟨H', I', q⟩ => ⟨H', I'.unwish, q⟩) fun _ _ z => False.elim z
theorem PSs.nox {st : List Stmt} {t : TS} (h : PSs X.nox st t) : PSs X st t := fun pins s σ H D I hw =>
  wpAny_mono (h pins s σ H D (I.wish _) hw) (fun _ _ q => q.unwish) fun _ _ z => False.elim z
end

/-! ### blocks and small statements -/
section
variable {X : Cx} {st : Stmt} {rest : List Stmt} {t u : TS} {e : Expr} {te : TE} {pos : Pos}
def tNext : TS := fun D σ H => D.nx σ H
def tSeq (t u : TS) : TS := fun D σ H => t { D with nx := u D } σ H
theorem pss_nil : PSs X [] tNext := fun _ _ σ H _ I h => wpAny_execs_nil ⟨σ, H, I, h⟩
theorem pss_cons (h1 : PS X st t) (h2 : PSs X rest u) : PSs X (st :: rest) (tSeq t u) := by
  intro pins s σ H D I h
  refine wpAny_execs_cons (thn (h1 pins s σ H { D with nx := u D } I h) fun f s1 q => ?_)
  cases f with
  | next =>
    obtain ⟨σ', H', I', q⟩ := q
    exact h2 pins s1 σ' H' D I' q
  | ret v => exact q
  | brk => exact q
  | cont => exact q
theorem pss_one (h1 : PS X st t) : PSs X [st] t := by
  intro pins s σ H D I h
  refine wpAny_execs_cons (thn (h1 pins s σ H D I h) fun f s1 q => ?_)
  cases f with
  | next => exact wpAny_execs_nil q
  | ret v => exact q
  | brk => exact q
  | cont => exact q
def tBreak : TS := fun D σ H => D.bk σ H
def tCont : TS := fun D σ H => D.ct σ H
theorem ps_pass : PS X (.Pass pos) tNext := fun _ _ σ H _ I h => wpAny_Pass ⟨σ, H, I, h⟩
theorem ps_break : PS X (.Break pos) tBreak := fun _ _ σ H _ I h => wpAny_Break ⟨σ, H, I, h⟩
theorem ps_continue : PS X (.Continue pos) tCont := fun _ _ σ H _ I h => wpAny_Continue ⟨σ, H, I, h⟩
/-- in a def's body nothing is shown -/
theorem Inv.quiet {pins : List (Addr × Obj)} {σ : St} {H : Hp} {s : Shared} (I : Inv X pins σ H s) : interactive X.env = false := by simp [interactive, I.ok.kind]
/-- a docstring -/
theorem ps_doc {x j pos pos'} : PS X (.Expr (.Constant (.str x) j pos) pos') tNext := fun _ s σ H _ I h => wpAny_Expr (Calls.Constant_str (show SP X _ _ .next { s with toks := s.toks + 1 } from ⟨σ, H, I.tok _, h⟩)) I.quiet
/-- an expression whose value is dropped -/
def tDrop (te : TE) : TS := fun D σ H => te σ H fun _ H1 => D.nx σ H1
theorem ps_expr (he : PE X e te) (hs : swapsWith e none pos.line X.env = pure false := by rfl) : PS X (.Expr e pos) (tDrop te) := by
  intro pins s σ H D I h
  exact wpAny_Expr_any (thn (he pins s σ H _ I h) fun v s1 ⟨x, H1, I1, r1, q1⟩ => ⟨σ, H1, I1, q1⟩) I.quiet hs
def tRet (te : TE) : TS := fun D σ H => te σ H D.rt
theorem ps_ret (he : PE X e te) : PS X (.Return (some e) pos) (tRet te) := by
  intro pins s σ H D I h
  exact wpAny_Return_some (thn (he pins s σ H _ I h) fun v s1 ⟨x, H1, I1, r1, q1⟩ => ⟨x, σ, H1, I1, r1, q1⟩)
def tRetN : TS := fun D _ H => D.rt .non H
theorem ps_retN : PS X (.Return none pos) tRetN := fun _ _ σ H _ I h => wpAny_Return_none ⟨.non, σ, H, I, rfl, h⟩
def tIfS (c : TT) (t u : TS) : TS := fun D σ H => c σ H fun b H1 => if b = true then t D σ H1 else u D σ H1
theorem ps_if {c : Expr} {a b : List Stmt} {tc : TT} (hc : PT X c tc) (ha : PSs X a t) (hb : PSs X b u) : PS X (.If c a b pos) (tIfS tc t u) := by
  intro pins s σ H D I h
  refine wpAny_If (thn (hc pins s σ H _ I h) fun d s1 ⟨H1, I1, q1⟩ => ?_)
  cases d with
  | true => exact ha pins s1 σ H1 D I1 q1
  | false => exact hb pins s1 σ H1 D I1 q1
/-- code that the proof never comes to -/
def tNever : TS := fun _ _ _ => False
theorem ps_never : PS X st tNever := fun _ _ _ _ _ _ h => h.elim
theorem pss_never {sts : List Stmt} : PSs X sts tNever := fun _ _ _ _ _ _ h => h.elim
end

/-! ### targets -/
abbrev TG := V → St → Hp → (St → Hp → Prop) → Prop
abbrev TGs := List V → St → Hp → (St → Hp → Prop) → Prop
def PG (X : Cx) (target : Expr) (t : TG) : Prop :=
  ∀ (pins : List (Addr × Obj)) (s : Shared) (σ : St) (H : Hp) (v : V) (u : Value) (Q : St → Hp → Prop), Inv X pins σ H s → RelV v u → t v σ H Q →
    wpAny (model X.prog X.w) X.A (assign target X.env u) (fun _ s' => ∃ σ' H', Inv X pins σ' H' s' ∧ Q σ' H') X.xe s
/-- several targets, one after another -/
def PGs (X : Cx) (ts : List Expr) (t : TGs) : Prop :=
  ∀ (pins : List (Addr × Obj)) (s : Shared) (σ : St) (H : Hp) (vs : List V) (us : List Value) (Q : St → Hp → Prop), Inv X pins σ H s → Vals vs us → t vs σ H Q →
    wpAny (model X.prog X.w) X.A (assignInOrder ((assignEach ts X.env).map (·.2)) us) (fun _ s' => ∃ σ' H', Inv X pins σ' H' s' ∧ Q σ' H') X.xe s
/-- o[i] = v, by values -/
abbrev TSet := V → V → V → Hp → (Hp → Prop) → Prop
def PSet (X : Cx) (t : TSet) : Prop :=
  ∀ (pins : List (Addr × Obj)) (s : Shared) (σ : St) (H : Hp) (o i v : V) (ov iv u : Value) (Q : Hp → Prop), Inv X pins σ H s → RelV o ov → RelV i iv → RelV v u → t o i v H Q →
    wpAny (model X.prog X.w) X.A (setItem ov iv u) (fun _ s' => ∃ H', Inv X pins σ H' s' ∧ Q H') X.xe s
/-- a op= b, by values -/
abbrev TIp := V → V → Hp → VK → Prop
def PIp (X : Cx) (op : Operator) (t : TIp) : Prop :=
  ∀ (pins : List (Addr × Obj)) (s : Shared) (σ : St) (H : Hp) (x y : V) (v u : Value) (Q : VK), Inv X pins σ H s → RelV x v → RelV y u → t x y H Q →
    wpAny (model X.prog X.w) X.A (inplaceOp op v u) (EP X pins σ Q) X.xe s
section
variable {X : Cx} {pos : Pos}
def gName (i : Nat) : TG := fun v σ H Q => Q (σ.set i (some v)) H
theorem pg_name {i : Nat} {x : Str} (hN : X.N.Nodup) (hi : X.N[i]? = some x) (hx : Loc X.env.scope x) (hf : X.fn x = true ∨ X.env.scope.names.lookup x = some .local := by first | exact .inl rfl | exact .inr rfl | assumption) : PG X (.Name x pos) (gName i) := by
  intro pins s σ H v u Q I r h
  exact wpAny_assign_Name (store_ok I hN hi hx r (fun s' I' => ⟨_, H, I', h⟩) hf)
def gNil : TGs := fun vs σ H Q => vs = [] ∧ Q σ H
def gCons (t : TG) (u : TGs) : TGs := fun vs σ H Q => ∃ v r, vs = v :: r ∧ t v σ H fun σ' H' => u r σ' H' Q
theorem pgs_nil : PGs X [] gNil := by
  intro pins s σ H vs us Q I r h
  obtain ⟨e, h⟩ := h
  subst e
  cases r
  exact assignInOrder_nil ⟨σ, H, I, h⟩
theorem pgs_cons {e : Expr} {es : List Expr} {t : TG} {u : TGs} (h1 : PG X e t) (h2 : PGs X es u)
    (hs : (assignEach (e :: es) X.env).map (·.2) = assign e X.env :: (assignEach es X.env).map (·.2) := by rfl) : PGs X (e :: es) (gCons t u) := by
  intro pins s σ H vs us Q I r h
  obtain ⟨v, vr, e1, h⟩ := h
  subst e1
  cases r with
  | cons r rr =>
    rw [hs]
    refine assignInOrder_cons (thn (h1 pins s σ H _ _ _ I r h) fun _ s1 ⟨σ1, H1, I1, q1⟩ => ?_)
    exact h2 pins s1 σ1 H1 _ _ Q I1 rr q1
/-- (a, b, ..) = a tuple of that length -/
def gTup (K : PySem.W.Frag) (n : Nat) (t : TGs) : TG := fun v σ H Q => ∃ a xs, v = .ref a ∧ SqT K H a xs ∧ xs.length = n ∧ t xs σ H Q
theorem pg_tup {es : List Expr} {k : Nat} {t : TGs} {n : Nat} (hc : X.calm = true) (h : PGs X es t)
    (hn : (assignEach es X.env).length = n := by rfl) (hst : (assignEach es X.env).findIdx? (·.1) = none := by rfl) : PG X (.Tuple es k pos) (gTup X.K n t) := by
  intro pins s σ H v u Q I r hw
  obtain ⟨a, xs, e1, hq, hl, hw⟩ := hw
  subst e1
  cases r
  obtain ⟨its, rv, ht, hz⟩ := I.tuple hq
  refine assign_Tuple_tuple (I.ok.hd hc) ht (by simp [hn, ← hl, rv.length]) hst fun h' hx => ?_
  have I1 : Inv X pins σ H { s with heap := h' } := I.kept (t' := s.toks) fun b o e => hx b o (Nat.ne_of_lt (Heap.lt_size e)) e
  exact h pins _ σ H xs _ Q I1 (by simpa using rv) hw
/-- o[i] = .. -/
def gSub (to ti : TE) (t : TSet) : TG := fun v σ H Q => to σ H fun o H1 => ti σ H1 fun i H2 => t o i v H2 fun H3 => Q σ H3
theorem pg_sub {o i : Expr} {to ti : TE} {t : TSet} (ho : PE X o to) (hi : PE X i ti) (hs : PSet X t)
    (ha : ∀ v, assign (.Subscript o i pos) X.env v = (do
      let ov ← holding [v] (eval o X.env)
      let iv ← holding [v, ov] (eval i X.env)
      standAt pos
      holding [v, ov, iv] (setItem ov iv v)
      release [v, ov, iv] []) := by intro _; rfl) : PG X (.Subscript o i pos) (gSub to ti t) := by
  intro pins s σ H v u Q I r h
  rw [ha]
  refine wpAny_bind (wpAny_holding (thn (ho pins s σ H _ I h) fun ov s1 ⟨x, H1, I1, r1, q1⟩ => ?_))
  refine wpAny_bind (wpAny_holding (thn (hi pins s1 σ H1 _ I1 q1) fun iv s2 ⟨y, H2, I2, r2, q2⟩ => ?_))
  refine wpAny_bind (wpAny_standAt (wpAny_bind (wpAny_holding (thn (hs pins s2 σ H2 x y v ov iv u _ I2 r1 r2 r q2) fun _ s3 ⟨H3, I3, q3⟩ => ?_))))
  exact wpAny_release ⟨σ, H3, I3, q3⟩
/-- target = value -/
def tAsg (te : TE) (g : TG) : TS := fun D σ H => te σ H fun x H1 => g x σ H1 D.nx
theorem ps_asg {tg e : Expr} {te : TE} {g : TG} (he : PE X e te) (hg : PG X tg g) (hs : swapsWithSole [tg] e pos.line X.env = pure false := by rfl) (hw : swappedStores [tg] e X.env = pure none := by rfl)
    (h1 : (assignEach [tg] X.env).map (·.2) = [assign tg X.env] := by rfl) : PS X (.Assign [tg] e pos) (tAsg te g) := by
  intro pins s σ H D I h
  refine wpAny_Assign_stores (thn (he pins s σ H _ I h) fun v s1 ⟨x, H1, I1, r1, q1⟩ => ?_) hs hw
  rw [h1]
  exact thn (hg pins s1 σ H1 x v _ I1 r1 q1) fun _ s2 q => q
/-- name = value -/
theorem ps_set {i : Nat} {x : Str} {e : Expr} {te : TE} {pos' : Pos} (hN : X.N.Nodup) (hi : X.N[i]? = some x) (hx : Loc X.env.scope x) (he : PE X e te) (hs : swapsWith e (some (.Name x pos')) pos.line X.env = pure false := by rfl) (hf : X.fn x = true ∨ X.env.scope.names.lookup x = some .local := by first | exact .inl rfl | exact .inr rfl | assumption) :
    PS X (.Assign [.Name x pos'] e pos) (tAsg te (gName i)) := by
  intro pins s σ H D I h
  refine wpAny_Assign_Name (thn (he pins s σ H _ I h) fun v s1 ⟨y, H1, I1, r1, q1⟩ => ?_) hs
  exact store_ok I1 hN hi hx r1 (fun s2 I2 => ⟨_, H1, I2, q1⟩) hf
/-- a, b = x, y with plain local names: stored from the right; the pair itself is not tracked (the opening rows as in PyProof/Rows/TupAssign.lean:23) -/
def tPar (i j : Nat) (ta : TA) : TS := fun D σ H => ta σ H fun vs H1 => ∃ v w, vs = [v, w] ∧ D.nx ((σ.set i (some v)).set j (some w)) H1
theorem ps_par {i j : Nat} {x y : Str} {a b : Expr} {ta : TA} {px py pt : Pos} {kt k2 pt2} (hc : X.calm = true) (hN : X.N.Nodup) (hi : X.N[i]? = some x) (hj : X.N[j]? = some y) (hij : i ≠ j)
    (hx : X.env.scope.names.lookup x = some .local) (hy : X.env.scope.names.lookup y = some .local) (ha : PA X [a, b] ta)
    (hw : swappedStores [.Tuple [.Name x px, .Name y py] kt pt] (.Tuple [a, b] k2 pt2) X.env = pure (some [x, y]))
    (hs : swapsWithSole [.Tuple [.Name x px, .Name y py] kt pt] (.Tuple [a, b] k2 pt2) pos.line X.env = pure false := by rfl) :
    PS X (.Assign [.Tuple [.Name x px, .Name y py] kt pt] (.Tuple [a, b] k2 pt2) pos) (tPar i j ta) := by
  intro pins s σ H D I h
  rw [exec_Assign_arm]
  refine wpAny_bind (wpAny_standAt ?_)
  rw [hs]
  refine wpAny_bind (wpAny_pure ?_)
  rw [if_neg (by decide)]
  refine wpAny_bind (Tuple_ (thn (ha _ pins s σ H _ I h) fun us s1 ⟨vs, H1, I1, r1, q1⟩ => ?_))
  obtain ⟨v, w, e1, q1⟩ := q1
  subst e1
  obtain ⟨u1, u2, rfl, rv, rw'⟩ : ∃ u1 u2, us = [u1, u2] ∧ RelV v u1 ∧ RelV w u2 := by
    cases r1 with
    | cons p q =>
      cases q with
      | cons p' q' =>
        cases q'
        exact ⟨_, _, rfl, p, p'⟩
  refine wpAny_newObj_type ?_ (by show 2 ≤ sizeLine; decide)
  have I2 : Inv X pins σ H1 { s1 with heap := s1.heap.push { cls := .type "tuple", data := .seq [u1, u2].toArray } } := I1.kept (t' := s1.toks) fun b o e => Heap.get?_push_of_some _ e
  rw [hw]
  refine wpAny_bind (wpAny_pure ?_)
  show wpAny (model X.prog X.w) X.A (do rule "assign.swapped-stores"; let items ← unpackItems (.ref s1.heap.objs.size) 2 none; assignInOrder [fun v => bindName X.env y v, fun v => bindName X.env x v] items.reverse; pure Flow.next) _ _ _
  refine wpAny_bind (wpAny_rule (wpAny_bind (unpackItems_tuple (items := #[u1, u2]) (I.ok.hd hc) (IsTup.new s1.heap _) fun h' hx' => ?_)))
  have I3 := I2.kept (h' := h') (t' := s1.toks) fun b o e => hx' b o (Nat.ne_of_lt (Heap.lt_size e)) e
  show wpAny _ _ (assignInOrder [fun v => bindName X.env y v, fun v => bindName X.env x v] [u2, u1] >>= fun _ => pure Flow.next) _ _ _
  refine wpAny_bind (assignInOrder_cons (wpAny_bindName (store_ok I3 hN hj (.inl hy) rw' (fun s2 I4 => ?_) (.inr hy))))
  refine assignInOrder_cons (wpAny_bindName (store_ok I4 hN hi (.inl hx) rv (fun s3 I5 => assignInOrder_nil (wpAny_pure ?_)) (.inr hx)))
  rw [List.set_comm _ _ (Ne.symm hij)] at I5
  exact ⟨_, H1, I5, q1⟩
/-- name op= e -/
def tAug (i : Nat) (te : TE) (ti : TIp) : TS := fun D σ H => ∃ x, σ[i]? = some (some x) ∧ te σ H fun y H1 => ti x y H1 fun z H2 => D.nx (σ.set i (some z)) H2
theorem ps_aug {i : Nat} {x : Str} {e : Expr} {te : TE} {op : Operator} {ti : TIp} {pos' : Pos} (hN : X.N.Nodup) (hi : X.N[i]? = some x) (hx : Loc X.env.scope x) (he : PE X e te) (ho : PIp X op ti) (hf : X.fn x = true ∨ X.env.scope.names.lookup x = some .local := by first | exact .inl rfl | exact .inr rfl | assumption) :
    PS X (.AugAssign (.Name x pos') op e pos) (tAug i te ti) := by
  intro pins s σ H D I h
  obtain ⟨v, e1, h⟩ := h
  obtain ⟨m, hn, hl⟩ := I.loc
  have vis : Vis X.env.scope x := by rcases hx with k | k; exact .inl k; exact .inr (.inl k)
  obtain ⟨u, r, l⟩ := hl i x v hi e1 vis
  refine wpAny_AugAssign_Name ?_
  have go : wpAny (model X.prog X.w) X.A (eval e X.env) (fun w s₂ => wpAny (model X.prog X.w) X.A (inplaceOp op u w) (fun r s₃ => wpAny (model X.prog X.w) X.A (storeName X.env x r) (fun _ => SP X pins D .next) X.xe s₃) X.xe s₂) X.xe s := by
    refine thn (he pins s σ H _ I h) fun w s1 ⟨y, H1, I1, r1, q1⟩ => ?_
    refine thn (ho pins s1 σ H1 v y u w _ I1 r r1 q1) fun z s2 ⟨zv, H2, I2, r2, q2⟩ => ?_
    exact store_ok I2 hN hi hx r2 (fun s3 I3 => ⟨_, H2, I3, q2⟩) hf
  rcases l with ⟨hk, hm⟩ | ⟨hk, c, hc, hcell⟩
  · exact wpAny_loadName_local I.ok.kind hk hn hm go
  · rcases hk with hk | hk
    · exact wpAny_loadName_cell I.ok.kind hk hc hcell go
    · rcases hx with k | k
      · have : X.env.scope.names.lookup x = some .free := hk
        rw [k] at this; cases this
      · have : X.env.scope.names.lookup x = some .free := hk
        rw [k] at this; cases this
/-- o[i] op= e -/
def tAugS (to ti te : TE) (tget : V → V → Hp → VK → Prop) (tip : TIp) (tset : TSet) : TS := fun D σ H => to σ H fun o H1 => ti σ H1 fun i H2 => tget o i H2 fun x H3 => te σ H3 fun y H4 => tip x y H4 fun z H5 => tset o i z H5 fun H6 => D.nx σ H6
/-- o[i], by values -/
def PGet (X : Cx) (t : V → V → Hp → VK → Prop) : Prop :=
  ∀ (pins : List (Addr × Obj)) (s : Shared) (σ : St) (H : Hp) (o i : V) (ov iv : Value) (Q : VK), Inv X pins σ H s → RelV o ov → RelV i iv → t o i H Q →
    wpAny (model X.prog X.w) X.A (getItem ov iv) (EP X pins σ Q) X.xe s
theorem ps_augS {o i e : Expr} {to ti te : TE} {tget : V → V → Hp → VK → Prop} {tip : TIp} {tset : TSet} {op : Operator} {tpos : Pos} (ho : PE X o to) (hi : PE X i ti) (hg : PGet X tget) (he : PE X e te) (hp : PIp X op tip) (hs : PSet X tset)
    (ha : ∀ ov iv new, augStore i ov iv new = (do holding [new, ov, iv] (setItem ov iv new); release [new, ov, iv] []; pure .next) := by intros; rfl) : PS X (.AugAssign (.Subscript o i tpos) op e pos) (tAugS to ti te tget tip tset) := by
  intro pins s σ H D I h
  refine wpAny_AugAssign_SubscriptAny (thn (ho pins s σ H _ I h) fun ov s1 ⟨x1, H1, I1, r1, q1⟩ => ?_) ha
  refine thn (hi pins s1 σ H1 _ I1 q1) fun iv s2 ⟨x2, H2, I2, r2, q2⟩ => ?_
  refine thn (hg pins s2 σ H2 x1 x2 ov iv _ I2 r1 r2 q2) fun old s3 ⟨x3, H3, I3, r3, q3⟩ => ?_
  refine thn (he pins s3 σ H3 _ I3 q3) fun v s4 ⟨x4, H4, I4, r4, q4⟩ => ?_
  refine thn (hp pins s4 σ H4 x3 x4 old v _ I4 r3 r4 q4) fun new s5 ⟨x5, H5, I5, r5, q5⟩ => ?_
  exact thn (hs pins s5 σ H5 x1 x2 x5 ov iv new _ I5 r1 r2 r5 q5) fun _ s6 ⟨H6, I6, q6⟩ => ⟨σ, H6, I6, q6⟩
/-- ints -/
def ipI (f : Int → Int → Int) : TIp := fun x y H Q => ∃ i j, x = .int i ∧ y = .int j ∧ Q (.int (f i j)) H
theorem ip_add : PIp X .Add (ipI fun i j => i + j) := by
  intro pins s σ H x y v u Q I r1 r2 h
  obtain ⟨i, j, e1, e2, q⟩ := h
  subst e1; subst e2
  obtain ⟨t, rfl⟩ := r1
  obtain ⟨t', rfl⟩ := r2
  exact iadd_int ⟨.int _, H, I.tok _, ⟨_, rfl⟩, q⟩
theorem ip_sub : PIp X .Sub (ipI fun i j => i - j) := by
  intro pins s σ H x y v u Q I r1 r2 h
  obtain ⟨i, j, e1, e2, q⟩ := h
  subst e1; subst e2
  obtain ⟨t, rfl⟩ := r1
  obtain ⟨t', rfl⟩ := r2
  exact isub_int ⟨.int _, H, I.tok _, ⟨_, rfl⟩, q⟩
end

/-! ### while -/
section
variable {X : Cx} {pos : Pos}
/-- the invariant W with its measure -/
def tWhile (c : TT) (tb : TS) : TS := fun D σ H => ∃ W : Nat → St → Hp → Prop, (∃ m, W m σ H) ∧ ∀ m σ H, W m σ H →
  c σ H fun b H1 => if b = true then ∃ N : St → Hp → Prop, (∀ σ' H', N σ' H' → ∃ m', m' < m ∧ W m' σ' H') ∧ tb { D with nx := N, ct := N, bk := D.nx } σ H1 else D.nx σ H1
theorem ps_while {c : Expr} {body : List Stmt} {tc : TT} {tb : TS} (hp : PassesOwn (model X.prog X.w) X.A X.env X.xe) (hc : PT X c tc) (hb : PSs X body tb) : PS X (.While c body [] pos) (tWhile tc tb) := by
  intro pins s σ H D I h
  obtain ⟨W, ⟨m0, w0⟩, turn⟩ := h
  refine wpAny_While (codeAny_whileLoop (fun n s' => ∃ σ' H', Inv X pins σ' H' s' ∧ W n σ' H') ?_ m0 ⟨σ, H, I, w0⟩)
  rintro n s1 ⟨σ1, H1, I1, w1⟩
  refine wpAny_passesOwn hp (thn (hc pins s1 σ1 H1 _ I1 (turn n σ1 H1 w1)) fun b s2 ⟨H2, I2, q2⟩ => ?_)
  cases b with
  | true =>
    obtain ⟨N, hN, q2⟩ := q2
    rw [if_pos rfl]
    refine wpAny_passesOwn hp (thn (hb pins s2 σ1 H2 _ I2 q2) fun f s3 q3 => ?_)
    cases f with
    | next =>
      obtain ⟨σ3, H3, I3, n3⟩ := q3
      obtain ⟨m', hm, w3⟩ := hN σ3 H3 n3
      exact ⟨m', hm, σ3, H3, I3, w3⟩
    | cont =>
      obtain ⟨σ3, H3, I3, n3⟩ := q3
      obtain ⟨m', hm, w3⟩ := hN σ3 H3 n3
      exact ⟨m', hm, σ3, H3, I3, w3⟩
    | brk => exact q3
    | ret v => exact q3
  | false =>
    rw [if_neg Bool.false_ne_true]
    exact wpAny_execs_nil ⟨σ1, H2, I2, q2⟩
end

/-! ### what a loop or a comprehension walks -/
/-- at turn i: it yields x (the heap may grow), or it stops -/
structure It where
  go : Nat → Hp → Prop
  yld : Nat → Hp → V → Hp → Prop
  stop : Nat → Hp → Prop
/-- the iterator's own objects may turn: they are not the frame's, not pinned, younger than the entry (or a comprehension's own) -/
def FpOk (X : Cx) (pins : List (Addr × Obj)) (H : Hp) (b : Addr) : Prop :=
  H b = none ∧ b ≠ X.env.locals ∧ b ∉ X.fs ∧ (b ∈ X.ex ∨ X.s₀.heap.objs.size ≤ b) ∧ (∀ x c, X.env.cells.lookup x = some c → c ≠ b) ∧ ∀ p ∈ X.pn ++ pins, p.1 ≠ b
theorem Inv.fpOk {X : Cx} {pins : List (Addr × Obj)} {σ : St} {H H' : Hp} {s : Shared} {b : Addr} (I : Inv X pins σ H s) (hb : s.heap.objs.size ≤ b) (hn : H' b = none) : FpOk X pins H' b := by
  refine ⟨hn, Nat.ne_of_gt (Nat.lt_of_lt_of_le I.lt hb), I.nofs hb, .inr (Nat.le_trans I.sz hb), fun x c e z => ?_, fun p hp z => ?_⟩
  · obtain ⟨v, q⟩ := I.cell x c e
    exact absurd (Nat.lt_of_lt_of_le q.lt (by rw [z]; exact hb)) (Nat.lt_irrefl _)
  · exact absurd (Nat.lt_of_lt_of_le (Heap.lt_size (I.pin p hp).1) (by rw [z]; exact hb)) (Nat.lt_irrefl _)
structure Turn (P : Program) (w : World) (K : PySem.W.Frag) (tg : Expr) (J : It) (fp : List Addr) (it : Addr) (tn : Nat → Heap → Prop) : Prop where
  mem : it ∈ fp
  obj : ∀ i h, tn i h → ∀ b ∈ fp, ∃ o, h.get? b = some o ∧ ∀ v, o.data ≠ .cell v
  keep : ∀ i h h', tn i h → (∀ b ∈ fp, ∀ o, h.get? b = some o → h'.get? b = some o) → tn i h'
  item : ∀ (X : Cx), X.prog = P → X.w = w → X.K = K → X.calm = true → ∀ (i : Nat) (pins : List (Addr × Obj)) (s : Shared) (σ : St) (H : Hp) (E : Value → Shared → Prop), Inv X pins σ H s → (∀ b ∈ fp, FpOk X pins H b) → tn i s.heap → J.go i H →
    wpAny (model P w) X.A (pyNext (.ref it)) (fun r s1 => ∃ u, r = some u ∧
      wpAny (model P w) X.A (letOwnedTupleGo tg (.ref it) u) (fun _ s2 => ∃ x H', Inv X pins σ H' s2 ∧ RelV x u ∧ J.yld i H x H' ∧ tn (i + 1) s2.heap ∧ ∀ b ∈ fp, H' b = none) E s1) E s
  done : ∀ (X : Cx), X.prog = P → X.w = w → X.K = K → X.calm = true → ∀ (i : Nat) (pins : List (Addr × Obj)) (s : Shared) (σ : St) (H : Hp) (E : Value → Shared → Prop), Inv X pins σ H s → (∀ b ∈ fp, FpOk X pins H b) → tn i s.heap → J.stop i H →
    wpAny (model P w) X.A (pyNext (.ref it)) (fun r s1 => r = none ∧ Inv X pins σ H s1) E s
  self : ∀ (A : Around) (i : Nat) (s : Shared) (Q : Value → Shared → Prop) (E : Value → Shared → Prop), tn i s.heap → Q (.ref it) s → wpAny (model P w) A (pyIter (.ref it)) Q E s
abbrev TI := St → Hp → (It → Hp → Prop) → Prop
/-- an iterator has come -/
def PIE (X : Cx) (pins : List (Addr × Obj)) (σ : St) (tg : Expr) (R : It → Hp → Prop) (itv : Value) (s2 : Shared) : Prop :=
  ∃ (it : Addr) (fp : List Addr) (tn : Nat → Heap → Prop) (J : It) (H' : Hp), itv = .ref it ∧ Inv X pins σ H' s2 ∧ Turn X.prog X.w X.K tg J fp it tn ∧ tn 0 s2.heap ∧ (∀ b ∈ fp, FpOk X pins H' b) ∧ R J H'
def PI (X : Cx) (tg iter : Expr) (wi : TI) : Prop :=
  ∀ (pins : List (Addr × Obj)) (s : Shared) (σ : St) (H : Hp) (R : It → Hp → Prop), Inv X pins σ H s → wi σ H R →
    wpAny (model X.prog X.w) X.A (eval iter X.env) (fun v s1 => wpAny (model X.prog X.w) X.A (pyIter v) (PIE X pins σ tg R) X.xe s1) X.xe s

/-- the step ahead of the store is nothing for an iterator that keeps no tuple -/
theorem go_of {M : Model} {A : Around} {E : Value → Shared → Prop} {s : Shared} {tg : Expr} {it : Addr} {u : Value} {o : Obj} {n : String} {vs : Array Value} {Q : Unit → Shared → Prop} (ho : s.heap.get? it = some o) (hc : o.cls = .type n) (hd : o.data = .fields vs)
    (hn : ["enumerate", "zip", "dict_itemiterator", "dict_reverseitemiterator", "odict_iterator", "itertools.zip_longest", "itertools.pairwise"].contains n = false) (hQ : Q () s) : wpAny M A (letOwnedTupleGo tg (.ref it) u) Q E s := by
  unfold letOwnedTupleGo
  cases tg <;> first
    | exact wpAny_pure hQ
    | (cases u <;> first
        | exact wpAny_pure hQ
        | (refine wpAny_bind (wpAny_load ho ?_)
           rw [hc, hd]
           show wpAny M A (if (["enumerate", "zip", "dict_itemiterator", "dict_reverseitemiterator", "odict_iterator", "itertools.zip_longest", "itertools.pairwise"].contains n && vs[0]? == some (rawInt _)) = true then _ else _) Q E s
           rw [if_neg (by intro h; rw [hn, Bool.false_and] at h; cases h)]
           exact wpAny_pure hQ))

/-- the list at a, as it stands at each turn (a loop may append to it) -/
def Itl (K : PySem.W.Frag) (a : Addr) : It :=
  ⟨fun i H => ∃ xs x, SqL K H a xs ∧ xs[i]? = some x, fun i H x H' => H' = H ∧ ∀ xs, SqL K H a xs → xs[i]? = some x, fun i H => ∃ xs, SqL K H a xs ∧ xs.length ≤ i⟩
def Itt (K : PySem.W.Frag) (a : Addr) : It :=
  ⟨fun i H => ∃ xs x, SqT K H a xs ∧ xs[i]? = some x, fun i H x H' => H' = H ∧ ∀ xs, SqT K H a xs → xs[i]? = some x, fun i H => ∃ xs, SqT K H a xs ∧ xs.length ≤ i⟩
/-- lo, lo + 1, .. (n of them) -/
def Itr (lo : Int) (n : Nat) : It := ⟨fun i _ => i < n, fun i H x H' => H' = H ∧ x = .int (lo + i), fun i _ => n ≤ i⟩
theorem turn_list {P : Program} {w : World} {K : PySem.W.Frag} {tg : Expr} (a it : Addr) : Turn P w K tg (Itl K a) [it] it (fun i h => h.IsListIter it a i) where
  mem := by simp
  obj := fun i h st b hb => by
    have e : b = it := by simpa using hb
    subst e
    obtain ⟨o, e, c, d⟩ := st
    exact ⟨o, e, fun v z => by rw [d] at z; cases z⟩
  keep := fun i h h' st k => st.at fun o e => k it (by simp) o e
  item := by
    intro X hP hw hK hc i pins s σ H E I hf st hg
    subst hP hw hK
    obtain ⟨xs, x, hq, hx⟩ := hg
    obtain ⟨its, rv, p, hz⟩ := I.list hq
    obtain ⟨u, hu, ru⟩ := rv.get hx
    obtain ⟨f0, f1, f2, f3, f4, f5⟩ := hf it (by simp)
    refine wpAny_pyNext_list_item st p.isList (x := u) (by simpa using hu) fun h' st' sb => ?_
    have I1 : Inv X pins σ H { s with heap := h' } := I.turned (t' := s.toks) (fun b o hb e => (sb.2 b hb).trans e) f0 f1 f3 f4 f5
    obtain ⟨o, e, c, d⟩ := id st'
    exact ⟨u, rfl, go_of (s := { s with heap := h' }) e c d (by decide) ⟨x, H, I1, ru, ⟨rfl, fun ys hy => by rw [I.list_inj hy hq]; exact hx⟩, st', fun b hb => (hf b hb).1⟩⟩
  done := by
    intro X hP hw hK hc i pins s σ H E I hf st hg
    subst hP hw hK
    obtain ⟨xs, hq, hx⟩ := hg
    obtain ⟨its, rv, p, hz⟩ := I.list hq
    obtain ⟨f0, f1, f2, f3, f4, f5⟩ := hf it (by simp)
    have hl := rv.length
    exact wpAny_pyNext_list_end (I.ok.hd hc) st p.isList (by simp; omega) fun h' eb => ⟨rfl, I.turned (t' := s.toks) (fun b o hb e => eb b o hb e) f0 f1 f3 f4 f5⟩
  self := fun _ _ _ _ _ st h => wpAny_pyIter_listiter st h
theorem turn_tuple {P : Program} {w : World} {K : PySem.W.Frag} {tg : Expr} (a it : Addr) : Turn P w K tg (Itt K a) [it] it (fun i h => h.IsTupleIter it a i) where
  mem := by simp
  obj := fun i h st b hb => by
    have e : b = it := by simpa using hb
    subst e
    obtain ⟨o, e, c, d⟩ := st
    exact ⟨o, e, fun v z => by rw [d] at z; cases z⟩
  keep := fun i h h' st k => st.at fun o e => k it (by simp) o e
  item := by
    intro X hP hw hK hc i pins s σ H E I hf st hg
    subst hP hw hK
    obtain ⟨xs, x, hq, hx⟩ := hg
    obtain ⟨its, rv, p, hz⟩ := I.tuple hq
    obtain ⟨u, hu, ru⟩ := rv.get hx
    obtain ⟨f0, f1, f2, f3, f4, f5⟩ := hf it (by simp)
    refine wpAny_pyNext_tuple_item st (show s.heap.IsTuple a its.toArray from p) (x := u) (by simpa using hu) fun h' st' sb => ?_
    have I1 : Inv X pins σ H { s with heap := h' } := I.turned (t' := s.toks) (fun b o hb e => (sb.2 b hb).trans e) f0 f1 f3 f4 f5
    obtain ⟨o, e, c, d⟩ := id st'
    exact ⟨u, rfl, go_of (s := { s with heap := h' }) e c d (by decide) ⟨x, H, I1, ru, ⟨rfl, fun ys hy => by rw [I.tuple_inj hy hq]; exact hx⟩, st', fun b hb => (hf b hb).1⟩⟩
  done := by
    intro X hP hw hK hc i pins s σ H E I hf st hg
    subst hP hw hK
    obtain ⟨xs, hq, hx⟩ := hg
    obtain ⟨its, rv, p, hz⟩ := I.tuple hq
    obtain ⟨f0, f1, f2, f3, f4, f5⟩ := hf it (by simp)
    have hl := rv.length
    exact wpAny_pyNext_tuple_end (I.ok.hd hc) st (show s.heap.IsTuple a its.toArray from p) (by simp; omega) fun h' eb => ⟨rfl, I.turned (t' := s.toks) (fun b o hb e => eb b o hb e) f0 f1 f3 f4 f5⟩
  self := fun _ _ _ _ _ st h => wpAny_pyIter_tupleiter st h
theorem turn_range {P : Program} {w : World} {K : PySem.W.Frag} {tg : Expr} (it : Addr) (lo : Int) (n : Nat) : Turn P w K tg (Itr lo n) [it] it (fun i h => IsRangeIter h it (lo + (i : Nat) * 1) ((n : Int) - (i : Nat)) 1) where
  mem := by simp
  obj := fun i h st b hb => by
    have e : b = it := by simpa using hb
    subst e
    exact ⟨_, st, fun v z => by
      have z' : Data.fields _ = Data.cell v := z
      cases z'⟩
  keep := fun i h h' st k => k it (by simp) _ st
  item := by
    intro X hP hw hK hc i pins s σ H E I hf st hg
    subst hP hw hK
    obtain ⟨f0, f1, f2, f3, f4, f5⟩ := hf it (by simp)
    have W := Walks.range (prog := X.prog) (w := X.w) (I.ok.hd hc) it lo 1 n
    refine W.item i s _ _ hg st fun v h' tk hv st' kk => ?_
    obtain ⟨t, rfl⟩ := hv
    have I1 : Inv X pins σ H { s with heap := h', toks := tk } := I.turned (fun b o hb e => kk b o (by simpa using hb) e) f0 f1 f3 f4 f5
    refine ⟨_, rfl, go_of (s := { s with heap := h', toks := tk }) (n := "range_iterator") st' rfl rfl (by decide) ⟨.int (lo + i), H, I1, ⟨t, ?_⟩, ⟨rfl, rfl⟩, st', fun b hb => (hf b hb).1⟩⟩
    rw [Int.mul_one]
  done := by
    intro X hP hw hK hc i pins s σ H E I hf st hg
    subst hP hw hK
    obtain ⟨f0, f1, f2, f3, f4, f5⟩ := hf it (by simp)
    exact wpAny_pyNext_range_end (I.ok.hd hc) st (by have : n ≤ i := hg; omega) fun h' eb => ⟨rfl, I.turned (t' := s.toks) (fun b o hb e => eb b o hb e) f0 f1 f3 f4 f5⟩
  self := fun _ _ _ _ _ st h => wpAny_pyIter_rangeiter st h
end L2

namespace L2
open PySem PySem.Spec PyProof.Rows
section
variable {X : Cx} {tg : Expr}
def iList (K : PySem.W.Frag) (tl : TE) : TI := fun σ H R => tl σ H fun x H1 => ∃ a, x = .ref a ∧ (∃ xs, SqL K H1 a xs) ∧ R (Itl K a) H1
def iTup (K : PySem.W.Frag) (tl : TE) : TI := fun σ H R => tl σ H fun x H1 => ∃ a, x = .ref a ∧ (∃ xs, SqT K H1 a xs) ∧ R (Itt K a) H1
theorem pi_list {l : Expr} {tl : TE} (hl : PE X l tl) : PI X tg l (iList X.K tl) := by
  intro pins s σ H R I h
  refine thn (hl pins s σ H _ I h) fun v s1 ⟨x, H1, I1, r1, q1⟩ => ?_
  obtain ⟨a, e, ⟨xs, hq⟩, q⟩ := q1
  subst e
  cases r1
  obtain ⟨its, rv, p, hz⟩ := I1.list hq
  refine wpAny_pyIter_list p.isList ?_
  refine ⟨s1.heap.objs.size, [s1.heap.objs.size], _, _, H1, rfl, I1.kept (t' := s1.toks) fun b o e => Heap.get?_push_of_some _ e, turn_list a _, ⟨_, Heap.get?_push_size _ rfl, rfl, rfl⟩, fun b hb => ?_, q⟩
  have e : b = s1.heap.objs.size := by simpa using hb
  subst e
  exact I1.fpOk (Nat.le_refl _) (I1.hok.fresh (Nat.le_refl _))
theorem pi_tup {l : Expr} {tl : TE} (hl : PE X l tl) : PI X tg l (iTup X.K tl) := by
  intro pins s σ H R I h
  refine thn (hl pins s σ H _ I h) fun v s1 ⟨x, H1, I1, r1, q1⟩ => ?_
  obtain ⟨a, e, ⟨xs, hq⟩, q⟩ := q1
  subst e
  cases r1
  obtain ⟨its, rv, p, hz⟩ := I1.tuple hq
  refine wpAny_pyIter_tuple (show s1.heap.IsTuple a its.toArray from p) ?_
  refine ⟨s1.heap.objs.size, [s1.heap.objs.size], _, _, H1, rfl, I1.kept (t' := s1.toks) fun b o e => Heap.get?_push_of_some _ e, turn_tuple a _, ⟨_, Heap.get?_push_size _ rfl, rfl, rfl⟩, fun b hb => ?_, q⟩
  have e : b = s1.heap.objs.size := by simpa using hb
  subst e
  exact I1.fpOk (Nat.le_refl _) (I1.hok.fresh (Nat.le_refl _))
/-- a range object just made, walked -/
theorem range_it {pins : List (Addr × Obj)} {σ : St} {H : Hp} {s : Shared} {R : It → Hp → Prop} {E : Value → Shared → Prop} {lo hi : Int} {t u v : Tok} {tk : Nat} (I : Inv X pins σ H s) (h1 : -(2 ^ 62) ≤ lo) (h2 : lo < 2 ^ 62) (h3 : -(2 ^ 62) ≤ hi) (h4 : hi < 2 ^ 62)
    (q : R (Itr lo (hi - lo).toNat) H) : wpAny (model X.prog X.w) X.A (pyIter (.ref s.heap.objs.size)) (PIE X pins σ tg R) E { s with heap := s.heap.push { cls := .type "range", data := .fields #[.int lo t, .int hi u, .int 1 v] }, toks := tk } := by
  refine wpAny_pyIter_range (IsRange.new ..) (small_one h1 h2 h3 h4) ?_
  have I1 : Inv X pins σ H { s with heap := s.heap.push { cls := .type "range", data := .fields #[.int lo t, .int hi u, .int 1 v] }, toks := tk } := I.kept fun b o e => Heap.get?_push_of_some _ e
  refine ⟨(s.heap.push { cls := .type "range", data := .fields #[.int lo t, .int hi u, .int 1 v] }).objs.size, [(s.heap.push { cls := .type "range", data := .fields #[.int lo t, .int hi u, .int 1 v] }).objs.size], _, _, H, rfl,
    I1.kept (t' := tk) fun b o e => Heap.get?_push_of_some _ e, turn_range _ lo (hi - lo).toNat, ?_, fun b hb => ?_, q⟩
  · have e1 : lo + ((0 : Nat) : Int) * 1 = lo := by simp
    have e2 : (((hi - lo).toNat : Nat) : Int) - ((0 : Nat) : Int) = Builtin.Range.rangeSize lo hi 1 := by rw [rangeSize_one]; split <;> omega
    show IsRangeIter _ _ (lo + ((0 : Nat) : Int) * 1) ((((hi - lo).toNat : Nat) : Int) - ((0 : Nat) : Int)) 1
    rw [e1, e2]
    exact Heap.get?_push_size _ rfl
  · have e : b = (s.heap.push { cls := .type "range", data := .fields #[.int lo t, .int hi u, .int 1 v] }).objs.size := by simpa using hb
    subst e
    exact I1.fpOk (Nat.le_refl _) (I1.hok.fresh (Nat.le_refl _))
def iRng1 (ta : TA) : TI := fun σ H R => ta σ H fun vs H1 => ∃ j : Int, vs = [.int j] ∧ -(2 ^ 62) ≤ j ∧ j < 2 ^ 62 ∧ R (Itr 0 j.toNat) H1
def iRng2 (ta : TA) : TI := fun σ H R => ta σ H fun vs H1 => ∃ i j : Int, vs = [.int i, .int j] ∧ (-(2 ^ 62) ≤ i ∧ i < 2 ^ 62 ∧ -(2 ^ 62) ≤ j ∧ j < 2 ^ 62) ∧ R (Itr i (j - i).toNat) H1
theorem pi_range1 {a : Expr} {ta : TA} {p pos : Pos} (hg : Gl X "range") (hm : X.mg "range" = none) (ha : PA X [a] ta) (hs : starEach [a] X.env = [(false, eval a X.env)] := by rfl) : PI X tg (.Call (.Name "range" p) [a] [] pos) (iRng1 ta) := by
  intro pins s σ H R I h
  refine Call_ (ld_blt I hg hm boot_range (PyProof.Rows.callWith_type1 (thn (ha pos pins s σ H _ I h) fun us s1 ⟨vs, H1, I1, r1, q1⟩ => ?_) hs rfl))
  obtain ⟨j, e, q1, q2, q⟩ := q1
  subst e
  cases r1 with
  | cons r rr =>
    cases rr
    obtain ⟨t, rfl⟩ := r
    exact call_range_1 (range_it I1 (by omega) (by omega) q1 q2 (by simpa using q))
theorem pi_range2 {a b : Expr} {ta : TA} {p pos : Pos} (hg : Gl X "range") (hm : X.mg "range" = none) (ha : PA X [a, b] ta) (hs : starEach [a, b] X.env = [(false, eval a X.env), (false, eval b X.env)] := by rfl) (hs2 : starEach [b] X.env = [(false, eval b X.env)] := by rfl) :
    PI X tg (.Call (.Name "range" p) [a, b] [] pos) (iRng2 ta) := by
  intro pins s σ H R I h
  refine Call_ (ld_blt I hg hm boot_range (PyProof.Rows.callWith_type1 (thn (ha pos pins s σ H _ I h) fun us s1 ⟨vs, H1, I1, r1, q1⟩ => ?_) (by rw [hs, hs2]) (by rw [hs2]; rfl)))
  obtain ⟨i, j, e, ⟨q1, q2, q3, q4⟩, q⟩ := q1
  subst e
  cases r1 with
  | cons r rr =>
    cases rr with
    | cons r' rr =>
      cases rr
      obtain ⟨t, rfl⟩ := r
      obtain ⟨t', rfl⟩ := r'
      exact call_range_2 (range_it I1 q1 q2 q3 q4 q)

/-! ### for -/
/-- W: the invariant by the turn and a measure; N: what the body is to reach -/
def tFor (wi : TI) (g : TG) (tb : TS) : TS := fun D σ H => wi σ H fun J H1 => ∃ W : Nat → Nat → St → Hp → Prop, (∃ m, W 0 m σ H1) ∧ ∀ i m σ H, W i m σ H →
  (J.stop i H ∧ D.nx σ H) ∨ (J.go i H ∧ ∃ N : St → Hp → Prop, (∀ σ' H', N σ' H' → ∃ m', m' < m ∧ W (i + 1) m' σ' H') ∧ ∀ x H', J.yld i H x H' → g x σ H' fun σ2 H2 => tb { D with nx := N, ct := N, bk := D.nx } σ2 H2)
/-- the records at fp as they stand -/
def pinsAt (fp : List Addr) (h : Heap) : List (Addr × Obj) := fp.filterMap fun b => (h.get? b).map fun o => (b, o)
theorem mem_pinsAt {fp : List Addr} {h : Heap} {b : Addr} {o : Obj} (hb : b ∈ fp) (e : h.get? b = some o) : (b, o) ∈ pinsAt fp h := List.mem_filterMap.mpr ⟨b, hb, by rw [e]; rfl⟩
theorem of_pinsAt {fp : List Addr} {h : Heap} {p : Addr × Obj} (hp : p ∈ pinsAt fp h) : p.1 ∈ fp ∧ h.get? p.1 = some p.2 := by
  obtain ⟨b, hb, e⟩ := List.mem_filterMap.mp hp
  cases q : h.get? b with
  | none => rw [q] at e; cases e
  | some o =>
    rw [q] at e
    have e' : (b, o) = p := Option.some.inj e
    subst e'
    exact ⟨hb, q⟩
theorem Inv.pinned {pins : List (Addr × Obj)} {σ : St} {H : Hp} {s : Shared} {fp : List Addr} (I : Inv X pins σ H s) (hf : ∀ b ∈ fp, FpOk X pins H b) (ho : ∀ b ∈ fp, ∃ o, s.heap.get? b = some o ∧ ∀ v, o.data ≠ .cell v) : Inv X (pins ++ pinsAt fp s.heap) σ H s :=
  I.pins_of fun p hp => (List.mem_append.mp hp).elim (fun z => I.pin p (List.mem_append_right _ z)) fun z => by
    obtain ⟨hb, e⟩ := of_pinsAt z
    obtain ⟨f0, f1, f2, _⟩ := hf p.1 hb
    obtain ⟨o, e', d⟩ := ho p.1 hb
    rw [e] at e'; cases e'
    exact ⟨e, f0, f1, f2, d⟩
theorem Inv.unpinned {pins pl : List (Addr × Obj)} {σ : St} {H : Hp} {s : Shared} (I : Inv X (pins ++ pl) σ H s) : Inv X pins σ H s := I.pins_of fun p hp => I.pin p (List.mem_append_right _ (List.mem_append_left _ hp))
theorem ps_for {iter : Expr} {body : List Stmt} {wi : TI} {g : TG} {tb : TS} {pos : Pos} (hp : PassesOwn (model X.prog X.w) X.A X.env X.xe) (hc : X.calm = true) (hi : PI X tg iter wi) (hg : PG X tg g) (hb : PSs X body tb)
    (hs : ∀ x, foldedSetIterable iter X.env x = pure x := by intro _; rfl) : PS X (.For tg iter body [] pos) (tFor wi g tb) := by
  intro pins s σ H D I h
  refine wpAny_For (thn (hi pins s σ H _ I h) fun v s1 h1 => thn h1 fun itv s2 h2 => ?_) hs
  obtain ⟨it, fp, tn, J, H2, e, I2, T, st2, f2, W, ⟨m0, w0⟩, turn⟩ := h2
  subst e
  -- what stays true of the iterator's objects through the loop
  have stat : ∀ {H' : Hp}, (∀ b ∈ fp, H' b = none) → ∀ b ∈ fp, FpOk X pins H' b := fun hn b hb => ⟨hn b hb, (f2 b hb).2⟩
  refine codeAny_forLoop_any (fun n s' => ∃ i σ' H', Inv X pins σ' H' s' ∧ tn i s'.heap ∧ (∀ b ∈ fp, H' b = none) ∧ W i n σ' H') ?_ m0 ⟨0, σ, H2, I2, st2, fun b hb => (f2 b hb).1, w0⟩
  rintro n s3 ⟨i, σ3, H3, I3, st3, fr3, w3⟩
  rcases turn i n σ3 H3 w3 with ⟨stop, qn⟩ | ⟨go, N, hN, step⟩
  · refine wpAny_passesOwn hp (thn (T.done X rfl rfl rfl hc i pins s3 σ3 H3 X.xe I3 (stat fr3) st3 stop) fun r s4 ⟨hr, I4⟩ => ?_)
    subst hr
    exact wpAny_execs_nil ⟨σ3, H3, I4, qn⟩
  · refine wpAny_passesOwn hp (thn (T.item X rfl rfl rfl hc i pins s3 σ3 H3 X.xe I3 (stat fr3) st3 go) fun r s4 ⟨u, hr, h4⟩ => ?_)
    subst hr
    refine wpAny_passesOwn hp (thn h4 fun _ s5 ⟨x, H5, I5, r5, y5, st5, fr5⟩ => ?_)
    have I5' := I5.pinned (stat fr5) (T.obj _ _ st5)
    refine wpAny_passesOwn hp (thn (hg _ s5 σ3 H5 x u _ I5' r5 (step x H5 y5)) fun _ s6 ⟨σ6, H6, I6, q6⟩ => ?_)
    refine wpAny_passesOwn hp (thn (hb _ s6 σ6 H6 _ I6 q6) fun f s7 q7 => ?_)
    have again : ∀ {σ7 : St} {H7 : Hp}, Inv X (pins ++ pinsAt fp s5.heap) σ7 H7 s7 → N σ7 H7 → ∃ m, m < n ∧ ∃ i σ' H', Inv X pins σ' H' s7 ∧ tn i s7.heap ∧ (∀ b ∈ fp, H' b = none) ∧ W i m σ' H' := fun {σ7 H7} I7 n7 => by
      obtain ⟨m', hm, w7⟩ := hN σ7 H7 n7
      refine ⟨m', hm, i + 1, σ7, H7, I7.unpinned, T.keep _ _ _ st5 fun b hb o e => (I7.pin (b, o) (List.mem_append_right _ (List.mem_append_right _ (mem_pinsAt hb e)))).1, fun b hb => ?_, w7⟩
      obtain ⟨o, e, d⟩ := T.obj _ _ st5 b hb
      exact (I7.pin (b, o) (List.mem_append_right _ (List.mem_append_right _ (mem_pinsAt hb e)))).2.1
    cases f with
    | next => obtain ⟨σ7, H7, I7, n7⟩ := q7; exact again I7 n7
    | cont => obtain ⟨σ7, H7, I7, n7⟩ := q7; exact again I7 n7
    | brk => obtain ⟨σ7, H7, I7, q7⟩ := q7; exact ⟨σ7, H7, I7.unpinned, q7⟩
    | ret v => obtain ⟨x7, σ7, H7, I7, r7, q7⟩ := q7; exact ⟨x7, σ7, H7, I7.unpinned, r7, q7⟩
end

/-! ### the forms one uses -/
/-- over a list that the body leaves as it is -/
theorem for_list {K : PySem.W.Frag} {a : Addr} {xs : List V} {g : TG} {tb : TS} {D : Ends} {σ : St} {H : Hp} (Pv : Nat → St → Hp → Prop) (h0 : Pv 0 σ H) (hl : ∀ i σ H, i ≤ xs.length → Pv i σ H → SqL K H a xs)
    (hs : ∀ i x σ H, xs[i]? = some x → Pv i σ H → g x σ H fun σ2 H2 => tb { D with nx := Pv (i + 1), ct := Pv (i + 1), bk := D.nx } σ2 H2) (hd : ∀ σ H, Pv xs.length σ H → D.nx σ H) :
    ∃ W : Nat → Nat → St → Hp → Prop, (∃ m, W 0 m σ H) ∧ ∀ i m σ H, W i m σ H →
      ((Itl K a).stop i H ∧ D.nx σ H) ∨ ((Itl K a).go i H ∧ ∃ N : St → Hp → Prop, (∀ σ' H', N σ' H' → ∃ m', m' < m ∧ W (i + 1) m' σ' H') ∧ ∀ x H', (Itl K a).yld i H x H' → g x σ H' fun σ2 H2 => tb { D with nx := N, ct := N, bk := D.nx } σ2 H2) := by
  refine ⟨fun i m σ H => m = xs.length - i ∧ i ≤ xs.length ∧ Pv i σ H, ⟨xs.length, by simp, Nat.zero_le _, h0⟩, ?_⟩
  rintro i m σ H ⟨rfl, hi, p⟩
  have q := hl i σ H hi p
  by_cases hlt : i < xs.length
  · refine .inr ⟨⟨xs, xs[i], q, by simp [hlt]⟩, Pv (i + 1), fun σ' H' p' => ⟨xs.length - (i + 1), by omega, rfl, hlt, p'⟩, fun x H' y => ?_⟩
    obtain ⟨e, y⟩ := y
    subst e
    exact hs i x σ _ (y xs q) p
  · have e : i = xs.length := by omega
    subst e
    exact .inl ⟨⟨xs, q, Nat.le_refl _⟩, hd σ H p⟩
theorem for_tup {K : PySem.W.Frag} {a : Addr} {xs : List V} {g : TG} {tb : TS} {D : Ends} {σ : St} {H : Hp} (Pv : Nat → St → Hp → Prop) (h0 : Pv 0 σ H) (hl : ∀ i σ H, i ≤ xs.length → Pv i σ H → SqT K H a xs)
    (hs : ∀ i x σ H, xs[i]? = some x → Pv i σ H → g x σ H fun σ2 H2 => tb { D with nx := Pv (i + 1), ct := Pv (i + 1), bk := D.nx } σ2 H2) (hd : ∀ σ H, Pv xs.length σ H → D.nx σ H) :
    ∃ W : Nat → Nat → St → Hp → Prop, (∃ m, W 0 m σ H) ∧ ∀ i m σ H, W i m σ H →
      ((Itt K a).stop i H ∧ D.nx σ H) ∨ ((Itt K a).go i H ∧ ∃ N : St → Hp → Prop, (∀ σ' H', N σ' H' → ∃ m', m' < m ∧ W (i + 1) m' σ' H') ∧ ∀ x H', (Itt K a).yld i H x H' → g x σ H' fun σ2 H2 => tb { D with nx := N, ct := N, bk := D.nx } σ2 H2) := by
  refine ⟨fun i m σ H => m = xs.length - i ∧ i ≤ xs.length ∧ Pv i σ H, ⟨xs.length, by simp, Nat.zero_le _, h0⟩, ?_⟩
  rintro i m σ H ⟨rfl, hi, p⟩
  have q := hl i σ H hi p
  by_cases hlt : i < xs.length
  · refine .inr ⟨⟨xs, xs[i], q, by simp [hlt]⟩, Pv (i + 1), fun σ' H' p' => ⟨xs.length - (i + 1), by omega, rfl, hlt, p'⟩, fun x H' y => ?_⟩
    obtain ⟨e, y⟩ := y
    subst e
    exact hs i x σ _ (y xs q) p
  · have e : i = xs.length := by omega
    subst e
    exact .inl ⟨⟨xs, q, Nat.le_refl _⟩, hd σ H p⟩
theorem for_range {lo : Int} {n : Nat} {g : TG} {tb : TS} {D : Ends} {σ : St} {H : Hp} (Pv : Nat → St → Hp → Prop) (h0 : Pv 0 σ H)
    (hs : ∀ i σ H, i < n → Pv i σ H → g (.int (lo + i)) σ H fun σ2 H2 => tb { D with nx := Pv (i + 1), ct := Pv (i + 1), bk := D.nx } σ2 H2) (hd : ∀ σ H, Pv n σ H → D.nx σ H) :
    ∃ W : Nat → Nat → St → Hp → Prop, (∃ m, W 0 m σ H) ∧ ∀ i m σ H, W i m σ H →
      ((Itr lo n).stop i H ∧ D.nx σ H) ∨ ((Itr lo n).go i H ∧ ∃ N : St → Hp → Prop, (∀ σ' H', N σ' H' → ∃ m', m' < m ∧ W (i + 1) m' σ' H') ∧ ∀ x H', (Itr lo n).yld i H x H' → g x σ H' fun σ2 H2 => tb { D with nx := N, ct := N, bk := D.nx } σ2 H2) := by
  refine ⟨fun i m σ H => m = n - i ∧ i ≤ n ∧ Pv i σ H, ⟨n, by simp, Nat.zero_le _, h0⟩, ?_⟩
  rintro i m σ H ⟨rfl, hi, p⟩
  by_cases hlt : i < n
  · refine .inr ⟨hlt, Pv (i + 1), fun σ' H' p' => ⟨n - (i + 1), by omega, rfl, hlt, p'⟩, fun x H' y => ?_⟩
    obtain ⟨e, y⟩ := y
    subst e y
    exact hs i σ _ hlt p
  · have e : i = n := by omega
    subst e
    exact .inl ⟨Nat.le_refl _, hd σ H p⟩
/-- while, by a word and a measure of the state -/
theorem while_by {c : TT} {tb : TS} {D : Ends} {σ : St} {H : Hp} (Pv : St → Hp → Prop) (μ : St → Hp → Nat) (h0 : Pv σ H)
    (hs : ∀ σ H, Pv σ H → c σ H fun b H1 => if b = true then tb { D with nx := fun σ' H' => Pv σ' H' ∧ μ σ' H' < μ σ H, ct := fun σ' H' => Pv σ' H' ∧ μ σ' H' < μ σ H, bk := D.nx } σ H1 else D.nx σ H1)
    (mono : ∀ σ H Q Q', (∀ b H1, Q b H1 → Q' b H1) → c σ H Q → c σ H Q') : tWhile c tb D σ H := by
  refine ⟨fun m σ H => m = μ σ H ∧ Pv σ H, ⟨_, rfl, h0⟩, ?_⟩
  rintro m σ H ⟨rfl, p⟩
  refine mono σ H _ _ (fun b H1 q => ?_) (hs σ H p)
  cases b with
  | true => exact ⟨_, fun σ' H' ⟨p', l⟩ => ⟨_, l, rfl, p'⟩, q⟩
  | false => exact q
end L2

namespace L2
open PySem PySem.Spec PyProof.Rows

abbrev R2 := V → V → Hp → VK → Prop
/-- a two-place operation on values: f is binaryOp op, inplaceOp op or compareOp op -/
def OpR (X : Cx) (f : Value → Value → Sem Value) (r : R2) : Prop :=
  ∀ (pins : List (Addr × Obj)) (s : Shared) (σ : St) (H : Hp) (x y : V) (v u : Value) (Q : VK), Inv X pins σ H s → RelV x v → RelV y u → r x y H Q →
    wpAny (model X.prog X.w) X.A (f v u) (EP X pins σ Q) X.xe s
/-- a one-place operation -/
def UnR (X : Cx) (f : Value → Sem Value) (r : V → Hp → VK → Prop) : Prop :=
  ∀ (pins : List (Addr × Obj)) (s : Shared) (σ : St) (H : Hp) (x : V) (v : Value) (Q : VK), Inv X pins σ H s → RelV x v → r x H Q →
    wpAny (model X.prog X.w) X.A (f v) (EP X pins σ Q) X.xe s
/-- a call of a value that is known (a builtin, a type) with values -/
def CallR (X : Cx) (f : Value) (r : List V → Hp → VK → Prop) : Prop :=
  ∀ (pins : List (Addr × Obj)) (s : Shared) (σ : St) (H : Hp) (xs : List V) (us : List Value) (Q : VK), Inv X pins σ H s → Vals xs us → r xs H Q →
    wpAny (model X.prog X.w) X.A (call f us) (EP X pins σ Q) X.xe s
/-- a value's truth -/
def TruR (X : Cx) (r : V → Hp → (Bool → Hp → Prop) → Prop) : Prop :=
  ∀ (pins : List (Addr × Obj)) (s : Shared) (σ : St) (H : Hp) (x : V) (v : Value) (Q : Bool → Hp → Prop), Inv X pins σ H s → RelV x v → r x H Q →
    wpAny (model X.prog X.w) X.A (truthy v) (TP X pins σ Q) X.xe s

def tOp (r : R2) (ta tb : TE) : TE := fun σ H Q => ta σ H fun x H1 => tb σ H1 fun y H2 => r x y H2 Q
def tUn (r : V → Hp → VK → Prop) (ta : TE) : TE := fun σ H Q => ta σ H fun x H1 => r x H1 Q
/-- ints in, under C, and a value out -/
def rI (C : Int → Int → Prop) (g : Int → Int → V) : R2 := fun x y H Q => ∃ i j, x = .int i ∧ y = .int j ∧ C i j ∧ Q (g i j) H
def rI0 (g : Int → Int → V) : R2 := fun x y H Q => ∃ i j, x = .int i ∧ y = .int j ∧ Q (g i j) H
def rU (g : Int → V) : V → Hp → VK → Prop := fun x H Q => ∃ i, x = .int i ∧ Q (g i) H

section
variable {X : Cx} {a b c : Expr} {ta tb tc : TE} {pos : Pos}

theorem binT (ha : PE X a ta) (hb : PE X b tb) {pins : List (Addr × Obj)} {s : Shared} {σ : St} {H : Hp} {R : V → V → Hp → Prop} (I : Inv X pins σ H s)
    (h : ta σ H fun x H1 => tb σ H1 fun y H2 => R x y H2) {Q : Value → Shared → Prop} {f : Value → Value → Sem Value}
    (hf : ∀ v u s2 x y H2, Inv X pins σ H2 s2 → RelV x v → RelV y u → R x y H2 → wpAny (model X.prog X.w) X.A (f v u) Q X.xe s2) :
    wpAny (model X.prog X.w) X.A (eval a X.env) (fun v s₁ => wpAny (model X.prog X.w) X.A (eval b X.env) (fun u s₂ => wpAny (model X.prog X.w) X.A (f v u) Q X.xe s₂) X.xe s₁) X.xe s := by
  refine thn (ha pins s σ H _ I h) fun v s1 ⟨x, H1, I1, r1, q1⟩ => ?_
  refine thn (hb pins s1 σ H1 _ I1 q1) fun u s2 ⟨y, H2, I2, r2, q2⟩ => ?_
  exact hf v u s2 x y H2 I2 r1 r2 q2

theorem pe_op {op : Operator} {r : R2} (ho : OpR X (binaryOp op) r) (ha : PE X a ta) (hb : PE X b tb) : PE X (.BinOp a op b pos) (tOp r ta tb) := by
  intro pins s σ H Q I h
  exact wpAny_BinOp (binT ha hb I h fun v u s2 x y H2 I2 rx ry q => ho pins s2 σ H2 x y v u Q I2 rx ry q)
theorem pe_un {op : UnaryOp} {r : V → Hp → VK → Prop} (ho : UnR X (unaryOp op) r) (ha : PE X a ta) : PE X (.UnaryOp op a pos) (tUn r ta) := by
  intro pins s σ H Q I h
  exact UnaryOp_ (thn (ha pins s σ H _ I h) fun v s1 ⟨x, H1, I1, r1, q1⟩ => ho pins s1 σ H1 x v Q I1 r1 q1)
/-- a op= e at a name: the name's slot i -/
theorem augR {op : Operator} {r : R2} (ho : OpR X (inplaceOp op) r) {pins : List (Addr × Obj)} {s : Shared} {σ : St} {H : Hp} {x y : V} {v u : Value} {Q : VK} (I : Inv X pins σ H s)
    (rx : RelV x v) (ry : RelV y u) (q : r x y H Q) : wpAny (model X.prog X.w) X.A (inplaceOp op v u) (EP X pins σ Q) X.xe s := ho pins s σ H x y v u Q I rx ry q

/-! ### ints -/
theorem opI {f : Value → Value → Sem Value} {C : Int → Int → Prop} {g : Int → Int → Int}
    (rule : ∀ (i j : Int) (t u : Tok) (s : Shared) (Q : Value → Shared → Prop) (E : Value → Shared → Prop), C i j → Q (.int (g i j) s.toks) { s with toks := s.toks + 1 } → wpAny (model X.prog X.w) X.A (f (.int i t) (.int j u)) Q E s) :
    OpR X f (rI C fun i j => .int (g i j)) := by
  intro pins s σ H x y v u Q I rx ry h
  obtain ⟨i, j, rfl, rfl, hc, q⟩ := h
  obtain ⟨t, rfl⟩ := rx
  obtain ⟨t', rfl⟩ := ry
  exact rule i j t t' s _ _ hc ⟨.int (g i j), H, I.tok _, ⟨_, rfl⟩, q⟩
theorem opI0 {f : Value → Value → Sem Value} {g : Int → Int → Int}
    (rule : ∀ (i j : Int) (t u : Tok) (s : Shared) (Q : Value → Shared → Prop) (E : Value → Shared → Prop), Q (.int (g i j) s.toks) { s with toks := s.toks + 1 } → wpAny (model X.prog X.w) X.A (f (.int i t) (.int j u)) Q E s) :
    OpR X f (rI0 fun i j => .int (g i j)) := by
  intro pins s σ H x y v u Q I rx ry h
  obtain ⟨i, j, rfl, rfl, q⟩ := h
  obtain ⟨t, rfl⟩ := rx
  obtain ⟨t', rfl⟩ := ry
  exact rule i j t t' s _ _ ⟨.int (g i j), H, I.tok _, ⟨_, rfl⟩, q⟩
theorem opB0 {f : Value → Value → Sem Value} {g : Int → Int → Bool}
    (rule : ∀ (i j : Int) (t u : Tok) (s : Shared) (Q : Value → Shared → Prop) (E : Value → Shared → Prop), Q (.bool (g i j)) s → wpAny (model X.prog X.w) X.A (f (.int i t) (.int j u)) Q E s) :
    OpR X f (rI0 fun i j => .bl (g i j)) := by
  intro pins s σ H x y v u Q I rx ry h
  obtain ⟨i, j, rfl, rfl, q⟩ := h
  obtain ⟨t, rfl⟩ := rx
  obtain ⟨t', rfl⟩ := ry
  exact rule i j t t' s _ _ ⟨.bl (g i j), H, I, rfl, q⟩

def CDiv (i j : Int) : Prop := 0 < j ∧ j < 1073741824
def CDivN (i j : Int) : Prop := j ≠ 0 ∧ j.natAbs < 1073741824
def CPow (i j : Int) : Prop := 0 ≤ j ∧ j ≤ 1000000 ∧ i.natAbs < 2 ^ 64
def CMul (i j : Int) : Prop := (-(2 ^ 64) < i ∧ i < 2 ^ 64) ∨ (-(2 ^ 64) < j ∧ j < 2 ^ 64)
theorem CMul.ok {i j : Int} (h : CMul i j) : IntMulOk i j := by
  rcases h with ⟨h1, h2⟩ | ⟨h1, h2⟩
  · exact .of_left (intBits_le_64 h1 h2)
  · exact .of_right (intBits_le_64 h1 h2)
theorem two_pow_nn (k : Nat) : (0 : Int) ≤ 2 ^ k := by
  rw [two_pow_cast]
  exact Int.natCast_nonneg _

theorem op_add : OpR X (binaryOp .Add) (rI0 fun i j => .int (i + j)) := opI0 fun _ _ _ _ _ _ _ q => add_int q
theorem op_sub : OpR X (binaryOp .Sub) (rI0 fun i j => .int (i - j)) := opI0 fun _ _ _ _ _ _ _ q => sub_int q
theorem op_mul : OpR X (binaryOp .Mult) (rI CMul fun i j => .int (i * j)) := opI fun _ _ _ _ _ _ _ hc q => mul_int q hc.ok
/-- // by a positive divisor -/
theorem op_fdiv : OpR X (binaryOp .FloorDiv) (rI CDiv fun i j => .int (i / j)) := opI fun i j _ _ _ _ _ hc q => by
  have h1 : (0 : Int) < j := hc.1
  have h2 : j < 1073741824 := hc.2
  exact floordiv_int (by omega) (by rw [Int.fdiv_eq_ediv_of_nonneg i (by omega)]; exact q) (.inl (PyProof.noPylong_small (by omega)))
theorem op_fdivN : OpR X (binaryOp .FloorDiv) (rI CDivN fun i j => .int (i.fdiv j)) := opI fun _ _ _ _ _ _ _ hc q => floordiv_int hc.1 q (.inl (PyProof.noPylong_small hc.2))
/-- % by a positive divisor of any size -/
theorem op_mod : OpR X (binaryOp .Mod) (rI (fun _ j => 0 < j) fun i j => .int (i % j)) := opI fun i j _ _ _ _ _ hc q => by
  have h1 : (0 : Int) < j := hc
  exact mod_int' (by omega) (by rw [Int.fmod_eq_emod_of_nonneg i (by omega)]; exact q)
theorem op_modN : OpR X (binaryOp .Mod) (rI (fun _ j => j ≠ 0) fun i j => .int (i.fmod j)) := opI fun _ _ _ _ _ _ _ hc q => mod_int' hc q
theorem op_pow : OpR X (binaryOp .Pow) (rI CPow fun i j => .int (i ^ j.toNat)) := opI fun _ _ _ _ _ _ _ hc q => pow_int_small hc.1 hc.2.1 hc.2.2 q
theorem op_shl : OpR X (binaryOp .LShift) (rI CPow fun i j => .int (i * 2 ^ j.toNat)) := opI fun _ _ _ _ _ _ _ hc q => lshift_int_small hc.1 hc.2.1 hc.2.2 q
theorem op_shr : OpR X (binaryOp .RShift) (rI (fun _ j => 0 ≤ j) fun i j => .int (i / 2 ^ j.toNat)) := opI fun i j _ _ _ _ _ hc q =>
  rshift_int hc (by rw [Int.fdiv_eq_ediv_of_nonneg i (two_pow_nn _)]; exact q)
theorem op_and : OpR X (binaryOp .BitAnd) (rI0 fun i j => .int (Builtin.bitAnd i j)) := opI0 fun _ _ _ _ _ _ _ q => and_int q
theorem op_or : OpR X (binaryOp .BitOr) (rI0 fun i j => .int (Builtin.bitOr i j)) := opI0 fun _ _ _ _ _ _ _ q => or_int q
theorem op_xor : OpR X (binaryOp .BitXor) (rI0 fun i j => .int (Builtin.bitXor i j)) := opI0 fun _ _ _ _ _ _ _ q => xor_int q

theorem iop_add : OpR X (inplaceOp .Add) (rI0 fun i j => .int (i + j)) := opI0 fun _ _ _ _ _ _ _ q => iadd_int q
theorem iop_sub : OpR X (inplaceOp .Sub) (rI0 fun i j => .int (i - j)) := opI0 fun _ _ _ _ _ _ _ q => isub_int q
theorem iop_mul : OpR X (inplaceOp .Mult) (rI CMul fun i j => .int (i * j)) := opI fun _ _ _ _ _ _ _ hc q => imul_int q hc.ok
theorem iop_fdiv : OpR X (inplaceOp .FloorDiv) (rI CDiv fun i j => .int (i / j)) := opI fun i j _ _ _ _ _ hc q => by
  have h1 : (0 : Int) < j := hc.1
  have h2 : j < 1073741824 := hc.2
  exact ifloordiv_int (by omega) (by rw [Int.fdiv_eq_ediv_of_nonneg i (by omega)]; exact q) (.inl (PyProof.noPylong_small (by omega)))
theorem iop_mod : OpR X (inplaceOp .Mod) (rI (fun _ j => 0 < j) fun i j => .int (i % j)) := opI fun i j _ _ _ _ _ hc q => by
  have h1 : (0 : Int) < j := hc
  exact imod_int (by omega) (by rw [Int.fmod_eq_emod_of_nonneg i (by omega)]; exact q)
theorem iop_shl : OpR X (inplaceOp .LShift) (rI CPow fun i j => .int (i * 2 ^ j.toNat)) := opI fun _ _ _ _ _ _ _ hc q => ilshift_int_small hc.1 hc.2.1 hc.2.2 q
theorem iop_shr : OpR X (inplaceOp .RShift) (rI (fun _ j => 0 ≤ j) fun i j => .int (i / 2 ^ j.toNat)) := opI fun i j _ _ _ _ _ hc q =>
  irshift_int hc (by rw [Int.fdiv_eq_ediv_of_nonneg i (two_pow_nn _)]; exact q)
theorem iop_and : OpR X (inplaceOp .BitAnd) (rI0 fun i j => .int (Builtin.bitAnd i j)) := opI0 fun _ _ _ _ _ _ _ q => iand_int q
theorem iop_or : OpR X (inplaceOp .BitOr) (rI0 fun i j => .int (Builtin.bitOr i j)) := opI0 fun _ _ _ _ _ _ _ q => ior_int q
theorem iop_xor : OpR X (inplaceOp .BitXor) (rI0 fun i j => .int (Builtin.bitXor i j)) := opI0 fun _ _ _ _ _ _ _ q => ixor_int q

theorem unI {f : Value → Sem Value} {g : Int → Int}
    (rule : ∀ (i : Int) (t : Tok) (s : Shared) (Q : Value → Shared → Prop) (E : Value → Shared → Prop), Q (.int (g i) s.toks) { s with toks := s.toks + 1 } → wpAny (model X.prog X.w) X.A (f (.int i t)) Q E s) :
    UnR X f (rU fun i => .int (g i)) := by
  intro pins s σ H x v Q I rx h
  obtain ⟨i, rfl, q⟩ := h
  obtain ⟨t, rfl⟩ := rx
  exact rule i t s _ _ ⟨.int (g i), H, I.tok _, ⟨_, rfl⟩, q⟩
theorem un_neg : UnR X (unaryOp .USub) (rU fun i => .int (-i)) := unI fun _ _ _ _ _ q => neg_int q
theorem un_inv : UnR X (unaryOp .Invert) (rU fun i => .int (Builtin.bitNot i)) := unI fun _ _ _ _ _ q => invert_int q

/-! ### bools among ints: n += (a < b) -/
theorem op_add_ib : OpR X (binaryOp .Add) (fun x y H Q => ∃ i k, x = .int i ∧ y = .bl k ∧ Q (.int (i + b2i k)) H) := by
  intro pins s σ H x y v u Q I rx ry h
  obtain ⟨i, k, rfl, rfl, q⟩ := h
  obtain ⟨t, rfl⟩ := rx
  cases ry
  exact add_int_bool ⟨.int (i + b2i k), H, I.tok _, ⟨_, rfl⟩, q⟩
end

/-! ### comparisons -/
/-- the scalars that == tells apart as data does -/
def scal : V → V → Bool
  | .non, .non => true | .non, .int _ => true | .int _, .non => true | .non, .bl _ => true | .bl _, .non => true | .non, .str _ => true | .str _, .non => true
  | .int _, .int _ => true | .bl _, .bl _ => true | .str _, .str _ => true | .byt _, .byt _ => true
  | .int _, .str _ => true | .str _, .int _ => true | .bl _, .str _ => true | .str _, .bl _ => true
  | _, _ => false
def rEq : R2 := fun x y H Q => scal x y = true ∧ Q (.bl (decide (x = y))) H
def rNe : R2 := fun x y H Q => scal x y = true ∧ Q (.bl (!decide (x = y))) H

theorem dec_int {i j : Int} : decide (V.int i = V.int j) = (i == j) := by
  rw [Bool.eq_iff_iff]
  simp
theorem dec_bl {i j : Bool} : decide (V.bl i = V.bl j) = (i == j) := by
  rw [Bool.eq_iff_iff]
  simp
theorem dec_str {i j : Str} : decide (V.str i = V.str j) = (i == j) := by
  rw [Bool.eq_iff_iff]
  simp
theorem dec_byt {i j : Array UInt8} : decide (V.byt i = V.byt j) = (i.toList == j.toList) := by
  rw [Bool.eq_iff_iff]
  cases i
  cases j
  simp

section
variable {X : Cx} {a b c : Expr} {ta tb tc : TE} {pos : Pos}
theorem fin_bl {pins : List (Addr × Obj)} {σ : St} {H : Hp} {s : Shared} {Q : VK} {k k' : Bool} (I : Inv X pins σ H s) (q : Q (.bl k) H) (e : k = k') : EP X pins σ Q (.bool k') s := by
  subst e
  exact ⟨.bl k, H, I, rfl, q⟩
theorem op_eq : OpR X (compareOp .Eq) rEq := by
  intro pins s σ H x y v u Q I rx ry h
  obtain ⟨hs, q⟩ := h
  cases x with
  | non =>
    cases rx
    cases y with
    | non => cases ry; exact PySem.EqNone.eq_none_none (fin_bl I q (by simp))
    | bl j => cases ry; exact PySem.EqNone.eq_none_bool (fin_bl I q (by simp))
    | int j => obtain ⟨t', rfl⟩ := ry; exact PySem.EqNone.eq_none_int (fin_bl I q (by simp))
    | str j => obtain ⟨t', rfl⟩ := ry; exact PySem.EqNone.eq_none_str (fin_bl I q (by simp))
    | _ => exact absurd (show false = true from hs) Bool.false_ne_true
  | bl i =>
    cases rx
    cases y with
    | non => cases ry; exact PySem.EqNone.eq_bool_none (fin_bl I q (by simp))
    | bl j => cases ry; exact eq_bool (fin_bl I q dec_bl)
    | str j => obtain ⟨t', rfl⟩ := ry; exact PySem.EqMixed.eq_bool_str (fin_bl I q (by simp))
    | _ => exact absurd (show false = true from hs) Bool.false_ne_true
  | int i =>
    obtain ⟨t, rfl⟩ := rx
    cases y with
    | non => cases ry; exact PySem.EqNone.eq_int_none (fin_bl I q (by simp))
    | int j => obtain ⟨t', rfl⟩ := ry; exact eq_int (fin_bl I q dec_int)
    | str j => obtain ⟨t', rfl⟩ := ry; exact PySem.EqMixed.eq_int_str (fin_bl I q (by simp))
    | _ => exact absurd (show false = true from hs) Bool.false_ne_true
  | str i =>
    obtain ⟨t, rfl⟩ := rx
    cases y with
    | non => cases ry; exact PySem.EqNone.eq_str_none (fin_bl I q (by simp))
    | bl j => cases ry; exact PySem.EqMixed.eq_str_bool (fin_bl I q (by simp))
    | int j => obtain ⟨t', rfl⟩ := ry; exact PySem.EqMixed.eq_str_int (fin_bl I q (by simp))
    | str j => obtain ⟨t', rfl⟩ := ry; exact eq_str (fin_bl I q dec_str)
    | _ => exact absurd (show false = true from hs) Bool.false_ne_true
  | byt i =>
    obtain ⟨t, rfl⟩ := rx
    cases y with
    | byt j => obtain ⟨t', rfl⟩ := ry; exact PySem.W.eq_bytes (fin_bl I q dec_byt)
    | _ => exact absurd (show false = true from hs) Bool.false_ne_true
  | _ => cases y <;> exact absurd (show false = true from hs) Bool.false_ne_true
theorem op_ne : OpR X (compareOp .NotEq) rNe := by
  intro pins s σ H x y v u Q I rx ry h
  obtain ⟨hs, q⟩ := h
  cases x with
  | non =>
    cases rx
    cases y with
    | non => cases ry; exact PySem.EqNone.ne_none_none (fin_bl I q (by simp))
    | bl j => cases ry; exact PySem.EqNone.ne_none_bool (fin_bl I q (by simp))
    | int j => obtain ⟨t', rfl⟩ := ry; exact PySem.EqNone.ne_none_int (fin_bl I q (by simp))
    | str j => obtain ⟨t', rfl⟩ := ry; exact PySem.EqNone.ne_none_str (fin_bl I q (by simp))
    | _ => exact absurd (show false = true from hs) Bool.false_ne_true
  | bl i =>
    cases rx
    cases y with
    | non => cases ry; exact PySem.EqNone.ne_bool_none (fin_bl I q (by simp))
    | bl j => cases ry; exact ne_bool (fin_bl I q (congrArg not dec_bl))
    | str j => obtain ⟨t', rfl⟩ := ry; exact PySem.EqMixed.ne_bool_str (fin_bl I q (by simp))
    | _ => exact absurd (show false = true from hs) Bool.false_ne_true
  | int i =>
    obtain ⟨t, rfl⟩ := rx
    cases y with
    | non => cases ry; exact PySem.EqNone.ne_int_none (fin_bl I q (by simp))
    | int j => obtain ⟨t', rfl⟩ := ry; exact ne_int (fin_bl I q (congrArg not dec_int))
    | str j => obtain ⟨t', rfl⟩ := ry; exact PySem.EqMixed.ne_int_str (fin_bl I q (by simp))
    | _ => exact absurd (show false = true from hs) Bool.false_ne_true
  | str i =>
    obtain ⟨t, rfl⟩ := rx
    cases y with
    | non => cases ry; exact PySem.EqNone.ne_str_none (fin_bl I q (by simp))
    | bl j => cases ry; exact PySem.EqMixed.ne_str_bool (fin_bl I q (by simp))
    | int j => obtain ⟨t', rfl⟩ := ry; exact PySem.EqMixed.ne_str_int (fin_bl I q (by simp))
    | str j => obtain ⟨t', rfl⟩ := ry; exact ne_str (fin_bl I q (congrArg not dec_str))
    | _ => exact absurd (show false = true from hs) Bool.false_ne_true
  | byt i =>
    obtain ⟨t, rfl⟩ := rx
    cases y with
    | byt j => obtain ⟨t', rfl⟩ := ry; exact PySem.W.ne_bytes (fin_bl I q (congrArg not dec_byt))
    | _ => exact absurd (show false = true from hs) Bool.false_ne_true
  | _ => cases y <;> exact absurd (show false = true from hs) Bool.false_ne_true

theorem op_lt : OpR X (compareOp .Lt) (rI0 fun i j => .bl (decide (i < j))) := opB0 fun _ _ _ _ _ _ _ q => lt_int q
theorem op_le : OpR X (compareOp .LtE) (rI0 fun i j => .bl (decide (i ≤ j))) := opB0 fun _ _ _ _ _ _ _ q => le_int q
theorem op_gt : OpR X (compareOp .Gt) (rI0 fun i j => .bl (decide (j < i))) := opB0 fun _ _ _ _ _ _ _ q => gt_int q
theorem op_ge : OpR X (compareOp .GtE) (rI0 fun i j => .bl (decide (j ≤ i))) := opB0 fun _ _ _ _ _ _ _ q => ge_int q
theorem op_lt_str : OpR X (compareOp .Lt) (fun x y H Q => ∃ i j, x = .str i ∧ y = .str j ∧ Q (.bl (decide (i.cps.toList < j.cps.toList))) H) := by
  intro pins s σ H x y v u Q I rx ry h
  obtain ⟨i, j, rfl, rfl, q⟩ := h
  obtain ⟨t, rfl⟩ := rx
  obtain ⟨t', rfl⟩ := ry
  exact lt_str (fin_bl I q rfl)
/-- the one string within the other -/
theorem op_in_str : OpR X (compareOp .In) (fun x y H Q => ∃ i j, x = .str i ∧ y = .str j ∧ Q (.bl (!(Builtin.Str.occurrences j i 0 j.length 1).isEmpty)) H) := by
  intro pins s σ H x y v u Q I rx ry h
  obtain ⟨i, j, rfl, rfl, q⟩ := h
  obtain ⟨t, rfl⟩ := rx
  obtain ⟨t', rfl⟩ := ry
  exact in_str (fin_bl I q rfl)

/-- is None, is not None: the right side a value none -/
theorem op_isN : OpR X (compareOp .Is) (fun x y H Q => y = .non ∧ Q (.bl (decide (x = .non))) H) := by
  intro pins s σ H x y v u Q I rx ry h
  obtain ⟨rfl, q⟩ := h
  cases ry
  refine is_none_gen (fin_bl I q ?_)
  cases x <;> first
    | (cases rx; rfl)
    | (obtain ⟨t, rfl⟩ := rx; rfl)
theorem op_notN : OpR X (compareOp .IsNot) (fun x y H Q => y = .non ∧ Q (.bl (!decide (x = .non))) H) := by
  intro pins s σ H x y v u Q I rx ry h
  obtain ⟨rfl, q⟩ := h
  cases ry
  refine isnot_none_gen (fin_bl I q ?_)
  cases x <;> first
    | (cases rx; rfl)
    | (obtain ⟨t, rfl⟩ := rx; rfl)

theorem op_notin_str : OpR X (compareOp .NotIn) (fun x y H Q => ∃ i j, x = .str i ∧ y = .str j ∧ Q (.bl (!(!(Builtin.Str.occurrences j i 0 j.length 1).isEmpty))) H) := by
  intro pins s σ H x y v u Q I rx ry h
  obtain ⟨i, j, rfl, rfl, q⟩ := h
  obtain ⟨t, rfl⟩ := rx
  obtain ⟨t', rfl⟩ := ry
  exact notIn_str (fin_bl I q rfl)
/-- is, is not of two objects that are tracked lists or instances -/
def isObj : HO → Bool
  | .lst _ => true
  | .ins _ _ _ => true
  | _ => false
theorem obj_there {pins : List (Addr × Obj)} {s : Shared} {σ : St} {H : Hp} {a : Addr} {o : HO} (I : Inv X pins σ H s) (h : H a = some o) (p : isObj o = true) : ∃ ob, s.heap.get? a = some ob ∧ ob.cls ≠ .type "tuple" := by
  cases o with
  | lst xs =>
    obtain ⟨_, its, n, _, e⟩ : xs.length ≤ sizeLine ∧ ∃ (its : List Value) (n : Nat), Vals xs its ∧ s.heap.get? a = some { cls := .type "list", data := .seq its.toArray n } := I.hok a _ h
    exact ⟨_, e, (by show Value.type "list" ≠ .type "tuple"; decide +kernel)⟩
  | ins C dx fs =>
    have x := I.hok a _ h
    obtain ⟨_, _, _, e, _⟩ := x
    exact ⟨_, e, (by show Value.ref C ≠ .type "tuple"; exact fun z => by cases z)⟩
  | _ => exact absurd (show false = true from p) Bool.false_ne_true
theorem op_is_ref : OpR X (compareOp .Is) (fun x y H Q => ∃ a b oa ob, x = .ref a ∧ y = .ref b ∧ H a = some oa ∧ isObj oa = true ∧ H b = some ob ∧ isObj ob = true ∧ Q (.bl (decide (a = b))) H) := by
  intro pins s σ H x y v u Q I rx ry h
  obtain ⟨a, b, oa, ob, rfl, rfl, ha, pa, hb, pb, q⟩ := h
  cases rx
  cases ry
  obtain ⟨o1, e1, n1⟩ := obj_there I ha pa
  obtain ⟨o2, e2, _⟩ := obj_there I hb pb
  by_cases z : a = b
  · subst z
    exact wpAny_is_ref_self (fin_bl I q (by simp))
  · exact wpAny_is_ref_other z e1 e2 n1 (fin_bl I q (by simp [z]))
theorem op_isnot_ref : OpR X (compareOp .IsNot) (fun x y H Q => ∃ a b oa ob, x = .ref a ∧ y = .ref b ∧ H a = some oa ∧ isObj oa = true ∧ H b = some ob ∧ isObj ob = true ∧ Q (.bl (!decide (a = b))) H) := by
  intro pins s σ H x y v u Q I rx ry h
  obtain ⟨a, b, oa, ob, rfl, rfl, ha, pa, hb, pb, q⟩ := h
  cases rx
  cases ry
  obtain ⟨o1, e1, n1⟩ := obj_there I ha pa
  obtain ⟨o2, e2, _⟩ := obj_there I hb pb
  by_cases z : a = b
  · subst z
    exact wpAny_isNot_ref_self (fin_bl I q (by simp))
  · exact wpAny_isNot_ref_other z e1 e2 n1 (fin_bl I q (by simp [z]))

/-- two rules for one operation: by cases -/
theorem OpR.or {f : Value → Value → Sem Value} {r r' : R2} (h : OpR X f r) (h' : OpR X f r') : OpR X f (fun x y H Q => r x y H Q ∨ r' x y H Q) := by
  intro pins s σ H x y v u Q I rx ry q
  rcases q with q | q
  · exact h pins s σ H x y v u Q I rx ry q
  · exact h' pins s σ H x y v u Q I rx ry q

theorem nomark (b : Expr) {op : CmpOp} (h : op ≠ .In := by decide) (h2 : op ≠ .NotIn := by decide) : behindInMarks op b = false := by
  have e1 : (op == CmpOp.In) = false := by cases op <;> first | rfl | exact absurd rfl h
  have e2 : (op == CmpOp.NotIn) = false := by cases op <;> first | rfl | exact absurd rfl h2
  cases b <;> simp [behindInMarks, e1, e2]
/-- a comparison as a value; hm: nomark b, or (for in, not in) by with_unfolding_all rfl -/
theorem pe_cmpR {op : CmpOp} {r : R2} (ho : OpR X (compareOp op) r) (ha : PE X a ta) (hb : PE X b tb) (hm : behindInMarks op b = false) : PE X (.Compare a [op] [b] pos) (tOp r ta tb) := by
  intro pins s σ H Q I h
  exact wpAny_Compare1 (binT ha hb I h fun v u s2 x y H2 I2 rx ry q => ho pins s2 σ H2 x y v u Q I2 rx ry q) hm
/-- a reading of a value as a test -/
def tTest (t : TE) : TT := fun σ H Q => t σ H fun x H' => ∃ k, x = .bl k ∧ Q k H'
theorem pt_cmpR {op : CmpOp} {r : R2} (ho : OpR X (compareOp op) r) (ha : PE X a ta) (hb : PE X b tb) (hm : behindInMarks op b = false) : PT X (.Compare a [op] [b] pos) (tTest (tOp r ta tb)) := by
  intro pins s σ H Q I h
  refine wpAny_isTrue_Compare1 (thn (ha pins s σ H _ I h) fun v s1 ⟨x, H1, I1, r1, q1⟩ => thn (hb pins s1 σ H1 _ I1 q1) fun u s2 ⟨y, H2, I2, r2, q2⟩ =>
    thn (ho pins s2 σ H2 x y v u _ I2 r1 r2 q2) fun c s3 ⟨z, H3, I3, r3, k, e, q3⟩ => ?_) hm
  subst e
  cases r3
  exact wpAny_truthy_bool ⟨H3, I3, q3⟩
/-- a op1 b op2 c -/
def tChain (r r' : R2) (ta tb tc : TE) : TE := fun σ H Q => ta σ H fun x H1 => tb σ H1 fun y H2 => r x y H2 fun z H3 => ∃ k, z = .bl k ∧
  (if k = true then tc σ H3 fun w' H4 => r' y w' H4 Q else Q (.bl false) H3)
theorem pe_chain {op op' : CmpOp} {r r' : R2} (ho : OpR X (compareOp op) r) (ho' : OpR X (compareOp op') r') (ha : PE X a ta) (hb : PE X b tb) (hc : PE X c tc)
    (hm : lastMarks [op, op'] [b, c] = false := by with_unfolding_all rfl) : PE X (.Compare a [op, op'] [b, c] pos) (tChain r r' ta tb tc) := by
  intro pins s σ H Q I h
  refine Compare_chain (thn (ha pins s σ H _ I h) fun v s1 ⟨x, H1, I1, r1, q1⟩ => chain_link (thn (hb pins s1 σ H1 _ I1 q1) fun u s2 ⟨y, H2, I2, r2, q2⟩ =>
    thn (ho pins s2 σ H2 x y v u _ I2 r1 r2 q2) fun d s3 ⟨z, H3, I3, r3, k, e, q3⟩ => ?_)) hm
  subst e
  cases r3
  refine wpAny_truthy_bool ?_
  cases k with
  | false => exact ite_ff ⟨.bl false, H3, I3, rfl, q3⟩
  | true => exact ite_tt (chain_last (thn (hc pins s3 σ H3 _ I3 q3) fun w' s4 ⟨z', H4, I4, r4, q4⟩ => ho' pins s4 σ H4 y z' u w' Q I4 r2 r4 q4))
theorem pt_chain {op op' : CmpOp} {r r' : R2} (ho : OpR X (compareOp op) r) (ho' : OpR X (compareOp op') r') (ha : PE X a ta) (hb : PE X b tb) (hc : PE X c tc)
    (hm : lastMarks [op, op'] [b, c] = false := by with_unfolding_all rfl) : PT X (.Compare a [op, op'] [b, c] pos) (tTest (tChain r r' ta tb tc)) := by
  intro pins s σ H Q I h
  refine isTrue_chain (thn (ha pins s σ H _ I h) fun v s1 ⟨x, H1, I1, r1, q1⟩ => test_link (thn (hb pins s1 σ H1 _ I1 q1) fun u s2 ⟨y, H2, I2, r2, q2⟩ =>
    thn (ho pins s2 σ H2 x y v u _ I2 r1 r2 q2) fun d s3 ⟨z, H3, I3, r3, k, e, q3⟩ => ?_)) hm
  subst e
  cases r3
  refine wpAny_truthy_bool ?_
  cases k with
  | false =>
    obtain ⟨k', e', q'⟩ := q3
    cases e'
    exact ite_ff ⟨H3, I3, q'⟩
  | true =>
    refine ite_tt (test_last (thn (hc pins s3 σ H3 _ I3 q3) fun w' s4 ⟨z', H4, I4, r4, q4⟩ => thn (ho' pins s4 σ H4 y z' u w' _ I4 r2 r4 q4) fun d' s5 ⟨z2, H5, I5, r5, k2, e2, q5⟩ => ?_))
    subst e2
    cases r5
    exact wpAny_truthy_bool ⟨H5, I5, q5⟩

/-! ### truth -/
/-- a value's truth by the abstract heap -/
def TruV (K : PySem.W.Frag) (x : V) (H : Hp) (k : Bool) : Prop :=
  match x with
  | .non => k = false
  | .bl b => k = b
  | .int i => k = (i != 0)
  | .str y => y.length ≤ sizeLine ∧ k = ((y.length : Int) != 0)
  | .byt y => y.size ≤ sizeLine ∧ k = ((y.size : Int) != 0)
  | .ref p => (∃ xs, SqL K H p xs ∧ k = !xs.isEmpty) ∨ (∃ xs, SqT K H p xs ∧ k = !xs.isEmpty) ∨ ∃ kvs, H p = some (.dK kvs) ∧ k = !kvs.isEmpty
  | _ => False
theorem isEmpty_kv {κ : Type} {kvs : List (κ × V)} {vs : List (κ × Value)} (r : KV kvs vs) : (!vs.isEmpty) = !kvs.isEmpty := by
  cases r <;> rfl
theorem isEmpty_of {xs : List V} {its : List Value} (r : Vals xs its) : (!its.toArray.isEmpty) = !xs.isEmpty := by
  cases r <;> simp
theorem line63 : (sizeLine : Nat) < 2 ^ 63 := by rw [sizeLine_eq]; decide
theorem tru_ok : TruR X (fun x H Q => ∃ k, TruV X.K x H k ∧ Q k H) := by
  intro pins s σ H x v Q I rx h
  obtain ⟨k, e, q⟩ := h
  have hl := line63
  have hs : sizeLine = 16777216 := sizeLine_eq
  cases x with
  | non =>
    cases rx
    have e' : k = false := e
    subst e'
    exact truthy_none ⟨H, I, q⟩
  | bl b =>
    cases rx
    have e' : k = b := e
    subst e'
    exact wpAny_truthy_bool ⟨H, I, q⟩
  | int i =>
    obtain ⟨t, rfl⟩ := rx
    have e' : k = (i != 0) := e
    subst e'
    exact PySem.P.truthy_int ⟨H, I, q⟩
  | str y =>
    obtain ⟨t, rfl⟩ := rx
    obtain ⟨hy, e'⟩ : y.length ≤ sizeLine ∧ k = ((y.length : Int) != 0) := e
    subst e'
    exact PySem.P.truthy_str (by omega) ⟨H, I.tok _, q⟩
  | byt y =>
    obtain ⟨t, rfl⟩ := rx
    obtain ⟨hy, e'⟩ : y.size ≤ sizeLine ∧ k = ((y.size : Int) != 0) := e
    subst e'
    exact PySem.W.truthy_bytes (by omega) ⟨H, I.tok _, q⟩
  | ref p =>
    cases rx
    have e' : (∃ xs, SqL X.K H p xs ∧ k = !xs.isEmpty) ∨ (∃ xs, SqT X.K H p xs ∧ k = !xs.isEmpty) ∨ ∃ kvs, H p = some (.dK kvs) ∧ k = !kvs.isEmpty := e
    rcases e' with ⟨xs, hx, e'⟩ | ⟨xs, hx, e'⟩ | ⟨kvs, hx, e'⟩
    · subst e'
      obtain ⟨its, r, pl, hz⟩ := I.list hx
      have hlen := r.length
      exact wpAny_truthy_list pl.isList (by simp only [List.size_toArray]; omega) ⟨H, I.tok _, by rw [isEmpty_of r]; exact q⟩
    · subst e'
      obtain ⟨its, r, pl, hz⟩ := I.tuple hx
      have hlen := r.length
      exact truthy_tuple pl (by simp only [List.size_toArray]; omega) ⟨H, I.tok _, by rw [isEmpty_of r]; exact q⟩
    · subst e'
      obtain ⟨hz, hS, vs, r, m⟩ : kvs.length ≤ sizeLine ∧ (p == sysModules) = false ∧ ∃ vs, KV kvs vs ∧ s.heap.DictOf (mixKind X.prog X.w) p vs := I.hok p _ hx
      have hlen : kvs.length = vs.length := Paired.length r
      exact wpAny_truthy_dict hS m (by omega) ⟨H, I.tok _, by rw [isEmpty_kv r]; exact q⟩
  | _ => exact (show False from e).elim
/-- any expression whose test is its value's truth (a name, a call, a subscript, a field ..: he by fun _ => rfl) -/
theorem pt_truth (ha : PE X a ta) (he : ∀ whole, isTrue a X.env whole = (do let v ← whole; standAt a.pos; holding [v] (truthy v))) :
    PT X a (fun σ H Q => ta σ H fun x H' => ∃ k, TruV X.K x H' k ∧ Q k H') := by
  intro pins s σ H Q I h
  exact isTrue_plain (thn (ha pins s σ H _ I h) fun v s1 ⟨x, H1, I1, r1, q1⟩ => tru_ok pins s1 σ H1 x v Q I1 r1 q1) (he _)

/-! ### strs and bytes -/
theorem pe_byt {x : List UInt8} {k : Nat} : PE X (.Constant (.bytes x) k pos) (fun _ H Q => Q (.byt x.toArray) H) := fun _ _ _ H _ I h => PySem.W.Constant_bytes ⟨.byt x.toArray, H, I.tok _, ⟨_, rfl⟩, h⟩
theorem op_add_str : OpR X (binaryOp .Add) (fun x y H Q => ∃ i j, x = .str i ∧ y = .str j ∧ i.length + j.length ≤ sizeLine ∧ Q (.str (i ++ j)) H) := by
  intro pins s σ H x y v u Q I rx ry h
  obtain ⟨i, j, rfl, rfl, hz, q⟩ := h
  obtain ⟨t, rfl⟩ := rx
  obtain ⟨t', rfl⟩ := ry
  exact add_str (fun t' tk => ⟨.str (i ++ j), H, I.tok _, ⟨_, rfl⟩, q⟩) hz
theorem iop_add_str : OpR X (inplaceOp .Add) (fun x y H Q => ∃ i j, x = .str i ∧ y = .str j ∧ i.length + j.length ≤ sizeLine ∧ Q (.str (i ++ j)) H) := by
  intro pins s σ H x y v u Q I rx ry h
  obtain ⟨i, j, rfl, rfl, hz, q⟩ := h
  obtain ⟨t, rfl⟩ := rx
  obtain ⟨t', rfl⟩ := ry
  exact iadd_str (fun t' tk => ⟨.str (i ++ j), H, I.tok _, ⟨_, rfl⟩, q⟩) hz
theorem op_add_byt : OpR X (binaryOp .Add) (fun x y H Q => ∃ i j, x = .byt i ∧ y = .byt j ∧ i.size + j.size ≤ 16777216 ∧ Q (.byt (i ++ j)) H) := by
  intro pins s σ H x y v u Q I rx ry h
  obtain ⟨i, j, rfl, rfl, hz, q⟩ := h
  obtain ⟨t, rfl⟩ := rx
  obtain ⟨t', rfl⟩ := ry
  exact PySem.W.KBy.add_bytes hz (fun t' tk => ⟨.byt (i ++ j), H, I.tok _, ⟨_, rfl⟩, q⟩)

def PlainIxT (b : Expr) : Prop := ∀ o i, subscripted b false o i = operate [o, i] (getItem o i)
/-- s[i], 0 ≤ i < len -/
theorem pe_item_str (ha : PE X a ta) (hb : PE X b tb) (hs : PlainIxT b) :
    PE X (.Subscript a b pos) (tOp (fun x y H Q => ∃ z i c, x = .str z ∧ y = .int i ∧ 0 ≤ i ∧ i < 2 ^ 63 ∧ i < z.length ∧ z.cps[i.toNat]? = some c ∧ Q (.str ⟨#[c]⟩) H) ta tb) := by
  intro pins s σ H Q I h
  refine Subscript_ (binT ha hb I h fun v u s2 x y H2 I2 rx ry q => ?_)
  obtain ⟨z, i, c, rfl, rfl, h0, h63, h1, hc, q⟩ := q
  obtain ⟨t, rfl⟩ := rx
  obtain ⟨t', rfl⟩ := ry
  have e : seqIndex? i z.length = some i.toNat := PySem.StrLaws.seqIndex_nonneg h0 h1
  exact tail_any (typeIs_str s2 z t) slot_str_getitem.lookup (getItem_str (c := c) (by
    have e1 : decide (i < -(2 ^ 63 : Int)) = false := decide_eq_false (by omega)
    have e2 : decide (i ≥ 2 ^ 63) = false := decide_eq_false (by omega)
    rw [e1, e2] <;> rfl) (by rw [e]; exact hc) ⟨.str ⟨#[c]⟩, H2, I2.tok _, ⟨_, rfl⟩, q⟩) (hs _ _)
/-- b[i], 0 ≤ i < len -/
theorem pe_item_byt (ha : PE X a ta) (hb : PE X b tb) (hs : PlainIxT b) :
    PE X (.Subscript a b pos) (tOp (fun x y H Q => ∃ (z : List UInt8) (i : Int), x = .byt z.toArray ∧ y = .int i ∧ z.length ≤ sizeLine ∧ 0 ≤ i ∧ i < z.length ∧ Q (.int ((z.getD i.toNat 0).toNat : Nat)) H) ta tb) := by
  intro pins s σ H Q I h
  refine Subscript_ (binT ha hb I h fun v u s2 x y H2 I2 rx ry q => ?_)
  obtain ⟨z, i, rfl, rfl, hz, h0, h1, q⟩ := q
  obtain ⟨t, rfl⟩ := rx
  obtain ⟨t', rfl⟩ := ry
  have hl : sizeLine = 16777216 := sizeLine_eq
  exact tail_any (PySem.W.typeIs_bytes s2 z.toArray t) PySem.W.FB.slot_bytes_getitem.lookup (PySem.W.getItem_bytes (by omega) h0 h1 ⟨.int ((z.getD i.toNat 0).toNat : Nat), H2, I2.tok _, ⟨_, rfl⟩, q⟩) (hs _ _)

/-! ### scalar builtins, by CallR -/
theorem vals1 {x : V} {us : List Value} (r : Vals [x] us) : ∃ u, us = [u] ∧ RelV x u := by
  cases r with
  | cons r1 r2 => cases r2; exact ⟨_, rfl, r1⟩
theorem vals2 {x y : V} {us : List Value} (r : Vals [x, y] us) : ∃ u w', us = [u, w'] ∧ RelV x u ∧ RelV y w' := by
  cases r with
  | cons r1 r2 =>
    cases r2 with
    | cons r3 r4 => cases r4; exact ⟨_, _, rfl, r1, r3⟩
theorem call_abs : CallR X (.builtin "abs") (fun xs H Q => ∃ i, xs = [.int i] ∧ Q (.int (if i < 0 then -i else i)) H) := by
  intro pins s σ H xs us Q I r h
  obtain ⟨i, rfl, q⟩ := h
  obtain ⟨u, rfl, t, rfl⟩ := vals1 r
  exact call_abs_int fun u tk => ⟨.int (if i < 0 then -i else i), H, I.tok _, ⟨_, rfl⟩, q⟩
theorem call_max2 (hc : X.calm = true) : CallR X (.builtin "max") (fun xs H Q => ∃ i j, xs = [.int i, .int j] ∧ Q (.int (if j > i then j else i)) H) := by
  intro pins s σ H xs us Q I r h
  obtain ⟨i, j, rfl, q⟩ := h
  obtain ⟨u, w', rfl, ⟨t, rfl⟩, ⟨t', rfl⟩⟩ := vals2 r
  refine max_two_ints (I.ok.hd hc) fun h' tk k => ⟨_, H, I.kept k, ?_, q⟩
  by_cases hj : j > i
  · rw [if_pos hj, if_pos hj]; exact ⟨_, rfl⟩
  · rw [if_neg hj, if_neg hj]; exact ⟨_, rfl⟩
theorem call_min2 (hc : X.calm = true) : CallR X (.builtin "min") (fun xs H Q => ∃ i j, xs = [.int i, .int j] ∧ Q (.int (if j < i then j else i)) H) := by
  intro pins s σ H xs us Q I r h
  obtain ⟨i, j, rfl, q⟩ := h
  obtain ⟨u, w', rfl, ⟨t, rfl⟩, ⟨t', rfl⟩⟩ := vals2 r
  refine min_two_ints (I.ok.hd hc) fun h' tk k => ⟨_, H, I.kept k, ?_, q⟩
  by_cases hj : j < i
  · rw [if_pos hj, if_pos hj]; exact ⟨_, rfl⟩
  · rw [if_neg hj, if_neg hj]; exact ⟨_, rfl⟩
theorem call_int1 : CallR X (.type "int") (fun xs H Q => (∃ i, xs = [.int i] ∧ Q (.int i) H) ∨ ∃ k, xs = [.bl k] ∧ Q (.int (if k then 1 else 0)) H) := by
  intro pins s σ H xs us Q I r h
  rcases h with ⟨i, rfl, q⟩ | ⟨k, rfl, q⟩
  · obtain ⟨u, rfl, t, rfl⟩ := vals1 r
    exact call_int_int ⟨.int i, H, I, ⟨_, rfl⟩, q⟩
  · obtain ⟨u, rfl, r1⟩ := vals1 r
    cases r1
    exact call_int_bool ⟨.int (if k then 1 else 0), H, I.tok _, ⟨_, rfl⟩, q⟩
theorem call_bool1 : CallR X (.type "bool") (fun xs H Q => (∃ i, xs = [.int i] ∧ Q (.bl (i != 0)) H) ∨ ∃ k, xs = [.bl k] ∧ Q (.bl k) H) := by
  intro pins s σ H xs us Q I r h
  rcases h with ⟨i, rfl, q⟩ | ⟨k, rfl, q⟩
  · obtain ⟨u, rfl, t, rfl⟩ := vals1 r
    exact call_bool_int ⟨.bl (i != 0), H, I, rfl, q⟩
  · obtain ⟨u, rfl, r1⟩ := vals1 r
    cases r1
    exact call_bool_bool ⟨.bl k, H, I, rfl, q⟩
theorem call_str_int : CallR X (.type "str") (fun xs H Q => ∃ i, xs = [.int i] ∧ i.natAbs.log2 < 1920 ∧ Q (.str (toString i)) H) := by
  intro pins s σ H xs us Q I r h
  obtain ⟨i, rfl, hz, q⟩ := h
  obtain ⟨u, rfl, t, rfl⟩ := vals1 r
  exact PySem.P.str_of_int hz ⟨.str _, H, I.tok _, ⟨_, rfl⟩, q⟩
theorem call_ord : CallR X (.builtin "ord") (fun xs H Q => ∃ x, xs = [.str x] ∧ x.length = 1 ∧ Q (.int (x.cps.getD 0 0 : Nat)) H) := by
  intro pins s σ H xs us Q I r h
  obtain ⟨x, rfl, hz, q⟩ := h
  obtain ⟨u, rfl, t, rfl⟩ := vals1 r
  exact ord_of_one hz ⟨.int _, H, I.tok _, ⟨_, rfl⟩, q⟩
theorem call_chr : CallR X (.builtin "chr") (fun xs H Q => ∃ i, xs = [.int i] ∧ 0 ≤ i ∧ i ≤ 1114111 ∧ Q (.str ⟨#[i.toNat]⟩) H) := by
  intro pins s σ H xs us Q I r h
  obtain ⟨i, rfl, h0, h1, q⟩ := h
  obtain ⟨u, rfl, t, rfl⟩ := vals1 r
  exact chr_of_range h0 h1 ⟨.str _, H, I.tok _, ⟨_, rfl⟩, q⟩
/-- len of a str, a bytes, a list, a tuple -/
def LenV (K : PySem.W.Frag) (x : V) (H : Hp) (n : Nat) : Prop :=
  match x with
  | .str y => y.length ≤ sizeLine ∧ n = y.length
  | .byt y => y.size ≤ sizeLine ∧ n = y.size
  | .ref p => (∃ xs, SqL K H p xs ∧ n = xs.length) ∨ ∃ xs, SqT K H p xs ∧ n = xs.length
  | _ => False
theorem call_len : CallR X (.builtin "len") (fun xs H Q => ∃ x n, xs = [x] ∧ LenV X.K x H n ∧ Q (.int n) H) := by
  intro pins s σ H xs us Q I r h
  obtain ⟨x, n, rfl, e, q⟩ := h
  obtain ⟨u, rfl, rx⟩ := vals1 r
  have hl := line63
  have hs : sizeLine = 16777216 := sizeLine_eq
  cases x with
  | str y =>
    obtain ⟨t, rfl⟩ := rx
    obtain ⟨hy, e'⟩ : y.length ≤ sizeLine ∧ n = y.length := e
    subst e'
    exact len_str (by omega) ⟨.int _, H, I.tok _, ⟨_, rfl⟩, q⟩
  | byt y =>
    obtain ⟨t, rfl⟩ := rx
    obtain ⟨hy, e'⟩ : y.size ≤ sizeLine ∧ n = y.size := e
    subst e'
    exact PySem.W.len_bytes (by omega) ⟨.int _, H, I.tok _, ⟨_, rfl⟩, q⟩
  | ref p =>
    cases rx
    have e' : (∃ xs, SqL X.K H p xs ∧ n = xs.length) ∨ ∃ xs, SqT X.K H p xs ∧ n = xs.length := e
    rcases e' with ⟨xs, hx, e'⟩ | ⟨xs, hx, e'⟩
    · subst e'
      obtain ⟨its, r', pl, hz⟩ := I.list hx
      have hlen := r'.length
      exact Calls.call_len_list pl.isList (by simp only [List.size_toArray]; omega) ⟨.int xs.length, H, I.tok _, ⟨_, by simp only [List.size_toArray]; rw [hlen]⟩, q⟩
    · subst e'
      obtain ⟨its, r', pl, hz⟩ := I.tuple hx
      have hlen := r'.length
      exact len_tuple pl (by simp only [List.size_toArray]; omega) ⟨.int xs.length, H, I.tok _, ⟨_, by simp only [List.size_toArray]; rw [hlen]⟩, q⟩
  | _ => exact (show False from e).elim
/-- divmod: a new tuple -/
theorem call_divmod : CallR X (.builtin "divmod") (fun xs H Q => ∃ i j, xs = [.int i, .int j] ∧ CDiv i j ∧ ∀ p, H p = none → Q (.ref p) (upd H p (.tup [.int (i / j), .int (i % j)]))) := by
  intro pins s σ H xs us Q I r h
  obtain ⟨i, j, rfl, ⟨h1, h2⟩, q⟩ := h
  obtain ⟨u, w', rfl, ⟨t, rfl⟩, ⟨t', rfl⟩⟩ := vals2 r
  refine divmod_int (by omega) ?_ (.inl (PyProof.noPylong_small (by omega)))
  rw [Int.fdiv_eq_ediv_of_nonneg i (by omega), Int.fmod_eq_emod_of_nonneg i (by omega)]
  have hn : H s.heap.objs.size = none := I.hok.fresh (Nat.le_refl _)
  refine ⟨.ref s.heap.objs.size, _, ?_, rfl, q _ hn⟩
  refine I.laid (fun b o e => Heap.get?_push_of_some _ e) (Nat.le_refl _) ⟨by simp only [List.length_cons, List.length_nil]; rw [sizeLine_eq]; decide, [.int (i / j) s.toks, .int (i % j) (s.toks + 1)], .cons ⟨_, rfl⟩ (.cons ⟨_, rfl⟩ .nil), ?_⟩
  exact ⟨_, Heap.get?_push_size s.heap rfl, rfl, 0, rfl⟩
end
end L2

namespace L2
open PySem PySem.Spec PyProof.Rows

/-! ### an instance, its attributes a map -/
structure ObjM (h : Heap) (x dx C : Addr) (mA : Str → Option Value) : Prop where
  obj : h.get? x = some (PySem.W.instObj C dx)
  ns : h.Ns1 dx mA
  ne : dx ≠ x

theorem lookIn_ns {h : Heap} {dx : Addr} {mA : Str → Option Value} (n : h.Ns1 dx mA) : ∃ od, h.get? dx = some od ∧ ∀ name, PySem.W.lookIn name od = some (mA name) := by
  obtain ⟨o, es, ep, ho, hd, hk, _, hm⟩ := n
  refine ⟨o, ho, fun name => ?_⟩
  have e := hm name
  unfold nsFind findBy at e
  rw [← Array.find?_toList] at e
  unfold PySem.W.lookIn
  rw [hd]
  dsimp only
  split
  · rename_i y q
    rw [q] at e
    exact congrArg some e
  · rename_i q
    rw [q] at e
    have a : es.toList.any (·.refKey) = false := by
      rw [List.any_eq_false]
      intro y hy
      obtain ⟨z, t, hkey⟩ := hk y (Array.mem_toList_iff.mp hy)
      simp [DictEntry.refKey, hkey]
    have a' : ¬ es.toList.any (·.refKey) = true := by rw [a]; exact Bool.false_ne_true
    rw [if_neg a']
    exact congrArg some e

theorem ObjM.look {h : Heap} {x dx C : Addr} {mA : Str → Option Value} (I : ObjM h x dx C mA) : ∃ od, PySem.W.InstAt h x (PySem.W.instObj C dx) C (some od) ∧ ∀ name, PySem.W.lookIn name od = some (mA name) :=
  let ⟨od, ho, hl⟩ := lookIn_ns I.ns
  ⟨od, ⟨I.obj, rfl, rfl, ho⟩, hl⟩

section
variable {prog : Program} {w : World} {A : Around} {E : Value → Shared → Prop} {s : Shared} {K : PySem.W.Frag} {x dx C f : Addr} {mA : Str → Option Value} {name : Str} {v : Value}

theorem get_map {expr : Bool} {Q : Value → Shared → Prop} (X : K.In s.heap) (I : ObjM s.heap x dx C mA) (hg : PySem.W.plainGet K C name = true) (hh : PySem.W.hasDictIn K C = true)
    (ha : PySem.W.findIn K (.ref C) name = some none) (hv : mA name = some v) (hv' : PySem.W.handedIn v = true) (h : Q v { s with toks := s.toks + 1 }) :
    wpAny (model prog w) A (getAttr (.ref x) name expr) Q E s := by
  obtain ⟨od, J, hl⟩ := I.look
  exact PySem.W.get_value X J (PySem.W.plainGet_of hg).1 (PySem.W.findObj_own hh ha rfl (by rw [hl, hv])) hv' h

theorem get_const {expr : Bool} {a : Value} {Q : Value → Shared → Prop} (X : K.In s.heap) (I : ObjM s.heap x dx C mA) (hg : PySem.W.plainGet K C name = true) (hh : PySem.W.hasDictIn K C = true)
    (ha : PySem.W.findIn K (.ref C) name = some (some a)) (hn : PySem.W.specialIn K a "__get__" = some none) (hc : PySem.W.copiedNames.contains name = false) (hv : mA name = none) (hv' : PySem.W.handedIn a = true)
    (h : Q a { s with toks := s.toks + 1 }) : wpAny (model prog w) A (getAttr (.ref x) name expr) Q E s := by
  obtain ⟨od, J, hl⟩ := I.look
  exact PySem.W.get_value X J (PySem.W.plainGet_of hg).1 (PySem.W.findObj_cls hh ha hn hv' hc (by rw [hl, hv])) hv' h

theorem get_meth {pl : Sem Bool} {Q : Value × List Value → Shared → Prop} (X : K.In s.heap) (I : ObjM s.heap x dx C mA) (hg : PySem.W.plainGet K C name = true)
    (hf : PySem.W.findIn K (.ref C) name = some (some (.ref f))) (ht : PySem.W.isFn K (.ref f) = true) (hv : mA name = none) (h : Q (.ref f, [.ref x]) s) :
    wpAny (model prog w) A (getMethod (.ref x) name pl) Q E s := by
  obtain ⟨od, J, hl⟩ := I.look
  exact PySem.W.method_fn X J (PySem.W.plainGet_of hg).1 (PySem.W.plainGet_of hg).2 hf (beq_iff_eq.mp ht) (by show (PySem.W.lookIn name od).map (·.isSome) = some false; rw [hl, hv]; rfl) h

theorem set_map {ns : List Str} {Q : Unit → Shared → Prop} (X : K.In s.heap) (I : ObjM s.heap x dx C mA)
    (hs : PySem.W.findIn K (.ref C) "__setattr__" = some (some (.builtin "object.__setattr__"))) (hp : PySem.W.plainOver K C = true) (ht : PySem.W.takerIn K C name = some none) (hh : PySem.W.hasDictIn K C = true)
    (hw : PySem.Within mA ns) (hsz : ns.length ≤ sizeLine)
    (h : ∀ h', ObjM h' x dx C (fun y => if y = name then some v else mA y) → Heap.SameBut dx s.heap h' → Q () { s with heap := h', toks := s.toks + 2 }) :
    wpAny (model prog w) A (setAttr (.ref x) name v) Q E s := by
  obtain ⟨od, J, hl⟩ := I.look
  refine PySem.W.set_plain X J hs (PySem.W.osa_open (s := { s with toks := s.toks + 1 }) (r := none) X J hp ht fun b => ?_)
  obtain ⟨cd, hc, hd'⟩ := PySem.W.any_some hh
  have hx : s.heap.get? x = some ⟨.ref C, some dx, .plain, #[]⟩ := I.obj
  refine wpAny_bind (wpAny_pure (wpAny_bind (wpAny_bind (wpAny_loadPart hx (wpAny_bind (PySem.W.Looks.here (s := { s with toks := s.toks + 1 }) (PySem.W.looks_clsIn X hc) ?_))))))
  rw [hd']
  refine wpAny_pure (a := some dx) (wpAny_bind (wpAny_pure (wpAny_bind ?_)))
  refine wpAny_nsSet1 (s := { s with toks := s.toks + 1 }) I.ns fun h' hn2 hs2 => ?_
  obtain ⟨oD, esD, epD, hoD, hdD, hcD⟩ := hn2.count (PySem.Within.cons name v hw)
  refine wpAny_bind (wpAny_lookBehind hoD (by rw [hdD]; exact pastItsLine_dict (Nat.le_trans hcD (by rw [List.length_cons]; omega))) ?_)
  exact wpAny_pure (h _ ⟨(hs2.2 _ (Ne.symm I.ne)).trans I.obj, hn2, I.ne⟩ hs2)

/-- C(..): the dict at the heap's end, the instance behind it; then its __init__ -/
theorem make_map {R : Result → Shared → Prop} {vs : List Value} {kw : List (Str × Value)} (X : K.In s.heap) (hm : PySem.W.makesIn K C = true)
    (hi : PySem.W.findIn K (.ref C) "__init__" = some (some (.ref f))) (hf : PySem.W.typeIn K (.ref f) = some (.type "function"))
    (h : codeAny (model prog w) (A.under (.builtin "type.__call__" ⟨.ref C :: vs, kw⟩)) (.call (.ref f) ⟨.ref (s.heap.objs.size + 1) :: vs, kw⟩) (PySem.W.InitBack (s.heap.objs.size + 1) R)
      { s with heap := (s.heap.push PySem.W.emptyDict).push (PySem.W.instObj C s.heap.objs.size) }) :
    codeAny (model prog w) A (.call (.ref C) ⟨vs, kw⟩) R s := by
  obtain ⟨hh, g, d, t, os⟩ := s
  exact PySem.W.make_core (PySem.W.makes_of X hm) (PySem.W.looks_findIn X hi) (fun self => PySem.W.bind_fn X self hf) (.inl rfl) h
/-- C() where there is no __init__ but object's -/
theorem make_map0 {R : Result → Shared → Prop} (X : K.In s.heap) (hm : PySem.W.makesIn K C = true)
    (hi : PySem.W.findIn K (.ref C) "__init__" = some (some (.builtin "object.__init__")))
    (hb : ∀ self, PySem.W.Looks (model prog w) s.heap (bindSpecial (.builtin "object.__init__") self) (.builtin "object.__init__", [self]))
    (h : codeAny (model prog w) (A.under (.builtin "type.__call__" ⟨[.ref C], []⟩)) (.call (.builtin "object.__init__") ⟨[.ref (s.heap.objs.size + 1)], []⟩) (PySem.W.InitBack (s.heap.objs.size + 1) R)
      { s with heap := (s.heap.push PySem.W.emptyDict).push (PySem.W.instObj C s.heap.objs.size) }) :
    codeAny (model prog w) A (.call (.ref C) ⟨[], []⟩) R s := by
  obtain ⟨hh, g, d, t, os⟩ := s
  exact PySem.W.make_core (PySem.W.makes_of X hm) (PySem.W.looks_findIn X hi) hb (.inr ⟨rfl, rfl⟩) h
end

/-! ### the attributes as a list of pairs -/
def putF (f : Str) (v : V) : List (Str × V) → List (Str × V)
  | [] => [(f, v)]
  | (g, x) :: r => if g = f then (g, v) :: r else (g, x) :: putF f v r
theorem lookup_putF (f g : Str) (v : V) : ∀ fs : List (Str × V), (putF f v fs).lookup g = if g = f then some v else fs.lookup g
  | [] => by
    show List.lookup g [(f, v)] = _
    by_cases h : g = f
    · have hb : (g == f) = true := beq_iff_eq.mpr h
      simp only [List.lookup, hb, if_pos h]
    · have hb : (g == f) = false := beq_eq_false_iff_ne.mpr h
      simp only [List.lookup, hb, if_neg h]
  | (k, x) :: r => by
    have ih := lookup_putF f g v r
    rw [show putF f v ((k, x) :: r) = (if k = f then (k, v) :: r else (k, x) :: putF f v r) from rfl]
    by_cases hk : k = f
    · rw [if_pos hk]
      by_cases h : g = k
      · have hb : (g == k) = true := beq_iff_eq.mpr h
        simp only [List.lookup, hb, if_pos (h.trans hk)]
      · have hb : (g == k) = false := beq_eq_false_iff_ne.mpr h
        simp only [List.lookup, hb, if_neg (fun e : g = f => h (e.trans hk.symm))]
    · rw [if_neg hk]
      by_cases h : g = k
      · have hb : (g == k) = true := beq_iff_eq.mpr h
        simp only [List.lookup, hb, if_neg (fun e : g = f => hk (h.symm.trans e))]
      · have hb : (g == k) = false := beq_eq_false_iff_ne.mpr h
        simp only [List.lookup, hb]
        exact ih
theorem keys_putF (f : Str) (v : V) : ∀ fs : List (Str × V), f ∈ (putF f v fs).map (·.1) ∧ ∀ g, g ∈ fs.map (·.1) → g ∈ (putF f v fs).map (·.1)
  | [] => ⟨by simp [putF], fun g h => by simp at h⟩
  | (k, x) :: r => by
    obtain ⟨i1, i2⟩ := keys_putF f v r
    rw [show putF f v ((k, x) :: r) = (if k = f then (k, v) :: r else (k, x) :: putF f v r) from rfl]
    by_cases hk : k = f
    · rw [if_pos hk]
      subst hk
      exact ⟨by simp, fun g h => by simpa using h⟩
    · rw [if_neg hk]
      refine ⟨?_, fun g h => ?_⟩
      · rw [List.map_cons]
        exact List.mem_cons_of_mem _ i1
      · rw [List.map_cons] at h ⊢
        rcases List.mem_cons.mp h with e | e
        · exact List.mem_cons.mpr (.inl e)
        · exact List.mem_cons_of_mem _ (i2 g e)
theorem length_putF (f : Str) (v : V) : ∀ fs : List (Str × V), (putF f v fs).length ≤ fs.length + 1
  | [] => by simp [putF]
  | (k, x) :: r => by
    have ih := length_putF f v r
    rw [show putF f v ((k, x) :: r) = (if k = f then (k, v) :: r else (k, x) :: putF f v r) from rfl]
    by_cases hk : k = f
    · rw [if_pos hk, List.length_cons, List.length_cons]; omega
    · rw [if_neg hk, List.length_cons, List.length_cons]; omega

theorem RelO.some_of {v : V} {o : Option Value} (r : RelO (some v) o) : ∃ u, o = some u ∧ RelV v u := by
  cases o with
  | none => exact (show False from r).elim
  | some u => exact ⟨u, rfl, r⟩
theorem RelO.none_of {o : Option Value} (r : RelO none o) : o = none := by
  cases o with
  | none => rfl
  | some u => exact (show False from r).elim
theorem handed_of {v : V} {u : Value} (r : RelV v u) : PySem.W.handedIn u = true := by
  cases v with
  | non => cases (show u = Value.none from r); rfl
  | bl b => cases (show u = Value.bool b from r); rfl
  | int i => obtain ⟨t, e⟩ := (show ∃ t, u = Value.int i t from r); cases e; rfl
  | str x => obtain ⟨t, e⟩ := (show ∃ t, u = Value.str x t from r); cases e; rfl
  | byt b => obtain ⟨t, e⟩ := (show ∃ t, u = Value.bytes b t from r); cases e; rfl
  | flt b => obtain ⟨t, e⟩ := (show ∃ t, u = Value.float b t from r); cases e; rfl
  | ref a => cases (show u = Value.ref a from r); rfl
  | ty n => cases (show u = Value.type n from r); rfl

section
variable {P : Program} {w : World} {H H' : Hp} {h h' : Heap} {a C dx : Addr} {fs fs' : List (Str × V)}
theorem ins_get (hok : HOk P w H h) (e : H a = some (.ins C dx fs)) : ∃ mA, ObjM h a dx C mA ∧ (∀ f, RelO (fs.lookup f) (mA f)) ∧ PySem.Within mA (fs.map (·.1)) ∧ fs.length ≤ 1000 ∧ H dx = some (.own a) := by
  obtain ⟨d, z, ne, ob, mA, n, r, q⟩ := (show ObjOk P w H h a (.ins C dx fs) from hok a _ e)
  exact ⟨mA, ⟨ob, n, ne⟩, r, q, z, d⟩
end

/-! ### what of the text a class must have -/
structure Cls (K : PySem.W.Frag) (C : Addr) : Prop where
  pg : PySem.W.plainGet K C Str.empty = true
  hd : PySem.W.hasDictIn K C = true
  po : PySem.W.plainOver K C = true
  sa : PySem.W.findIn K (.ref C) "__setattr__" = some (some (.builtin "object.__setattr__"))
theorem Cls.get {K : PySem.W.Frag} {C : Addr} (c : Cls K C) (f : Str) : PySem.W.plainGet K C f = true := c.pg
/-- no class of it has the name -/
def NoAttr (K : PySem.W.Frag) (C : Addr) (f : Str) : Prop := PySem.W.findIn K (.ref C) f = some none
theorem NoAttr.taker {K : PySem.W.Frag} {C : Addr} {f : Str} (n : NoAttr K C f) : PySem.W.takerIn K C f = some none := by
  unfold PySem.W.takerIn
  rw [show PySem.W.findIn K (.ref C) f = some none from n]
  rfl
/-- a constant of the class -/
structure Con (K : PySem.W.Frag) (C : Addr) (f : Str) (v : V) (u : Value) : Prop where
  at_ : PySem.W.findIn K (.ref C) f = some (some u)
  rel : RelV v u
  get : PySem.W.specialIn K u "__get__" = some none
  cp : PySem.W.copiedNames.contains f = false
/-- a method: a plain def of the class or of one above it -/
structure Meth (K : PySem.W.Frag) (C : Addr) (m : Str) (f : Addr) : Prop where
  at_ : PySem.W.findIn K (.ref C) m = some (some (.ref f))
  fn : PySem.W.isFn K (.ref f) = true
  kp : PySem.W.keepIn K (.ref f) = true

section
variable {X : Cx} {pins : List (Addr × Obj)} {σ : St} {H : Hp} {s : Shared} {a C dx : Addr} {fs : List (Str × V)} {f : Str} {v : V} {A : Around} {E : Value → Shared → Prop}

theorem getattr_ok {b : Bool} {Q : Value → Shared → Prop} (I : Inv X pins σ H s) (e : H a = some (.ins C dx fs)) (c : Cls X.K C) (n : NoAttr X.K C f) (l : fs.lookup f = some v)
    (h : ∀ u s', Inv X pins σ H s' → RelV v u → Q u s') : wpAny (model X.prog X.w) A (getAttr (.ref a) f b) Q E s := by
  obtain ⟨mA, O, r, _, _, _⟩ := ins_get I.hok e
  obtain ⟨u, hu, ru⟩ := RelO.some_of (v := v) (o := mA f) (by rw [← l]; exact r f)
  exact get_map I.kIn O (c.get f) c.hd n hu (handed_of ru) (h u _ (I.tok _) ru)

theorem getcon_ok {b : Bool} {u : Value} {Q : Value → Shared → Prop} (I : Inv X pins σ H s) (e : H a = some (.ins C dx fs)) (c : Cls X.K C) (k : Con X.K C f v u) (l : fs.lookup f = none)
    (h : ∀ s', Inv X pins σ H s' → Q u s') : wpAny (model X.prog X.w) A (getAttr (.ref a) f b) Q E s := by
  obtain ⟨mA, O, r, _, _, _⟩ := ins_get I.hok e
  have hn : mA f = none := RelO.none_of (by rw [← l]; exact r f)
  exact get_const I.kIn O (c.get f) c.hd k.at_ k.get k.cp hn (handed_of k.rel) (h _ (I.tok _))

theorem getmeth_ok {m : Str} {g : Addr} {pl : Sem Bool} {Q : Value × List Value → Shared → Prop} (I : Inv X pins σ H s) (e : H a = some (.ins C dx fs)) (c : Cls X.K C) (k : Meth X.K C m g) (l : fs.lookup m = none)
    (h : Q (.ref g, [.ref a]) s) : wpAny (model X.prog X.w) A (getMethod (.ref a) m pl) Q E s := by
  obtain ⟨mA, O, r, _, _, _⟩ := ins_get I.hok e
  have hn : mA m = none := RelO.none_of (by rw [← l]; exact r m)
  exact get_meth I.kIn O (c.get m) k.at_ k.fn hn h

theorem setattr_ok {y : V} {u : Value} {Q : Unit → Shared → Prop} (I : Inv X pins σ H s) (e : H a = some (.ins C dx fs)) (c : Cls X.K C) (n : NoAttr X.K C f) (hl : fs.length < 1000) (ry : RelV y u)
    (h : ∀ s', Inv X pins σ (upd H a (.ins C dx (putF f y fs))) s' → Q () s') : wpAny (model X.prog X.w) A (setAttr (.ref a) f u) Q E s := by
  obtain ⟨mA, O, r, wi, _, ho⟩ := ins_get I.hok e
  have hz : (fs.map (·.1)).length ≤ sizeLine := by rw [List.length_map, sizeLine_eq]; omega
  refine set_map I.kIn O c.sa c.po n.taker c.hd wi hz fun h' O' sb => h _ ?_
  have hd : ∃ o, h'.get? dx = some o := let ⟨o, _, _, e', _⟩ := O'.ns; ⟨o, e'⟩
  refine I.write (x := a) (e := dx) (by rw [e]; exact True.intro) (.inr ho) (fun b q hb z => (sb.2 b hb).trans z) hd ?_
  refine ⟨by rw [upd_ne O.ne]; exact ho, ?_, O.ne, O'.obj, _, O'.ns, fun g => ?_, fun g hg => ?_⟩
  · have := length_putF f y fs; omega
  · show RelO ((putF f y fs).lookup g) (if g = f then some u else mA g)
    rw [lookup_putF]
    by_cases q : g = f
    · rw [if_pos q, if_pos q]; exact ry
    · rw [if_neg q, if_neg q]; exact r g
  · by_cases q : g = f
    · rw [q]; exact (keys_putF f y fs).1
    · refine (keys_putF f y fs).2 g (wi g fun z => hg ?_)
      show (if g = f then some u else mA g) = none
      rw [if_neg q]; exact z

/-- a new instance, tracked, without attributes -/
theorem Inv.made (I : Inv X pins σ H s) : Inv X pins σ (upd (upd H s.heap.objs.size (.own (s.heap.objs.size + 1))) (s.heap.objs.size + 1) (.ins C s.heap.objs.size []))
    { s with heap := (s.heap.push PySem.W.emptyDict).push (PySem.W.instObj C s.heap.objs.size) } := by
  have e1 : (s.heap.push PySem.W.emptyDict).get? s.heap.objs.size = some PySem.W.emptyDict := Heap.get?_push_size s.heap rfl
  have e2 : ((s.heap.push PySem.W.emptyDict).push (PySem.W.instObj C s.heap.objs.size)).get? (s.heap.objs.size + 1) = some (PySem.W.instObj C s.heap.objs.size) := by
    have := Heap.get?_push_size (s.heap.push PySem.W.emptyDict) (o := PySem.W.instObj C s.heap.objs.size) rfl
    rwa [Heap.size_push] at this
  have e3 : (s.heap.push PySem.W.emptyDict).Ns s.heap.objs.size (fun _ => none) := ⟨PySem.W.emptyDict, #[], _, e1, rfl, (fun e he => absurd he (by simp)), fun _ => rfl⟩
  have I1 := I.laid (a := s.heap.objs.size) (o := .own (s.heap.objs.size + 1)) (h' := s.heap.push PySem.W.emptyDict) (t' := s.toks) (fun b u q => Heap.get?_push_of_some _ q) (Nat.le_refl _) ⟨_, e1⟩
  refine I1.laid (a := s.heap.objs.size + 1) (o := .ins C s.heap.objs.size []) (t' := s.toks) (fun b u q => Heap.get?_push_of_some _ q) (Nat.le_of_eq (Heap.size_push _ _)) ?_
  have ne : s.heap.objs.size ≠ s.heap.objs.size + 1 := Nat.ne_of_lt (Nat.lt_succ_self _)
  refine ⟨by rw [upd_ne ne, upd_same], Nat.zero_le _, ne, e2, fun _ => none, (Heap.Ns1.of_empty e3).at fun o q => Heap.get?_push_of_some _ q, fun _ => True.intro, fun y hy => absurd rfl hy⟩

/-- e.f where nothing but the object is asked: through attributeBase (super) and the last hold -/
theorem attr_of {prog : Program} {w : World} {env : Env} {e : Expr} {f : Str} {pos : Pos} {s : Shared} {Q : Value → Shared → Prop} (hb : attributeBase e f env (eval e env) = eval e env)
    (h : wpAny (model prog w) A (eval e env) (fun o s₁ => wpAny (model prog w) A (getAttr o f true) Q E s₁) E s) : wpAny (model prog w) A (eval (.Attribute e f pos) env) Q E s :=
  Attribute_any_ h (by rw [arm_eval_Attribute, hb])
end

/-! ### readings and rules -/
/-- e.f, an attribute of the instance -/
def tFld (K : PySem.W.Frag) (ta : TE) (f : Str) : TE := fun σ H Q => ta σ H fun x H1 => ∃ a C dx fs v, x = .ref a ∧ H1 a = some (.ins C dx fs) ∧ Cls K C ∧ NoAttr K C f ∧ fs.lookup f = some v ∧ Q v H1
/-- e.f, a constant of the class -/
def tCon (K : PySem.W.Frag) (ta : TE) (f : Str) : TE := fun σ H Q => ta σ H fun x H1 => ∃ a C dx fs v u, x = .ref a ∧ H1 a = some (.ins C dx fs) ∧ Cls K C ∧ Con K C f v u ∧ fs.lookup f = none ∧ Q v H1
/-- e.f = value -/
def sFld (K : PySem.W.Frag) (ta tv : TE) (f : Str) : TS := fun D σ H => tv σ H fun y H1 => ta σ H1 fun x H2 => ∃ a C dx fs, x = .ref a ∧ H2 a = some (.ins C dx fs) ∧ Cls K C ∧ NoAttr K C f ∧ fs.length < 1000 ∧
  D.nx σ (upd H2 a (.ins C dx (putF f y fs)))
/-- an augmented operator on two values -/
def InOp (X : Cx) (op : Operator) (rd : V → V → Hp → VK → Prop) : Prop :=
  ∀ (pins : List (Addr × Obj)) (s : Shared) (σ : St) (H : Hp) (x y : V) (u v : Value) (Q : VK), Inv X pins σ H s → RelV x u → RelV y v → rd x y H Q → wpAny (model X.prog X.w) X.A (inplaceOp op u v) (EP X pins σ Q) X.xe s
/-- e.f op= value -/
def sFldAug (K : PySem.W.Frag) (ta tv : TE) (rd : V → V → Hp → VK → Prop) (f : Str) : TS := fun D σ H => ta σ H fun x H1 => ∃ a C dx fs v, x = .ref a ∧ H1 a = some (.ins C dx fs) ∧ Cls K C ∧ NoAttr K C f ∧ fs.lookup f = some v ∧
  tv σ H1 fun y H2 => rd v y H2 fun z H3 => ∃ dx' fs', H3 a = some (.ins C dx' fs') ∧ fs'.length < 1000 ∧ D.nx σ (upd H3 a (.ins C dx' (putF f z fs')))

section
variable {X : Cx} {o e value : Expr} {f : Str} {pos pos' tpos : Pos} {ta tv : TE}
theorem pe_fld (he : PE X e ta) (hb : attributeBase e f X.env (eval e X.env) = eval e X.env) : PE X (.Attribute e f pos) (tFld X.K ta f) := by
  intro pins s σ H Q I h
  refine attr_of hb (thn (he pins s σ H _ I h) fun u s1 ⟨x, H1, I1, rx, a, C, dx, fs, v, ex, ea, c, n, l, q⟩ => ?_)
  subst ex
  obtain rfl : u = Value.ref a := rx
  exact getattr_ok I1 ea c n l fun u' s2 I2 ru => ⟨v, H1, I2, ru, q⟩
theorem pe_con (he : PE X e ta) (hb : attributeBase e f X.env (eval e X.env) = eval e X.env) : PE X (.Attribute e f pos) (tCon X.K ta f) := by
  intro pins s σ H Q I h
  refine attr_of hb (thn (he pins s σ H _ I h) fun u s1 ⟨x, H1, I1, rx, a, C, dx, fs, v, u0, ex, ea, c, k, l, q⟩ => ?_)
  subst ex
  obtain rfl : u = Value.ref a := rx
  exact getcon_ok I1 ea c k l fun s2 I2 => ⟨v, H1, I2, k.rel, q⟩
theorem ps_fld (ha : PE X o ta) (hv : PE X value tv) (hs : swapsWith value (some (.Attribute o f pos')) pos.line X.env = pure false) : PS X (.Assign [.Attribute o f pos'] value pos) (sFld X.K ta tv f) := by
  intro pins s σ H D I h
  refine plainObj_wpAny_Assign_Attribute (thn (hv pins s σ H _ I h) fun u s1 ⟨y, H1, I1, ry, q⟩ => thn (ha pins s1 σ H1 _ I1 q) fun ov s2 ⟨x, H2, I2, rx, a, C, dx, fs, ex, ea, c, n, l, q2⟩ => ?_) hs
  subst ex
  obtain rfl : ov = Value.ref a := rx
  exact setattr_ok I2 ea c n l ry fun s3 I3 => ⟨σ, _, I3, q2⟩
theorem ps_fldaug {op : Operator} {rd : V → V → Hp → VK → Prop} (ha : PE X o ta) (hv : PE X value tv) (hop : InOp X op rd) : PS X (.AugAssign (.Attribute o f tpos) op value pos) (sFldAug X.K ta tv rd f) := by
  intro pins s σ H D I h
  refine wpAny_AugAssign_AttributeAny (thn (ha pins s σ H _ I h) fun ov s1 ⟨x, H1, I1, rx, a, C, dx, fs, v, ex, ea, c, n, l, q⟩ => ?_)
  subst ex
  obtain rfl : ov = Value.ref a := rx
  refine getattr_ok I1 ea c n l fun u s2 I2 ru => thn (hv pins s2 σ H1 _ I2 q) fun w3 s3 ⟨y, H2, I3, ry, q3⟩ => thn (hop pins s3 σ H2 v y u w3 _ I3 ru ry q3) fun w4 s4 ⟨z, H3, I4, rz, dx', fs', ea', l', q4⟩ => ?_
  exact setattr_ok I4 ea' c n l' rz fun s5 I5 => ⟨σ, _, I5, q4⟩
def rAdd : V → V → Hp → VK → Prop := fun x y H Q => ∃ i j, x = .int i ∧ y = .int j ∧ Q (.int (i + j)) H
def rSub : V → V → Hp → VK → Prop := fun x y H Q => ∃ i j, x = .int i ∧ y = .int j ∧ Q (.int (i - j)) H
theorem in_add : InOp X .Add rAdd := by
  rintro pins s σ H x y u v Q I rx ry ⟨i, j, rfl, rfl, q⟩
  obtain ⟨t, rfl⟩ := (show ∃ t, u = Value.int i t from rx)
  obtain ⟨t', rfl⟩ := (show ∃ t', v = Value.int j t' from ry)
  exact PyProof.Rows.iadd_int ⟨.int (i + j), H, I.tok _, ⟨_, rfl⟩, q⟩
theorem in_sub : InOp X .Sub rSub := by
  rintro pins s σ H x y u v Q I rx ry ⟨i, j, rfl, rfl, q⟩
  obtain ⟨t, rfl⟩ := (show ∃ t, u = Value.int i t from rx)
  obtain ⟨t', rfl⟩ := (show ∃ t', v = Value.int j t' from ry)
  exact PyProof.Rows.isub_int ⟨.int (i - j), H, I.tok _, ⟨_, rfl⟩, q⟩

/-- what is between an instance and its method: the tree of a method call -/
theorem methcall_of {pl : Sem Bool} {m : Str} {apos : Pos} {args : List Expr} {pins : List (Addr × Obj)} {s : Shared} {σ : St} {H : Hp} {Q : Value → Shared → Prop} {te : TE} (he : PE X e te) (I : Inv X pins σ H s)
    (h : te σ H fun x H1 => ∃ a C dx fs g, x = .ref a ∧ H1 a = some (.ins C dx fs) ∧ Cls X.K C ∧ Meth X.K C m g ∧ fs.lookup m = none ∧
      ∀ s1, Inv X pins σ H1 s1 → wpAny (model X.prog X.w) X.A (callWith pos (.ref g) [.ref a] (backTo pos (starEach args X.env)) (backToKw pos (keywordEach [] X.env))) Q X.xe s1)
    (ht : eval (.Call (.Attribute e m apos) args [] pos) X.env = (do
      let ov ← eval e X.env
      standAt apos.atName
      let (f, first) ← holding [ov] (getMethod ov m pl)
      callWith pos f first (backTo pos (starEach args X.env)) (backToKw pos (keywordEach [] X.env)))) :
    wpAny (model X.prog X.w) X.A (eval (.Call (.Attribute e m apos) args [] pos) X.env) Q X.xe s := by
  refine PySem.W.methodCall_KW (pl := pl) (thn (he pins s σ H _ I h) fun u s1 ⟨x, H1, I1, rx, a, C, dx, fs, g, ex, ea, c, k, l, q⟩ => ?_) ht
  subst ex
  obtain rfl : u = Value.ref a := rx
  exact getmeth_ok I1 ea c k l (q s1 I1)
end

/-! ### isinstance -/
section
variable {X : Cx} {pins : List (Addr × Obj)} {σ : St} {H : Hp} {s : Shared} {A : Around} {E : Value → Shared → Prop} {Q : Value → Shared → Prop} {c : Value} {b : Bool}
/-- the type of a value, as the fragment's deciders take it; for an instance its class -/
inductive TyOf (K : PySem.W.Frag) (H : Hp) : V → Value → Prop where
  | non : TyOf K H .non (.type "NoneType")
  | bl (x : Bool) : TyOf K H (.bl x) (.type "bool")
  | int (i : Int) : TyOf K H (.int i) (.type "int")
  | str (x : Str) : TyOf K H (.str x) (.type "str")
  | flt (x : UInt64) : TyOf K H (.flt x) (.type "float")
  | lst {a : Addr} {xs : List V} (e : H a = some (.lst xs)) : TyOf K H (.ref a) (.type "list")
  | frz {a : Addr} {o : Obj} {xs : List V} (e : H a = some (.frz o (.lst xs))) : TyOf K H (.ref a) (.type "list")
  | tup {a : Addr} {xs : List V} (e : H a = some (.tup xs)) : TyOf K H (.ref a) (.type "tuple")
  | dK {a : Addr} {kvs : List (Key × V)} (e : H a = some (.dK kvs)) : TyOf K H (.ref a) (.type "dict")
  | dT {a : Addr} {kvs : List (List Key × V)} (e : H a = some (.dT kvs)) : TyOf K H (.ref a) (.type "dict")
  | ins {a C dx : Addr} {fs : List (Str × V)} (e : H a = some (.ins C dx fs)) (cl : Cls K C) (ha : PySem.W.findIn K (.ref C) "__class__" = some (some (.builtin "object.__class__")))
      (hn : PySem.W.specialIn K (.builtin "object.__class__") "__get__" = some (some (.builtin "getset_descriptor.__get__"))) (htk : PySem.W.takesIn K (.builtin "object.__class__") = some true)
      (hm : PySem.W.mroIn K C (.type "object") = some true) : TyOf K H (.ref a) (.ref C)
/-- isinstance(x, c) for one class c, a built-in or an own one: kitOne's answer -/
theorem isinst_ok {x : V} {u t : Value} (I : Inv X pins σ H s) (rx : RelV x u) (ty : TyOf X.K H x t) (e : PySem.W.kitOne X.K t c = some b) (h : ∀ tk, Q (.bool b) { s with toks := tk }) :
    wpAny (model X.prog X.w) A (call (.builtin "isinstance") [u, c]) Q E s := by
  cases ty with
  | non => cases (show u = Value.none from rx); exact PySem.W.kia_one PySem.W.kitx_none I.kIn True.intro e (fun z => nomatch z) h
  | bl y => cases (show u = Value.bool y from rx); exact PySem.W.kia_one PySem.W.kitx_bool I.kIn True.intro e (fun z => nomatch z) h
  | int i => obtain ⟨t, q⟩ := (show ∃ t, u = Value.int i t from rx); cases q; exact PySem.W.kia_one PySem.W.kitx_int I.kIn True.intro e (fun z => nomatch z) h
  | str y => obtain ⟨t, q⟩ := (show ∃ t, u = Value.str y t from rx); cases q; exact PySem.W.kia_one PySem.W.kitx_str I.kIn True.intro e (fun z => nomatch z) h
  | flt y => obtain ⟨t, q⟩ := (show ∃ t, u = Value.float y t from rx); cases q; exact PySem.W.kia_one PySem.W.kitx_float I.kIn True.intro e (fun z => nomatch z) h
  | @lst a xs ea =>
    cases (show u = Value.ref a from rx)
    obtain ⟨_, _, n, _, h1⟩ := (show ObjOk X.prog X.w H s.heap a (.lst xs) from I.hok a _ ea)
    exact PySem.W.kia_one PySem.W.kitx_list I.kIn ⟨_, h1, rfl⟩ e (fun z => nomatch z) h
  | @frz a ob xs ea =>
    cases (show u = Value.ref a from rx)
    obtain ⟨_, _, _, n, _, h1⟩ := (show ObjOk X.prog X.w H s.heap a (.frz ob (.lst xs)) from I.hok a _ ea)
    exact PySem.W.kia_one PySem.W.kitx_list I.kIn ⟨_, h1, rfl⟩ e (fun z => nomatch z) h
  | @tup a xs ea =>
    cases (show u = Value.ref a from rx)
    obtain ⟨_, _, _, p⟩ := (show ObjOk X.prog X.w H s.heap a (.tup xs) from I.hok a _ ea)
    obtain ⟨o, h1, h2, _⟩ := p
    exact PySem.W.kia_one PySem.W.kitx_tuple I.kIn ⟨o, h1, h2⟩ e (fun z => nomatch z) h
  | @dK a kvs ea =>
    cases (show u = Value.ref a from rx)
    obtain ⟨_, _, vs, _, p⟩ := (show ObjOk X.prog X.w H s.heap a (.dK kvs) from I.hok a _ ea)
    obtain ⟨o, es, ep, h1, h2, _⟩ := p
    exact PySem.W.kia_one PySem.W.kitx_dict I.kIn ⟨o, h1, h2.1⟩ e (fun z => nomatch z) h
  | @dT a kvs ea =>
    cases (show u = Value.ref a from rx)
    obtain ⟨_, _, xs, _, o, es, ep, h1, h2, _⟩ := (show ObjOk X.prog X.w H s.heap a (.dT kvs) from I.hok a _ ea)
    exact PySem.W.kia_one PySem.W.kitx_dict I.kIn ⟨o, h1, h2.1⟩ e (fun z => nomatch z) h
  | @ins a C dx fs ea cl ha hn htk hm =>
    cases (show u = Value.ref a from rx)
    obtain ⟨mA, O, _⟩ := ins_get I.hok ea
    obtain ⟨od, J, _⟩ := O.look
    exact PySem.W.kia_one (PySem.W.kitx_own (cl.get _) cl.hd ha hn htk hm) I.kIn J e (fun z => nomatch z) h
end
end L2

namespace L2
open PySem PySem.Spec PyProof.Rows

/-! ### room -/
structure Room (k : Nat) (A : Around) : Prop where
  hd : A.handled = none
  dp : A.depth + 3 * k + 5 < recursionLimit
  un : A.units + 16 * k + 200 < cLine
theorem Room.mono {j k : Nat} {A : Around} (r : Room k A) (h : j ≤ k) : Room j A := ⟨r.hd, by have := r.dp; omega, by have := r.un; omega⟩
theorem Room.deeper {k : Nat} {A : Around} (r : Room (k + 1) A) (env : Env) : Room k (A.deeper env) :=
  ⟨r.hd, by have := r.dp; show A.depth + 1 + 3 * k + 5 < _; omega, by have := r.un; show A.units + 3 + 16 * k + 200 < _; omega⟩
theorem Room.in1 {k : Nat} {A : Around} (r : Room (k + 1) A) : Room k A.in1 :=
  ⟨r.hd, by have := r.dp; show A.depth + 3 * k + 5 < _; omega, by have := r.un; show A.units + 1 + 16 * k + 200 < _; omega⟩
theorem make_depth {A : Around} {C : Addr} {us : List Value} {kw : List (Str × Value)} : (A.under (.builtin "type.__call__" ⟨.ref C :: us, kw⟩)).depth = A.depth + 1 := by
  first | rfl | simp [Around.under, Code.weight, Code.isCreation, Code.isGuard, Code.isCaller, Code.frames, Code.isFrame, guardIds]
theorem make_units {A : Around} {C : Addr} {us : List Value} {kw : List (Str × Value)} : (A.under (.builtin "type.__call__" ⟨.ref C :: us, kw⟩)).units = A.units + 1 := by
  first | rfl | simp [Around.under, Code.cUnits, Code.frames, Code.isFrame]
theorem Room.make {k : Nat} {A : Around} (r : Room (k + 1) A) (C : Addr) (us : List Value) (kw : List (Str × Value)) : Room k (A.under (.builtin "type.__call__" ⟨.ref C :: us, kw⟩)) :=
  ⟨r.hd, by have := r.dp; rw [make_depth]; omega, by have := r.un; rw [make_units]; omega⟩
theorem Room.depth {k : Nat} {A : Around} (r : Room k A) : A.depth < recursionLimit := by have := r.dp; omega
theorem Room.units {k : Nat} {A : Around} (r : Room k A) : A.units + 64 < cLine := by have := r.un; omega
theorem Room.units0 {k : Nat} {A : Around} (r : Room k A) : A.units < cLine := by have := r.un; omega

/-! ### argument lists and displays -/
def tNil : TA := fun _ H Q => Q [] H
def tCons (ta : TE) (tr : TA) : TA := fun σ H Q => ta σ H fun x H1 => tr σ H1 fun xs H2 => Q (x :: xs) H2
section
variable {X : Cx} {e : Expr} {es : List Expr} {te : TE} {t : TA} {pos : Pos}
theorem pa_nil : PA X [] tNil := fun _ _ _ _ H Q I h => Calls.spliced_nil ⟨[], H, I, .nil, h⟩
theorem pa_cons (ha : PE X e te) (hr : PA X es t) (hs : starEach (e :: es) X.env = (false, eval e X.env) :: starEach es X.env := by rfl) : PA X (e :: es) (tCons te t) := by
  intro pos pins s σ H Q I h
  rw [hs]
  show wpAny _ _ (spliced ((false, eval e X.env) :: backTo pos (starEach es X.env))) _ _ s
  refine Calls.spliced_cons (thn (ha pins s σ H _ I h) fun u s1 ⟨x, H1, I1, r1, q1⟩ => ?_)
  exact thn (hr pos pins s1 σ H1 _ I1 q1) fun us s2 ⟨xs, H2, I2, r2, q2⟩ => ⟨x :: xs, H2, I2, .cons r1 r2, q2⟩

/-- a tuple, a list of written items -/
def tTup (t : TA) : TE := fun σ H Q => t σ H fun xs H1 => xs.length ≤ sizeLine ∧ ∀ p, H1 p = none → Q (.ref p) (upd H1 p (.tup xs))
def tLst (t : TA) : TE := fun σ H Q => t σ H fun xs H1 => xs.length ≤ sizeLine ∧ ∀ p, H1 p = none → Q (.ref p) (upd H1 p (.lst xs))
theorem pe_tup {x1} (h : PA X es t) : PE X (.Tuple es x1 pos) (tTup t) := by
  intro pins s σ H Q I hq
  refine wpAny_Tuple_spliced (thn (h pos pins s σ H _ I hq) fun us s1 ⟨xs, H1, I1, r, z, q⟩ => ⟨by rw [← r.length]; exact z, ?_⟩)
  have hf : H1 s1.heap.objs.size = none := I1.hok.fresh (Nat.le_refl _)
  refine ⟨.ref s1.heap.objs.size, upd H1 s1.heap.objs.size (.tup xs), I1.laid (t' := s1.toks) (fun b u e => Heap.get?_push_of_some _ e) (Nat.le_refl _) ?_, rfl, q _ hf⟩
  exact ⟨z, us, r, ⟨_, Heap.get?_push_size _ rfl, rfl, _, rfl⟩⟩
theorem pe_lst (h : PA X es t) : PE X (.List es pos) (tLst t) := by
  intro pins s σ H Q I hq
  refine wpAny_List_spliced (thn (h pos pins s σ H _ I hq) fun us s1 ⟨xs, H1, I1, r, z, q⟩ => ⟨by rw [← r.length]; exact z, ?_⟩)
  have hf : H1 s1.heap.objs.size = none := I1.hok.fresh (Nat.le_refl _)
  refine ⟨.ref s1.heap.objs.size, upd H1 s1.heap.objs.size (.lst xs), I1.laid (t' := s1.toks) (fun b u e => Heap.get?_push_of_some _ e) (Nat.le_refl _) ?_, rfl, q _ hf⟩
  exact ⟨z, us, 0, r, Heap.get?_push_size _ rfl⟩
end

/-! ### what a def promises -/
/-- a def's promise: the bound arguments in the parameters' order, the heap, the wanted end, the wanted exception -/
abbrev Sp := List V → Hp → VK → XK → Prop
/-- how an exception lies behind a call (file 08 gives it): the callers' frames, abstract heap and state ahead of the call, the wish, the exception, the state -/
abbrev CXT := List Env → Hp → Shared → XK → Value → Shared → Prop

/-- the state at a call -/
structure Env0 (P : Program) (w : World) (K : PySem.W.Frag) (mg : Str → Option Value) (base : Heap) (A : Around) (outer : List Env) (s : Shared) (H : Hp) : Prop where
  frames : A.frames = some outer
  mod : Mod K mg base
  bs : ∀ b o, base.get? b = some o → s.heap.get? b = some o ∧ H b = none
  bsz : base.objs.size ≤ s.heap.objs.size
  funs : s.heap.FunFrames base outer
  frf : ∀ b ∈ frs outer, H b = none
  hok : HOk P w H s.heap
  bare : AllBare s.gens
/-- a call's end -/
def CE (outer : List Env) (P : Program) (w : World) (H : Hp) (s : Shared) (Q : VK) (u : Value) (s' : Shared) : Prop :=
  ∃ v H', s'.os = s.os ∧ AllBare s'.gens ∧ Un (frs outer) [] H H' s.heap s'.heap ∧ HOk P w H' s'.heap ∧ RelV v u ∧ Q v H'
def CR (CX : CXT) (outer : List Env) (P : Program) (w : World) (H : Hp) (s : Shared) (Q : VK) (E : XK) (r : Result) (s' : Shared) : Prop :=
  match r with
  | .ok (.ret u) => CE outer P w H s Q u s'
  | .ok _ => False
  | .error e => CX outer H s E e s'
structure FnOk (P : Program) (w : World) (K : PySem.W.Frag) (mg : Str → Option Value) (base : Heap) (CX : CXT) (k : Nat) (f : Addr) (fd : FuncData) (ps : List Str) (sp : Sp) : Prop where
  len : ∀ vs H Q E, sp vs H Q E → vs.length = ps.length
  run : ∀ (A : Around) (outer : List Env) (s : Shared) (H : Hp) (args : Args) (us : List Value) (vs : List V) (Q : VK) (E : XK), Room k A → Env0 P w K mg base A outer s H → BindsTo s fd args (ps.zip us) → Vals vs us → sp vs H Q E →
    codeAny (model P w) A (.call (.ref f) args) (CR CX outer P w H s Q E) s
theorem FnOk.mono {P : Program} {w : World} {K : PySem.W.Frag} {mg : Str → Option Value} {base : Heap} {CX : CXT} {j k : Nat} {f : Addr} {fd : FuncData} {ps : List Str} {sp : Sp} (F : FnOk P w K mg base CX j f fd ps sp) (h : j ≤ k) :
    FnOk P w K mg base CX k f fd ps sp := ⟨F.len, fun A outer s H args us vs Q E hr => F.run A outer s H args us vs Q E (hr.mono h)⟩
/-- a weaker promise -/
theorem FnOk.imp {P : Program} {w : World} {K : PySem.W.Frag} {mg : Str → Option Value} {base : Heap} {CX : CXT} {k : Nat} {f : Addr} {fd : FuncData} {ps : List Str} {sp sp' : Sp} (F : FnOk P w K mg base CX k f fd ps sp)
    (h : ∀ vs H Q E, sp' vs H Q E → sp vs H Q E) : FnOk P w K mg base CX k f fd ps sp' :=
  ⟨fun vs H Q E q => F.len vs H Q E (h _ _ _ _ q), fun A outer s H args us vs Q E hr he hb hv hs => F.run A outer s H args us vs Q E hr he hb hv (h _ _ _ _ hs)⟩

theorem Env0.make {P : Program} {w : World} {K : PySem.W.Frag} {mg : Str → Option Value} {base : Heap} {A : Around} {outer : List Env} {s : Shared} {H : Hp} (e : Env0 P w K mg base A outer s H) (C : Addr) (us : List Value) (kw : List (Str × Value)) :
    Env0 P w K mg base (A.under (.builtin "type.__call__" ⟨.ref C :: us, kw⟩)) outer s H := ⟨by first | exact e.frames | (simpa [Around.under, Code.envs, Code.isFrame, pushEnvs] using e.frames), e.mod, e.bs, e.bsz, e.funs, e.frf, e.hok, e.bare⟩
theorem Env0.in1 {P : Program} {w : World} {K : PySem.W.Frag} {mg : Str → Option Value} {base : Heap} {A : Around} {outer : List Env} {s : Shared} {H : Hp} (e : Env0 P w K mg base A outer s H) :
    Env0 P w K mg base A.in1 outer s H := ⟨e.frames, e.mod, e.bs, e.bsz, e.funs, e.frf, e.hok, e.bare⟩

section
variable {X : Cx} {pins : List (Addr × Obj)} {σ : St} {H : Hp} {s s' : Shared}
/-- from a body: what a callee wants -/
theorem Inv.env0 (I : Inv X pins σ H s) : Env0 X.prog X.w X.K X.mg X.base X.A X.stack s H :=
  ⟨I.ok.frames, I.ok.mod, I.bs, Nat.le_trans I.ok.bsz I.sz, I.stack, I.stkFree, I.hok, I.bare⟩
/-- behind a call -/
theorem Inv.after {Q : VK} {u : Value} (I : Inv X pins σ H s) (h : CE X.stack X.prog X.w H s Q u s') : EP X pins σ Q u s' := by
  obtain ⟨v, H', os, bare, un, hok, r, q⟩ := h
  obtain ⟨hh, g, d, t, os'⟩ := s'
  obtain rfl : os' = s.os := os
  exact ⟨v, H', I.call (h' := hh) (g' := g) (d' := d) (t' := t) (ch := []) un hok bare (fun b z => absurd z (by simp)), r, q⟩
end

/-! ### calls -/
/-- f(..): the written arguments, then the defaults dvs; E: what is wanted of an exception -/
def tCall (sp : Sp) (dvs : List V) (E : XK) (t : TA) : TE := fun σ H Q => t σ H fun vs H1 => sp (vs ++ dvs) H1 Q E
/-- o.m(..) of an instance of the class at C -/
def tMeth (C : Addr) (m : Str) (sp : Sp) (dvs : List V) (E : XK) (ta : TE) (t : TA) : TE := fun σ H Q => ta σ H fun x H1 => ∃ a dx fs, x = .ref a ∧ H1 a = some (.ins C dx fs) ∧ fs.lookup m = none ∧
  t σ H1 fun vs H2 => sp (x :: (vs ++ dvs)) H2 Q E
/-- C(..): a new instance and its dict, then __init__ -/
def tMake (C : Addr) (sp : Sp) (dvs : List V) (E : XK) (t : TA) : TE := fun σ H Q => t σ H fun vs H1 => ∀ x dx, H1 x = none → H1 dx = none → dx ≠ x →
  sp (.ref x :: (vs ++ dvs)) (upd (upd H1 dx (.own x)) x (.ins C dx [])) (fun v H2 => v = .non ∧ Q (.ref x) H2) E

/-- how the parameters are bound: us the positional arguments, kw the keywords' values by name, ds the defaults that fill up -/
def Binds (K : PySem.W.Frag) (fd : FuncData) (ps : List Str) (ds : List Value) : Prop :=
  ∀ (s : Shared) (us : List Value), K.In s.heap → (us ++ ds).length = ps.length → BindsTo s fd ⟨us, []⟩ (ps.zip (us ++ ds))
/-- every parameter is given -/
theorem Binds.all {K : PySem.W.Frag} {fd : FuncData} {ps : List Str} (h : ∀ us : List Value, us.length = ps.length → bindArgs fd ⟨us, []⟩ = pure (ps.zip us)) : Binds K fd ps [] := fun s us _ hl => by
  rw [List.append_nil] at hl ⊢
  exact .of_eq (h us hl)

/-- an exception of a callee reaches what this body wants of exceptions -/
def Passes (CX : CXT) (X : Cx) (E : XK) : Prop := ∀ (pins : List (Addr × Obj)) (σ : St) (H : Hp) (s : Shared) (e : Value) (s' : Shared), Inv X pins σ H s → CX X.stack H s E e s' → X.xe e s'

section
variable {X : Cx} {CX : CXT} {k : Nat} {f C : Addr} {fd : FuncData} {ps : List Str} {sp : Sp} {dvs : List V} {ds : List Value} {E : XK} {x m : Str} {p pos apos : Pos} {e o : Expr} {es : List Expr} {ta : TE} {t : TA}

/-- the callee runs -/
theorem run_fn {pins : List (Addr × Obj)} {σ : St} {H : Hp} {s : Shared} {Q : VK} {us : List Value} {vs : List V} (F : FnOk X.prog X.w X.K X.mg X.base CX k f fd ps sp) (hr : Room k X.A) (hb : Binds X.K fd ps ds) (hd : Vals dvs ds) (hx : Passes CX X E)
    (I : Inv X pins σ H s) (r : Vals vs us) (h : sp (vs ++ dvs) H Q E) : wpAny (model X.prog X.w) X.A (call (.ref f) us) (EP X pins σ Q) X.xe s := by
  have r2 : Vals (vs ++ dvs) (us ++ ds) := r.append hd
  have hl : (us ++ ds).length = ps.length := by rw [← r2.length]; exact F.len _ _ _ _ h
  refine wpAny_call (codeAny_mono (F.run X.A X.stack s H ⟨us, []⟩ (us ++ ds) (vs ++ dvs) Q E hr I.env0 (hb s us I.kIn hl) r2 h) fun r s' hq => ?_)
  cases r with
  | error e => exact hx pins σ H s e s' I hq
  | ok fl =>
    cases fl with
    | ret u => exact I.after hq
    | next => exact False.elim hq
    | brk => exact False.elim hq
    | cont => exact False.elim hq

theorem pe_call (F : FnOk X.prog X.w X.K X.mg X.base CX k f fd ps sp) (hr : Room k X.A) (hg : Gl X x) (hm : X.mg x = some (.ref f)) (hk : PySem.W.keepIn X.K (.ref f) = true) (hb : Binds X.K fd ps ds) (hd : Vals dvs ds) (hx : Passes CX X E)
    (ha : PA X (e :: es) t) (hdb : (x == ("__debug__" : Str)) = false := by decide) (he : starEach (e :: es) X.env = (false, eval e X.env) :: starEach es X.env := by rfl) (hpl : (backTo pos (starEach es X.env)).any (·.1) = false := by rfl) :
    PE X (.Call (.Name x p) (e :: es) [] pos) (tCall sp dvs E t) := by
  intro pins s σ H Q I h
  refine wpAny_Call_Name_kw (ld_glob I hg hm ?_ hdb)
  refine PySem.W.callWith_K (h₀ := X.base) I.ok.mod.kin hk (thn (ha pos pins s σ H _ I h) fun us s1 ⟨vs, H1, I1, r, q⟩ => ⟨I1.kIn, ?_⟩) he hpl
  exact run_fn F hr hb hd hx I1 r q
theorem pe_call0 (F : FnOk X.prog X.w X.K X.mg X.base CX k f fd ps sp) (hr : Room k X.A) (hg : Gl X x) (hm : X.mg x = some (.ref f)) (hk : PySem.W.keepIn X.K (.ref f) = true) (hb : Binds X.K fd ps ds) (hd : Vals dvs ds) (hx : Passes CX X E)
    (hdb : (x == ("__debug__" : Str)) = false := by decide) : PE X (.Call (.Name x p) [] [] pos) (tCall sp dvs E tNil) := by
  intro pins s σ H Q I h
  refine wpAny_Call_Name_kw (ld_glob I hg hm ?_ hdb)
  exact PySem.W.callWith_K0 I.kIn hk (run_fn (us := []) F hr hb hd hx I .nil h)

/-- o.m(e, ..) -/
theorem pe_meth {pl : Sem Bool} (he : PE X o ta) (c : Cls X.K C) (hm : Meth X.K C m f) (F : FnOk X.prog X.w X.K X.mg X.base CX k f fd ps sp) (hr : Room k X.A) (hb : Binds X.K fd ps ds) (hd : Vals dvs ds) (hx : Passes CX X E) (ha : PA X (e :: es) t)
    (hst : starEach (e :: es) X.env = (false, eval e X.env) :: starEach es X.env := by rfl) (hpl : (backTo pos (starEach es X.env)).any (·.1) = false := by rfl)
    (ht : eval (.Call (.Attribute o m apos) (e :: es) [] pos) X.env = (do
      let ov ← eval o X.env
      standAt apos.atName
      let (f, first) ← holding [ov] (getMethod ov m pl)
      callWith pos f first (backTo pos (starEach (e :: es) X.env)) (backToKw pos (keywordEach [] X.env))) := by rfl) :
    PE X (.Call (.Attribute o m apos) (e :: es) [] pos) (tMeth C m sp dvs E ta t) := by
  intro pins s σ H Q I h
  refine PySem.W.methodCall_KW (pl := pl) (thn (he pins s σ H _ I h) fun u s1 ⟨x, H1, I1, rx, a, dx, fs, ex, ea, l, q⟩ => ?_) ht
  subst ex
  obtain rfl : u = Value.ref a := rx
  refine getmeth_ok I1 ea c hm l ?_
  refine PySem.W.callWith_K (first := [.ref a]) (h₀ := X.base) I.ok.mod.kin hm.kp (thn (ha pos pins s1 σ H1 _ I1 q) fun us s2 ⟨vs, H2, I2, r, q2⟩ => ⟨I2.kIn, ?_⟩) hst hpl
  exact run_fn (us := .ref a :: us) (vs := .ref a :: vs) F hr hb hd hx I2 (.cons rfl r) q2
/-- o.m() -/
theorem pe_meth0 {pl : Sem Bool} (he : PE X o ta) (c : Cls X.K C) (hm : Meth X.K C m f) (F : FnOk X.prog X.w X.K X.mg X.base CX k f fd ps sp) (hr : Room k X.A) (hb : Binds X.K fd ps ds) (hd : Vals dvs ds) (hx : Passes CX X E)
    (ht : eval (.Call (.Attribute o m apos) [] [] pos) X.env = (do
      let ov ← eval o X.env
      standAt apos.atName
      let (f, first) ← holding [ov] (getMethod ov m pl)
      callWith pos f first (backTo pos (starEach [] X.env)) (backToKw pos (keywordEach [] X.env))) := by rfl) :
    PE X (.Call (.Attribute o m apos) [] [] pos) (tMeth C m sp dvs E ta tNil) := by
  intro pins s σ H Q I h
  refine PySem.W.methodCall_KW (pl := pl) (thn (he pins s σ H _ I h) fun u s1 ⟨x, H1, I1, rx, a, dx, fs, ex, ea, l, q⟩ => ?_) ht
  subst ex
  obtain rfl : u = Value.ref a := rx
  refine getmeth_ok I1 ea c hm l ?_
  exact PySem.W.callWith_K0 (first := [.ref a]) I1.kIn hm.kp (run_fn (us := [.ref a]) (vs := [.ref a]) F hr hb hd hx I1 (.cons rfl .nil) q)

/-- what a class must have to be made -/
structure Mk (K : PySem.W.Frag) (C f : Addr) : Prop where
  makes : PySem.W.makesIn K C = true
  init : PySem.W.findIn K (.ref C) "__init__" = some (some (.ref f))
  fn : PySem.W.isFn K (.ref f) = true
  kp : PySem.W.keepIn K (.ref C) = true

theorem run_make {pins : List (Addr × Obj)} {σ : St} {H : Hp} {s : Shared} {Q : VK} {us : List Value} {vs : List V} (M : Mk X.K C f) (F : FnOk X.prog X.w X.K X.mg X.base CX k f fd ps sp) (hr : Room (k + 1) X.A) (hb : Binds X.K fd ps ds) (hd : Vals dvs ds)
    (hx : Passes CX X E) (I : Inv X pins σ H s) (r : Vals vs us)
    (h : ∀ x dx, H x = none → H dx = none → dx ≠ x → sp (.ref x :: (vs ++ dvs)) (upd (upd H dx (.own x)) x (.ins C dx [])) (fun v H2 => v = .non ∧ Q (.ref x) H2) E) :
    wpAny (model X.prog X.w) X.A (call (.ref C) us) (EP X pins σ Q) X.xe s := by
  have hq := h (s.heap.objs.size + 1) s.heap.objs.size (I.hok.fresh (Nat.le_succ _)) (I.hok.fresh (Nat.le_refl _)) (Nat.ne_of_lt (Nat.lt_succ_self _))
  have I2 := Inv.made (C := C) I
  have r2 : Vals (V.ref (s.heap.objs.size + 1) :: (vs ++ dvs)) (Value.ref (s.heap.objs.size + 1) :: (us ++ ds)) := .cons rfl (r.append hd)
  have hl : (Value.ref (s.heap.objs.size + 1) :: us ++ ds).length = ps.length := by
    have e := r2.length
    rw [F.len _ _ _ _ hq] at e
    exact e.symm
  refine wpAny_call (make_map (f := f) I.kIn M.makes M.init (beq_iff_eq.mp M.fn) (codeAny_mono (F.run _ X.stack _ _ ⟨Value.ref (s.heap.objs.size + 1) :: us, []⟩ (Value.ref (s.heap.objs.size + 1) :: (us ++ ds)) _ _ E (hr.make C us [])
    (I2.env0.make C us []) (hb _ (Value.ref (s.heap.objs.size + 1) :: us) I2.kIn hl) r2 hq) fun r s' hq' => ?_))
  cases r with
  | error e => exact hx pins σ _ _ e s' I2 hq'
  | ok fl =>
    cases fl with
    | ret u =>
      obtain ⟨v, H', I3, rv, ev, q3⟩ := I2.after hq'
      subst ev
      exact ⟨rv, ⟨V.ref (s.heap.objs.size + 1), H', I3, rfl, q3⟩⟩
    | next => exact False.elim hq'
    | brk => exact False.elim hq'
    | cont => exact False.elim hq'
theorem pe_make (M : Mk X.K C f) (F : FnOk X.prog X.w X.K X.mg X.base CX k f fd ps sp) (hr : Room (k + 1) X.A) (hg : Gl X x) (hm : X.mg x = some (.ref C)) (hb : Binds X.K fd ps ds) (hd : Vals dvs ds) (hx : Passes CX X E)
    (ha : PA X (e :: es) t) (hdb : (x == ("__debug__" : Str)) = false := by decide) (he : starEach (e :: es) X.env = (false, eval e X.env) :: starEach es X.env := by rfl) (hpl : (backTo pos (starEach es X.env)).any (·.1) = false := by rfl) :
    PE X (.Call (.Name x p) (e :: es) [] pos) (tMake C sp dvs E t) := by
  intro pins s σ H Q I h
  refine wpAny_Call_Name_kw (ld_glob I hg hm ?_ hdb)
  refine PySem.W.callWith_K (h₀ := X.base) I.ok.mod.kin M.kp (thn (ha pos pins s σ H _ I h) fun us s1 ⟨vs, H1, I1, r, q⟩ => ⟨I1.kIn, ?_⟩) he hpl
  exact run_make M F hr hb hd hx I1 r q
theorem pe_make0 (M : Mk X.K C f) (F : FnOk X.prog X.w X.K X.mg X.base CX k f fd ps sp) (hr : Room (k + 1) X.A) (hg : Gl X x) (hm : X.mg x = some (.ref C)) (hb : Binds X.K fd ps ds) (hd : Vals dvs ds) (hx : Passes CX X E)
    (hdb : (x == ("__debug__" : Str)) = false := by decide) : PE X (.Call (.Name x p) [] [] pos) (tMake C sp dvs E tNil) := by
  intro pins s σ H Q I h
  refine wpAny_Call_Name_kw (ld_glob I hg hm ?_ hdb)
  exact PySem.W.callWith_K0 I.kIn M.kp (run_make (us := []) M F hr hb hd hx I .nil h)
end

/-! ### keywords -/
/-- the values of the keywords, from the left -/
def PK (X : Cx) (kws : List Keyword) (t : TA) : Prop :=
  ∀ (pos : Pos) (pins : List (Addr × Obj)) (s : Shared) (σ : St) (H : Hp) (Q : List V → Hp → Prop), Inv X pins σ H s → t σ H Q → wpAny (model X.prog X.w) X.A (evalAll ((backToKw pos (keywordEach kws X.env)).map (·.2))) (AP X pins σ Q) X.xe s
section
variable {X : Cx} {CX : CXT} {k : Nat} {f C : Addr} {fd : FuncData} {ps ks : List Str} {sp : Sp} {E : XK} {x m : Str} {p pos apos kpos : Pos} {e o : Expr} {es : List Expr} {kws : List Keyword} {te ta : TE} {t tk : TA} {nm : Option Str}
theorem pk_nil : PK X [] tNil := fun _ _ _ _ H Q I h => wpAny_evalAll_nil ⟨[], H, I, .nil, h⟩
theorem pk_cons (ha : PE X e te) (hr : PK X kws t) : PK X (⟨nm, e, kpos⟩ :: kws) (tCons te t) := by
  intro pos pins s σ H Q I h
  show wpAny _ _ (evalAll ((do let v ← eval e X.env; standAt pos; pure v) :: (backToKw pos (keywordEach kws X.env)).map (·.2))) _ _ s
  refine wpAny_evalAll_cons (wpAny_bind (thn (ha pins s σ H _ I h) fun u s1 ⟨x, H1, I1, r1, q1⟩ => wpAny_bind (wpAny_standAt (wpAny_pure ?_))))
  exact thn (hr pos pins s1 σ H1 _ I1 q1) fun us s2 ⟨xs, H2, I2, r2, q2⟩ => ⟨x :: xs, H2, I2, .cons r1 r2, q2⟩

/-- how a call with keywords binds: g puts the positional values us and the keywords' values ws (names ks) in the parameters' order, defaults among them -/
structure KBinds (K : PySem.W.Frag) (fd : FuncData) (ps ks : List Str) (g : List Value → List Value → List Value) (gV : List V → List V → List V) : Prop where
  to : ∀ (s : Shared) (us ws : List Value), K.In s.heap → (g us ws).length = ps.length → BindsTo s fd ⟨us, ks.zip ws⟩ (ps.zip (g us ws))
  rel : ∀ {vs : List V} {us : List Value} {zs : List V} {ws : List Value}, Vals vs us → Vals zs ws → Vals (gV vs zs) (g us ws)
def tCallK (sp : Sp) (gV : List V → List V → List V) (E : XK) (t tk : TA) : TE := fun σ H Q => t σ H fun vs H1 => tk σ H1 fun zs H2 => sp (gV vs zs) H2 Q E
variable {g : List Value → List Value → List Value} {gV : List V → List V → List V}
theorem run_fnk {pins : List (Addr × Obj)} {σ : St} {H : Hp} {s : Shared} {Q : VK} {us ws : List Value} {vs zs : List V} (F : FnOk X.prog X.w X.K X.mg X.base CX k f fd ps sp) (hr : Room k X.A) (hb : KBinds X.K fd ps ks g gV) (hx : Passes CX X E)
    (I : Inv X pins σ H s) (r : Vals vs us) (rz : Vals zs ws) (h : sp (gV vs zs) H Q E) : wpAny (model X.prog X.w) X.A (call (.ref f) us (ks.zip ws)) (EP X pins σ Q) X.xe s := by
  have r2 := hb.rel r rz
  have hl : (g us ws).length = ps.length := by rw [← r2.length]; exact F.len _ _ _ _ h
  refine wpAny_call (codeAny_mono (F.run X.A X.stack s H ⟨us, ks.zip ws⟩ (g us ws) (gV vs zs) Q E hr I.env0 (hb.to s us ws I.kIn hl) r2 h) fun r s' hq => ?_)
  cases r with
  | error e => exact hx pins σ H s e s' I hq
  | ok fl =>
    cases fl with
    | ret u => exact I.after hq
    | next => exact False.elim hq
    | brk => exact False.elim hq
    | cont => exact False.elim hq
/-- f(e, .., k = v, ..) -/
theorem pe_callK (F : FnOk X.prog X.w X.K X.mg X.base CX k f fd ps sp) (hr : Room k X.A) (hg : Gl X x) (hm : X.mg x = some (.ref f)) (hk : PySem.W.keepIn X.K (.ref f) = true) (hb : KBinds X.K fd ps ks g gV) (hx : Passes CX X E)
    (ha : PA X (e :: es) t) (hkw : PK X kws tk) (hall : (backToKw pos (keywordEach kws X.env)).all (·.1.isSome) = true := by rfl) (hks : (backToKw pos (keywordEach kws X.env)).filterMap (·.1) = ks := by rfl)
    (hdb : (x == ("__debug__" : Str)) = false := by decide) (he : starEach (e :: es) X.env = (false, eval e X.env) :: starEach es X.env := by rfl)
    (hpl : ((backTo pos (starEach (e :: es) X.env)).any (·.1) || (backToKw pos (keywordEach kws X.env)).any (·.1.isNone)) = false := by rfl) :
    PE X (.Call (.Name x p) (e :: es) kws pos) (tCallK sp gV E t tk) := by
  intro pins s σ H Q I h
  refine wpAny_Call_Name_kw (ld_glob I hg hm ?_ hdb)
  refine PySem.W.callWith_KW (h₀ := X.base) I.ok.mod.kin hk hall (thn (ha pos pins s σ H _ I h) fun us s1 ⟨vs, H1, I1, r, q⟩ => ?_) hpl he
  refine thn (hkw pos pins s1 σ H1 _ I1 q) fun ws s2 ⟨zs, H2, I2, rz, q2⟩ => ⟨I2.kIn, ?_⟩
  rw [hks]
  exact run_fnk F hr hb hx I2 r rz q2
end

/-! ### a def's body keeps its promise -/
/-- names: the parameters first -/
structure FnScope (N P : List Str) (sc : Scope) : Prop where
  kind : sc.kind = .function
  co : sc.isCoroutine = false
  gen : sc.isGenerator = false
  nd : N.Nodup
  pre : N.take P.length = P
  par : ∀ x ∈ P, sc.names.lookup x = some .local ∨ sc.names.lookup x = some .cell
  nofree : ∀ y ∈ sc.names, y.2 ≠ .free

theorem bindL_out {kindOf : Str → Option NameKind} {x : Str} : ∀ {binds : List (Str × Value)} {m : Str → Option Value}, (∀ v, (x, v) ∉ binds) → bindL kindOf binds m x = m x
  | [], _, _ => rfl
  | (n, v) :: r, m, h => by
    unfold bindL
    rw [bindL_out fun w hw => h w (List.mem_cons_of_mem _ hw)]
    split
    · have : x ≠ n := by rintro rfl; exact h v List.mem_cons_self
      simp [this]
    · rfl
theorem bindC_out {kindOf : Str → Option NameKind} {x : Str} : ∀ {binds : List (Str × Value)} {m : Str → Option Value}, (∀ v, (x, v) ∉ binds) → bindC kindOf binds m x = m x
  | [], _, _ => rfl
  | (n, v) :: r, m, h => by
    unfold bindC
    rw [bindC_out fun w hw => h w (List.mem_cons_of_mem _ hw)]
    split
    · rfl
    · have : x ≠ n := by rintro rfl; exact h v List.mem_cons_self
      simp [this]
theorem bindL_get {kindOf : Str → Option NameKind} {x : Str} {v : Value} : ∀ {P : List Str} {vs : List Value} {i : Nat} {m : Str → Option Value}, P.Nodup → P[i]? = some x → vs[i]? = some v → kindOf x = some .local →
    bindL kindOf (P.zip vs) m x = some v
  | [], _, _, _, _, h, _, _ => by simp at h
  | _ :: _, [], _, _, _, _, h, _ => by simp at h
  | p :: P, w :: vs, 0, m, nd, h1, h2, hk => by
    simp at h1 h2; subst h1; subst h2
    show bindL kindOf ((p, w) :: P.zip vs) m p = _
    unfold bindL
    rw [bindL_out fun v hv => (List.nodup_cons.mp nd).1 (List.of_mem_zip hv).1, if_pos hk]
    simp
  | p :: P, w :: vs, i + 1, m, nd, h1, h2, hk => by
    show bindL kindOf ((p, w) :: P.zip vs) m x = _
    unfold bindL
    exact bindL_get (i := i) (List.nodup_cons.mp nd).2 (by simpa using h1) (by simpa using h2) hk
theorem bindC_get {kindOf : Str → Option NameKind} {x : Str} {v : Value} : ∀ {P : List Str} {vs : List Value} {i : Nat} {m : Str → Option Value}, P.Nodup → P[i]? = some x → vs[i]? = some v → kindOf x ≠ some .local →
    bindC kindOf (P.zip vs) m x = some v
  | [], _, _, _, _, h, _, _ => by simp at h
  | _ :: _, [], _, _, _, _, h, _ => by simp at h
  | p :: P, w :: vs, 0, m, nd, h1, h2, hk => by
    simp at h1 h2; subst h1; subst h2
    show bindC kindOf ((p, w) :: P.zip vs) m p = _
    unfold bindC
    rw [bindC_out fun v hv => (List.nodup_cons.mp nd).1 (List.of_mem_zip hv).1, if_neg hk]
    simp
  | p :: P, w :: vs, i + 1, m, nd, h1, h2, hk => by
    show bindC kindOf ((p, w) :: P.zip vs) m x = _
    unfold bindC
    exact bindC_get (i := i) (List.nodup_cons.mp nd).2 (by simpa using h1) (by simpa using h2) hk

/-- the names' values at the entry -/
def start (N : List Str) (vs : List V) : St := vs.map some ++ List.replicate (N.length - vs.length) none

/-- the context of a def's body, at its entry; an exception leaves the frame, then lies as CX says -/
def cxOf (CX : CXT) (P : Program) (w : World) (K : PySem.W.Frag) (mg : Str → Option Value) (base : Heap) (N : List Str) (qual : Str) (scope : Scope) (f : Addr) (cd : Value) (A : Around) (outer : List Env) (s : Shared) (H : Hp) (E : XK) : Cx where
  prog := P
  w := w
  K := K
  mg := mg
  base := base
  A := A.deeper (envOfC qual scope s.heap.objs.size f cd)
  N := N
  s₀ := s
  H₀ := H
  env := envOfC qual scope s.heap.objs.size f cd
  outer := outer
  stack := envOfC qual scope s.heap.objs.size f cd :: outer
  ex := []
  calm := true
  fn := fun _ => true
  pn := []
  xe := fun e s' => wpAny (model P w) (A.deeper (envOfC qual scope s.heap.objs.size f cd)) (leaving (envOfC qual scope s.heap.objs.size f cd) e) (fun _ s'' => CX outer H s E e s'') (fun e' s'' => CX outer H s E e' s'') s'

theorem cell_has {sc : Scope} {n : Nat} {x : Str} (h : sc.names.lookup x = some .cell) : ∃ c, (cellsFrom n sc.names []).lookup x = some c := by
  have q := PySem.W.cellsFrom_some sc.names n [] (.inl h)
  exact Option.isSome_iff_exists.mp q

theorem inv_start {CX : CXT} {P : Program} {w : World} {K : PySem.W.Frag} {mg : Str → Option Value} {base : Heap} {N ps : List Str} {qual : Str} {scope : Scope} {f : Addr} {cd : Value} {A : Around} {outer : List Env} {s s1 : Shared} {H : Hp} {E : XK} {us : List Value} {vs : List V}
    (S : FnScope N ps scope) (hd : A.handled = none) (e0 : Env0 P w K mg base A outer s H) (hl : vs.length = ps.length) (r : Vals vs us)
    (x : InCallC s s.heap.objs.size (bindL (envOfC qual scope s.heap.objs.size f cd).kindOf (ps.zip us) fun _ => none) (cellsFrom (s.heap.objs.size + 1) scope.names []) (bindC (envOfC qual scope s.heap.objs.size f cd).kindOf (ps.zip us) fun _ => none) s1) :
    Inv (cxOf CX P w K mg base N qual scope f cd A outer s H E) [] (start N vs) H s1 := by
  have hpl : ps.length ≤ N.length := by have := congrArg List.length S.pre; rw [List.length_take] at this; omega
  obtain ⟨h1, tk, rfl, hk⟩ := x.done
  have noA : ∀ b : Addr, b ∉ (cxOf CX P w K mg base N qual scope f cd A outer s H E).ex := fun b z => absurd (show b ∈ ([] : List Addr) from z) (by simp)
  refine ⟨⟨e0.mod, S.kind, rfl, rfl, Nat.le_refl _, fun y z c h1 h2 => ?_, fun y hy => ?_, fun y c _ h => ?_, fun _ => hd, Around.frames_deeper e0.frames, .inr ⟨rfl, rfl⟩, fun b z => absurd z (noA b), e0.bs, e0.bsz, fun b _ _ => noA b, fun b z => absurd z (noA b), e0.funs, e0.frf⟩,
    rfl, e0.bare, Un.kept hk, ⟨_, x.toInCall.ns, fun i y v h1 h2 h3 => ?_⟩, fun y c h => ⟨_, x.cell y c h⟩, e0.hok.fresh (Nat.le_refl _), fun y c h => ?_, fun p hp => absurd (show p ∈ ([] : List (Addr × Obj)) from hp) (by simp), e0.hok.kept hk, ?_⟩
  · exact name_of_addr x.apart (PySem.mem_of_lookup h1) (PySem.mem_of_lookup h2)
  · have hy : scope.names.lookup y = some .cell ∨ scope.names.lookup y = some .free := hy
    rcases hy with hy | hy
    · exact cell_has hy
    · exact absurd rfl (S.nofree _ (PySem.mem_of_lookup hy))
  · exact Nat.le_of_lt (x.above y c (PySem.mem_of_lookup h))
  · have hi : i < vs.length := by
      unfold start at h2
      by_cases hi : i < vs.length
      · exact hi
      · rw [List.getElem?_append_right (by simpa using hi)] at h2
        rw [List.getElem?_replicate] at h2
        split at h2 <;> cases h2
    have ha : vs[i]? = some v := by
      unfold start at h2
      rw [List.getElem?_append_left (by simpa using hi), List.getElem?_map] at h2
      cases e : vs[i]? with
      | none => rw [e] at h2; cases h2
      | some a => rw [e] at h2; cases h2; rfl
    obtain ⟨u, hu, rv⟩ := r.get ha
    have hp : ps[i]? = some y := by
      rw [← S.pre, List.getElem?_take_of_lt (by omega)]; exact h1
    have ndP : ps.Nodup := by rw [← S.pre]; exact S.nd.sublist (List.take_sublist _ _)
    refine ⟨u, rv, ?_⟩
    rcases S.par y (List.mem_of_getElem? hp) with k | k
    · exact .inl ⟨k, bindL_get ndP hp hu k⟩
    · obtain ⟨c, e⟩ := cell_has (n := s.heap.objs.size + 1) k
      refine .inr ⟨.inl k, c, e, ?_⟩
      have q := x.cell y c e
      rw [bindC_get ndP hp hu (by show scope.names.lookup y ≠ _; rw [k]; decide)] at q
      exact q
  · exact e0.hok.fresh (Nat.le_of_lt (x.above y c (PySem.mem_of_lookup h)))
  · unfold start
    show _ = N.length
    rw [List.length_append, List.length_map, List.length_replicate]
    omega

/-- THE RULE: a def (or a method) of the text, by its body. The body's reading t is chosen for each entry; it is run at the parameters' values -/
theorem fn_of {CX : CXT} {P : Program} {w : World} {K : PySem.W.Frag} {mg : Str → Option Value} {base : Heap} {k : Nat} {f : Addr} {name qual : Str} {params : Arguments} {body : List Stmt} {scope : Scope} {dV kV doc pm cdv ct oc : Value} {an od : Option Addr}
    {osl : Array (Option Value)} {N ps : List Str} {sp : Sp} (lk : K.lookup f = some ⟨oc, od, .func (PySem.W.fnOf name qual params body scope dV kV doc pm an cdv ct), osl⟩) (hcd : PySem.W.codeIn K cdv qual = true) (S : FnScope N ps scope)
    (len : ∀ vs H Q E, sp vs H Q E → vs.length = ps.length)
    (hbody : ∀ (A : Around) (outer : List Env) (s : Shared) (H : Hp) (vs : List V) (Q : VK) (E : XK), Room k (A.deeper (envOfC qual scope s.heap.objs.size f cdv)) → sp vs H Q E →
      ∃ t, PSs (cxOf CX P w K mg base N qual scope f cdv A outer s H E) body t ∧ t { nx := fun _ H' => Q .non H', rt := Q } (start N vs) H) :
    FnOk P w K mg base CX (k + 1) f (PySem.W.fnOf name qual params body scope dV kV doc pm an cdv ct) ps sp := by
  refine ⟨len, fun A outer s H args us vs Q E hr e0 hb r hsp => ?_⟩
  have hl := len _ _ _ _ hsp
  have KX : K.In s.heap := e0.mod.kin.keeps fun b o e => (e0.bs b o e).1
  have lim : s.heap.NoLimit := e0.mod.nolimit.keeps fun b o e => (e0.bs b o e).1
  have hkind : ∀ y ∈ ps.zip us, scope.names.lookup y.1 = some .local ∨ (scope.names.lookup y.1 = some .cell ∧ ((cellsFrom (s.heap.objs.size + 1) scope.names []).lookup y.1).isSome = true) := fun ⟨n, v⟩ hy => by
    rcases S.par n (List.of_mem_zip hy).1 with q | q
    · exact .inl q
    · exact .inr ⟨q, PySem.W.cellsFrom_some _ _ _ (.inl q)⟩
  refine codeAny_call_function hr.depth (KX _ _ lk) rfl S.co S.gen rfl (PySem.W.codeRec_of KX hcd) (hb _ _ _ _ ?_)
  refine wpAny_newFunctionEnv_cells S.kind hkind fun env he s1 x => ?_
  subst he
  refine ⟨lim.keeps x.toInCall.keep, codeAny_func ?_⟩
  obtain ⟨t, ht, hq⟩ := hbody A outer s H vs Q E (hr.deeper _) hsp
  have I : Inv (cxOf CX P w K mg base N qual scope f cdv A outer s H E) [] (start N vs) H s1 := inv_start S hr.hd e0 hl r x
  refine wpAny_mono (ht [] s1 (start N vs) H _ I hq) (fun fl s' hs => ?_) fun e s' hs => hs
  have fin : ∀ {σ' : St} {H' : Hp} {v : V} {u : Value}, Inv (cxOf CX P w K mg base N qual scope f cdv A outer s H E) [] σ' H' s' → RelV v u → Q v H' → CE outer P w H s Q u s' :=
    fun {σ' H' v u} J rv q => ⟨v, H', J.os, J.bare, J.base, J.hok, rv, q⟩
  cases fl with
  | ret u =>
    obtain ⟨v, σ', H', J, rv, q⟩ := hs
    exact fin J rv q
  | next =>
    obtain ⟨σ', H', J, q⟩ := hs
    exact fin (v := V.non) (u := Value.none) J rfl q
  | brk =>
    obtain ⟨_, _, _, q⟩ := hs
    exact False.elim q
  | cont =>
    obtain ⟨_, _, _, q⟩ := hs
    exact False.elim q
end L2

namespace L2
open PySem PySem.Spec PyProof.Rows
section
variable {X : Cx} {x : Str} {p pos : Pos} {e : Expr} {es : List Expr} {t : TA} {id T : String} {r : List V → Hp → VK → Prop}

def tCB (r : List V → Hp → VK → Prop) (t : TA) : TE := fun σ H Q => t σ H fun vs H1 => r vs H1 Q
/-- f(e, ..), f a built-in function -/
theorem pe_callB (hc : CallR X (.builtin id) r) (hg : Gl X x) (hm : X.mg x = none) (hv : bootBuiltins x = some (.builtin id)) (ha : PA X (e :: es) t) (hn : x ≠ "__name__" := by decide) (hdb : (x == ("__debug__" : Str)) = false := by decide)
    (he : starEach (e :: es) X.env = (false, eval e X.env) :: starEach es X.env := by rfl) (hpl : (backTo pos (starEach es X.env)).any (·.1) = false := by rfl) : PE X (.Call (.Name x p) (e :: es) [] pos) (tCB r t) := by
  intro pins s σ H Q I h
  refine wpAny_Call_Name_kw (ld_blt I hg hm hv ?_ hn hdb)
  exact PyProof.Rows.callWith_builtin1 (thn (ha pos pins s σ H _ I h) fun us s1 ⟨vs, H1, I1, r1, q1⟩ => hc pins s1 σ H1 vs us Q I1 r1 q1) he hpl
/-- T(e, ..), T a built-in type -/
theorem pe_callTy (hc : CallR X (.type T) r) (hg : Gl X x) (hm : X.mg x = none) (hv : bootBuiltins x = some (.type T)) (ha : PA X (e :: es) t) (hn : x ≠ "__name__" := by decide) (hdb : (x == ("__debug__" : Str)) = false := by decide)
    (he : starEach (e :: es) X.env = (false, eval e X.env) :: starEach es X.env := by rfl) (hpl : (backTo pos (starEach es X.env)).any (·.1) = false := by rfl) : PE X (.Call (.Name x p) (e :: es) [] pos) (tCB r t) := by
  intro pins s σ H Q I h
  refine wpAny_Call_Name_kw (ld_blt I hg hm hv ?_ hn hdb)
  exact PyProof.Rows.callWith_type1 (thn (ha pos pins s σ H _ I h) fun us s1 ⟨vs, H1, I1, r1, q1⟩ => hc pins s1 σ H1 vs us Q I1 r1 q1) he hpl
/-- T() -/
theorem pe_callTy0 (hc : CallR X (.type T) r) (hg : Gl X x) (hm : X.mg x = none) (hv : bootBuiltins x = some (.type T)) (hn : x ≠ "__name__" := by decide) (hdb : (x == ("__debug__" : Str)) = false := by decide) :
    PE X (.Call (.Name x p) [] [] pos) (tCB r tNil) := by
  intro pins s σ H Q I h
  refine wpAny_Call_Name_kw (ld_blt I hg hm hv ?_ hn hdb)
  exact PyProof.Rows.callWith_type0 (hc pins s σ H [] [] Q I .nil h)
end
end L2

namespace HT
open PySem PyProof.Rows

/-- t < u of tuples of ints -/
def lexLt : List Int → List Int → Bool
  | [], [] => false
  | [], _ :: _ => true
  | _ :: _, [] => false
  | x :: xs, y :: ys => if x = y then lexLt xs ys else decide (x < y)
theorem lexLt_cons (x y : Int) (xs ys : List Int) : lexLt (x :: xs) (y :: ys) = if x = y then lexLt xs ys else decide (x < y) := rfl
theorem lexLt_nil_nil : lexLt [] [] = false := rfl
theorem lexLt_nil_cons (y : Int) (ys : List Int) : lexLt [] (y :: ys) = true := rfl
theorem lexLt_cons_nil (x : Int) (xs : List Int) : lexLt (x :: xs) [] = false := rfl

theorem eqAt_int (A : Around) (s : Shared) (a : Int) (t : Tok) (c : Int) (u : Tok) : ∃ e, SeqAt.EqAt A s (.int a t) (.int c u) e ∧ (e = true ↔ a = c) :=
  ⟨(a == c), SeqAt.EqAt.int_int a t c u, by simp⟩
theorem rcLt_int (A : Around) (s : Shared) (a : Int) (t : Tok) (c : Int) (u : Tok) (prog : Program) (w : World) (E : Value → Shared → Prop) (Q : Value → Shared → Prop) (h : Q (.bool (decide (a < c))) s) :
    wpAny (model prog w) A (richCompare .Lt (.int a t) (.int c u)) Q E s :=
  (PyProof.Rows.lt_int h : wpAny (model prog w) A (compareOp .Lt (.int a t) (.int c u)) Q E s)

section
open PySem.SeqAt
open PySem.AutoSeq1 (wpAny_loadPart')
open PySem.MeetsSeq PySem.MeetsSeq2 PySem.MeetsSeq3

theorem tuple_lt_ints (l b : Addr) (items items2 : Array Value) (n n2 : Nat) (dd dd2 : Option Addr) (sl sl2 : Array (Option Value)) (ns ms : List Int) (hi : IntsAre items.toList ns) (hj : IntsAre items2.toList ms) :
    Meets (Builtin.«tuple.__lt__» ⟨[.ref l, .ref b], []⟩)
      (fun _ R s => s.heap.get? l = some { cls := .type "tuple", dict := dd, data := .seq items n, slots := sl } ∧ s.heap.get? b = some { cls := .type "tuple", dict := dd2, data := .seq items2 n2, slots := sl2 } ∧
        R (.ok (.ret (.bool (lexLt ns ms)))) s) :=
  .of_wp fun prog w A R s h => by
    obtain ⟨hp, g, d, tk, os⟩ := s; obtain ⟨hl, hb, h⟩ := h
    have f2 := AutoSeq1.sub_tuple_tuple
    have z1 : items.size = ns.length := by rw [← hi.length]; simp
    have z2 : items2.size = ms.length := by rw [← hj.length]; simp
    wp_walk using wpAny_loadPart' hl, wpAny_loadPart' hb, wpAny_forIn_list _ (fun rest b s' => b.1 = none ∧ s' = ⟨hp, g, d, tk, os⟩ ∧ ∃ (vs ws : List Value) (ns' ms' : List Int), rest = vs.zip ws ∧
      IntsAre vs ns' ∧ IntsAre ws ms' ∧ ns'.length + items2.size = ms'.length + items.size ∧ R (.ok (.ret (.bool (lexLt ns' ms')))) ⟨hp, g, d, tk, os⟩) _
    case turn =>
      rintro ⟨y, x⟩ rest b s' ⟨hb', rfl, vs, ws, ns', ms', hz, hvi, hwi, hlen, hR⟩
      cases hvi with
      | nil => rw [List.zip_nil_left] at hz; cases hz
      | cons a t hvi' =>
        cases hwi with
        | nil => rw [List.zip_nil_right] at hz; cases hz
        | cons c u hwi' =>
          rw [List.zip_cons_cons] at hz
          injection hz with hyx hrest
          injection hyx with hy hx
          subst hy hx
          rw [lexLt_cons] at hR
          simp only [List.length_cons] at hlen
          obtain ⟨e, he, hiff⟩ := eqAt_int A.in1 ⟨hp, g, d, tk, os⟩ a t c u
          refine wpAny_bind (he prog w _ _ ?_)
          cases e with
          | true =>
            rw [if_pos (hiff.mp rfl)] at hR
            wp_walk
            exact ⟨rfl, rfl, _, _, _, _, hrest, hvi', hwi', by omega, hR⟩
          | false =>
            rw [if_neg (fun q => absurd (hiff.mpr q) Bool.false_ne_true)] at hR
            have hri := rcLt_int A.in1 ⟨hp, g, d, tk, os⟩ a t c u prog w
            wp_walk using hri
            exact ⟨_, rfl, by simpa using hR⟩
    case fin =>
      rintro ⟨b1, b2⟩ s' ⟨hb', rfl, vs, ws, ns', ms', hz, hvi, hwi, hlen, hR⟩
      simp only at hb'
      subst hb'
      have hv : lexLt ns' ms' = decide (items.size < items2.size) := by
        cases hvi with
        | nil =>
          cases hwi with
          | nil =>
            simp only [List.length_nil] at hlen
            rw [lexLt_nil_nil]
            exact (decide_eq_false (by omega)).symm
          | cons c u hw =>
            simp only [List.length_nil, List.length_cons] at hlen
            rw [lexLt_nil_cons]
            exact (decide_eq_true (by omega)).symm
        | cons a t hv =>
          cases hwi with
          | nil =>
            simp only [List.length_nil, List.length_cons] at hlen
            rw [lexLt_cons_nil]
            exact (decide_eq_false (by omega)).symm
          | cons c u hw =>
            rw [List.zip_cons_cons] at hz
            cases hz
      rw [hv] at hR
      wp_walk
      exact ⟨_, rfl, by simpa [Builtin.Tuple.tupleCompareSizes] using hR⟩
    case h =>
      exact ⟨rfl, rfl, items.toList, items2.toList, ns, ms, rfl, hi, hj, by omega, h⟩
end

section
variable {prog : Program} {w : World} {A : Around} {E : Value → Shared → Prop} {s : Shared}

theorem lt_tupInts {l b : Addr} {items items2 : Array Value} {ns ms : List Int} {Q : Value → Shared → Prop} (hl : IsTup s.heap l items) (hb : IsTup s.heap b items2) (hi : IntsAre items.toList ns) (hj : IntsAre items2.toList ms)
    (hu : A.units < cLine) (h : Q (.bool (lexLt ns ms)) s) : wpAny (model prog w) A (compareOp .Lt (.ref l) (.ref b)) Q E s := by
  obtain ⟨⟨cls, dd, data, sl⟩, ho, hc, n, hd⟩ := id hl
  obtain ⟨⟨cls2, dd2, data2, sl2⟩, ho2, hc2, n2, hd2⟩ := id hb
  simp only at hc hd hc2 hd2
  subst hc hd hc2 hd2
  exact richCompare_meets_room (op := .Lt) ⟨_, ho, rfl⟩ ⟨_, ho2, rfl⟩ PySem.F.slot_tuple_lt PySem.F.entry_tuple_lt (PySem.F.args_tuple_lt_2 _ _) (tuple_lt_ints l b items items2 n n2 dd dd2 sl sl2 ns ms hi hj)
    ⟨ho, ho2, show Value.bool (lexLt ns ms) ≠ Value.notImplemented ∧ Q (.bool (lexLt ns ms)) s from ⟨(fun x => nomatch x), h⟩⟩ hu

/-- t + u, t not empty -/
theorem cat_tup {t b : Addr} {vs ws : List Value} {Q : Value → Shared → Prop} (ht : IsTup s.heap t vs.toArray) (hb : IsTup s.heap b ws.toArray) (hv : vs ≠ [])
    (h1 : ws = [] → Q (.ref t) s) (h2 : ws ≠ [] → Q (.ref s.heap.objs.size) { s with heap := s.heap.push { cls := .type "tuple", data := .seq (vs ++ ws).toArray } })
    (hsz : vs.length + ws.length ≤ sizeLine) : wpAny (model prog w) A (binaryOp .Add (.ref t) (.ref b)) Q E s := by
  obtain ⟨⟨cls, dd, data, sl⟩, ho, hc, n, hd⟩ := id ht
  obtain ⟨⟨cls2, dd2, data2, sl2⟩, ho2, hc2, n2, hd2⟩ := id hb
  simp only at hc hd hc2 hd2
  subst hc hd hc2 hd2
  have e : vs.toArray ++ ws.toArray = (vs ++ ws).toArray := by simp
  by_cases hw : ws = []
  · exact concat_meets ⟨_, ho, rfl⟩ ⟨_, ho2, rfl⟩ noFill_tuple_add seq_tuple_add PySem.F.slot_tuple_add PySem.F.entry_tuple_add (PySem.F.args_tuple_add_2 _ _)
      (tuple_addW1 t b vs.toArray ws.toArray n n2 dd dd2 sl sl2 (by simpa using hv) (by simp [hw])) ⟨ho, ho2, h1 hw⟩
  · refine concat_meets ⟨_, ho, rfl⟩ ⟨_, ho2, rfl⟩ noFill_tuple_add seq_tuple_add PySem.F.slot_tuple_add PySem.F.entry_tuple_add (PySem.F.args_tuple_add_2 _ _)
      (tuple_addW2 t b vs.toArray ws.toArray n n2 dd dd2 sl sl2 (by simpa using hv) (by simpa using hw) (by rw [List.size_toArray, List.size_toArray]; exact hsz)) ⟨ho, ho2, ?_⟩
    rw [e]
    exact h2 hw

/-! ### t[a:b], not the whole -/
/-- a slice's bound as a place among n (d where it is left out) -/
def sIx (n d : Nat) : Option Int → Nat
  | none => d
  | some v => if v < 0 then (v + (n : Int)).toNat else min v.toNat n
theorem sIx_none (n d : Nat) : sIx n d none = d := rfl
theorem sIx_nat (n d k : Nat) : sIx n d (some (k : Int)) = min k n := by
  show (if (k : Int) < 0 then ((k : Int) + (n : Int)).toNat else min (k : Int).toNat n) = min k n
  rw [if_neg (by omega), Int.toNat_natCast]
theorem sIx_le (n d : Nat) (hd : d ≤ n) (o : Option Int) : sIx n d o ≤ n := by
  cases o with
  | none => exact hd
  | some v =>
    show (if v < 0 then (v + (n : Int)).toNat else min v.toNat n) ≤ n
    by_cases hv : v < 0
    · rw [if_pos hv]; omega
    · rw [if_neg hv]; exact Nat.min_le_right _ _
theorem clip_eq (v : Int) (n d : Nat) : (if v < 0 then max (v + (n : Int)) 0 else min v (n : Int)) = ((sIx n d (some v) : Nat) : Int) := by
  show (if v < 0 then max (v + (n : Int)) 0 else min v (n : Int)) = (((if v < 0 then (v + (n : Int)).toNat else min v.toNat n) : Nat) : Int)
  by_cases hv : v < 0
  · simp only [if_pos hv]; omega
  · simp only [if_neg hv]; omega
theorem adjust_gen (lo hi : Option Int) (n : Nat) : Builtin.Slice.sliceAdjust lo hi 1 (n : Int) = (((sIx n 0 lo : Nat) : Int), ((sIx n n hi : Nat) : Int)) := by
  have h1 : ¬ ((1 : Int) < 0) := by omega
  unfold Builtin.Slice.sliceAdjust
  simp only [h1, if_false]
  refine Prod.ext ?_ ?_
  · cases lo with
    | none => rfl
    | some v => exact clip_eq v n 0
  · cases hi with
    | none => rfl
    | some v => exact clip_eq v n n
theorem places_gen (i j : Nat) : Builtin.Slice.slicePlaces (i : Int) (j : Int) 1 = j - i := by
  unfold Builtin.Slice.slicePlaces
  have h1 : (1 : Int) > 0 := by omega
  simp only [h1, if_true, Int.ediv_one]
  split <;> omega
theorem slicePart_ {v : Value} {o : Option Int} {Q : Option Int → Shared → Prop} (p : IsPart v o) (h : Q o s) : wpAny (model prog w) A (Builtin.Slice.slicePartIndex v) Q E s := by
  cases p with
  | none => exact slicePart_none h
  | int i t => exact slicePart_int h
theorem sliceApplied_gen {sl : Addr} {vl vu : Value} {lo hi : Option Int} {n : Nat} {Q : Int × Int × Nat → Shared → Prop} (hs : s.heap.IsSliceOf sl vl vu .none) (pl : IsPart vl lo) (pu : IsPart vu hi)
    (h : Q (((sIx n 0 lo : Nat) : Int), 1, sIx n n hi - sIx n 0 lo) s) : wpAny (model prog w) A (Builtin.Slice.sliceApplied (.ref sl) (pure (n : Int))) Q E s := by
  obtain ⟨os, hos, hcs, hds⟩ := id hs
  unfold Builtin.Slice.sliceApplied Builtin.Slice.sliceFields
  refine wpAny_bind (wpAny_bind (wpAny_field hos hds (x := vl) rfl (wpAny_bind (wpAny_field hos hds (x := vu) rfl (wpAny_bind (wpAny_field hos hds (x := .none) rfl (wpAny_pure ?_)))))))
  refine wpAny_bind (slicePart_none ?_)
  show wpAny _ _ (if ((1 : Int) == 0) = true then _ else _) _ _ s
  rw [if_neg (by decide)]
  refine wpAny_bind (slicePart_ pl (wpAny_bind (slicePart_ pu (wpAny_bind (wpAny_pure ?_)))))
  show wpAny _ _ (match Builtin.Slice.sliceAdjust lo hi 1 (n : Int) with | (lo, hi) => pure (lo, (1 : Int), Builtin.Slice.slicePlaces lo hi 1)) _ _ s
  rw [adjust_gen lo hi n]
  show wpAny _ _ (pure (((sIx n 0 lo : Nat) : Int), (1 : Int), Builtin.Slice.slicePlaces ((sIx n 0 lo : Nat) : Int) ((sIx n n hi : Nat) : Int) 1)) _ _ s
  rw [places_gen]
  exact wpAny_pure h
theorem pick_gen (xs : Array Value) (i k : Nat) : ((List.range k).filterMap fun (m : Nat) => xs[((i : Int) + (m : Int) * 1).toNat]?).toArray = ((xs.toList.drop i).take k).toArray := by
  have e : (fun (m : Nat) => xs[((i : Int) + (m : Int) * 1).toNat]?) = fun m => xs[i + m]? := by
    funext m
    have : ((i : Int) + (m : Int) * 1).toNat = i + m := by omega
    rw [this]
  rw [e]
  have := pick_run xs i k
  rw [List.filterMap_map] at this
  have e2 : ((fun x => xs[x]?) ∘ fun x => i + x) = fun m => xs[i + m]? := rfl
  rw [e2] at this
  rw [this]

theorem getItem_tuple_cut {t sl : Addr} {items : Array Value} {vl vu : Value} {lo hi : Option Int} {Q : Value → Shared → Prop} (ht : IsTup s.heap t items) (hs : s.heap.IsSliceOf sl vl vu .none) (pl : IsPart vl lo) (pu : IsPart vu hi)
    (hw : ¬ (sIx items.size 0 lo = 0 ∧ sIx items.size items.size hi = items.size))
    (h : Q (.ref s.heap.objs.size) { s with heap := s.heap.push { cls := .type "tuple", data := .seq ((items.toList.drop (sIx items.size 0 lo)).take (sIx items.size items.size hi - sIx items.size 0 lo)).toArray } })
    (hsz : items.size ≤ sizeLine) : wpAny (model prog w) A (getItem (.ref t) (.ref sl)) Q E s := by
  have htake : sizeOk (.seq ((items.toList.drop (sIx items.size 0 lo)).take (sIx items.size items.size hi - sIx items.size 0 lo)).toArray) := by
    show ((items.toList.drop (sIx items.size 0 lo)).take (sIx items.size items.size hi - sIx items.size 0 lo)).toArray.size ≤ sizeLine
    rw [List.size_toArray, List.length_take, List.length_drop, Array.length_toList]
    omega
  have hj : sIx items.size items.size hi ≤ items.size := sIx_le _ _ (Nat.le_refl _) hi
  obtain ⟨os, hos, hcs, hds⟩ := id hs
  have hTs : s.TypeIs (.ref sl) "slice" := ⟨os, hos, hcs⟩
  unfold getItem
  try with_reducible refine wpAny_holding ?_
  first | refine wpAny_bind (wpAny_pure ?_) | skip
  refine wpAny_bind (wpAny_sequenceKey ht.typeIs (by decide) ?_)
  refine wpAny_bind (wpAny_callSpecial?_slot (name := Str.ofString "__getitem__") ht.typeIs PyProof.Rows.slot_tuple_getitem
    (wpAny_call_entry PyProof.Rows.slot_tuple_getitem ht.typeIs entry_tuple_getitem ?_ (args_tuple_getitem _ _)))
  show wpAny _ _ (Builtin.Tuple.tupleItemsOf (.ref t) >>= _) _ _ s
  refine wpAny_bind (tupleItemsOf_ ht ?_)
  refine wpAny_bind (wpAny_typeOf hTs ?_)
  rw [if_pos (by decide)]
  refine wpAny_bind (sliceApplied_gen hs pl pu ?_)
  have hno : ¬ ((((sIx items.size 0 lo : Nat) : Int) == 0 && (1 : Int) == 1 && (sIx items.size items.size hi - sIx items.size 0 lo) == items.size) = true) := by
    intro q
    rw [Bool.and_eq_true, Bool.and_eq_true] at q
    have q1 : ((sIx items.size 0 lo : Nat) : Int) = 0 := eq_of_beq q.1.1
    have q2 : sIx items.size items.size hi - sIx items.size 0 lo = items.size := eq_of_beq q.2
    exact hw ⟨by omega, by omega⟩
  show wpAny _ _ (if (((sIx items.size 0 lo : Nat) : Int) == 0 && (1 : Int) == 1 && (sIx items.size items.size hi - sIx items.size 0 lo) == items.size) = true then _ else _) _ _ s
  rw [if_neg hno, pick_gen]
  first
    | exact wpAny_bind (m := Builtin.Tuple.tupleExact _) (wpAny_newObj_type (wpAny_pure ⟨_, rfl, wpAny_pure h⟩) htake)
    | exact wpAny_bind (m := Builtin.Tuple.tupleExact _) (wpAny_newObj_type (wpAny_bind (wpAny_pure (wpAny_pure ⟨_, rfl, wpAny_pure h⟩))) htake)
    | exact wpAny_bind (wpAny_bind (m := Builtin.Tuple.tupleExact _) (wpAny_newObj_type (wpAny_pure (wpAny_pure ⟨_, rfl, wpAny_pure h⟩)) htake))
    | exact wpAny_bind (wpAny_bind (m := Builtin.Tuple.tupleExact _) (wpAny_newObj_type (wpAny_pure ⟨_, rfl, wpAny_pure h⟩) htake))
end
end HT

namespace L2
open PySem PySem.Spec PyProof.Rows

/-! ### the parts of a slice -/
abbrev TO := St → Hp → (Option Int → Hp → Prop) → Prop
/-- a slice's part (left out, or an int) -/
def PO (X : Cx) (e : Option Expr) (t : TO) : Prop :=
  ∀ (pins : List (Addr × Obj)) (s : Shared) (σ : St) (H : Hp) (Q : Option Int → Hp → Prop), Inv X pins σ H s → t σ H Q →
    wpAny (model X.prog X.w) X.A (evalPart e X.env) (fun u s' => ∃ o H', Inv X pins σ H' s' ∧ IsPart u o ∧ Q o H') X.xe s
def tNoPart : TO := fun _ H Q => Q none H
def tPart (t : TE) : TO := fun σ H Q => t σ H fun x H1 => ∃ i, x = .int i ∧ Q (some i) H1

theorem intsAre_of {ns : List Int} : ∀ {us : List Value}, Vals (ns.map V.int) us → IntsAre us ns := by
  induction ns with
  | nil => intro us r; rw [List.map_nil] at r; cases r; exact .nil
  | cons n ns ih =>
    intro us r
    rw [List.map_cons] at r
    cases r with
    | cons r1 r2 =>
      obtain ⟨t, e⟩ := r1
      subst e
      exact .cons n t (ih r2)

section
variable {X : Cx} {e : Expr} {te : TE} {lo hi : Option Expr} {tl th : TO} {pos p2 : Pos}

theorem po_none : PO X none tNoPart := by
  intro pins s σ H Q I h
  rw [evalPart_none]
  exact wpAny_pure ⟨none, H, I, .none, h⟩
theorem po_some (h : PE X e te) : PO X (some e) (tPart te) := by
  intro pins s σ H Q I hw
  rw [evalPart_some]
  refine thn (h pins s σ H _ I hw) fun u s1 ⟨x, H1, I1, r1, q1⟩ => ?_
  obtain ⟨i, rfl, q⟩ := q1
  obtain ⟨t, rfl⟩ := r1
  exact ⟨some i, H1, I1, .int i t, q⟩

/-- what a slice of a value is, by values: the slice object stands at sl -/
def SlR (X : Cx) (r : V → Option Int → Option Int → Hp → VK → Prop) : Prop :=
  ∀ (pins : List (Addr × Obj)) (s : Shared) (σ : St) (H : Hp) (x : V) (v vl vu : Value) (lo hi : Option Int) (sl : Addr) (Q : VK), Inv X pins σ H s → RelV x v → s.heap.IsSliceOf sl vl vu .none → IsPart vl lo → IsPart vu hi → r x lo hi H Q →
    ∃ T id, typeLookup (.type T) "__getitem__" = pure (some (.builtin id)) ∧ s.TypeIs v T ∧ wpAny (model X.prog X.w) X.A (getItem v (.ref sl)) (EP X pins σ Q) X.xe s
theorem SlR.or {r r' : V → Option Int → Option Int → Hp → VK → Prop} (h : SlR X r) (h' : SlR X r') : SlR X (fun x lo hi H Q => r x lo hi H Q ∨ r' x lo hi H Q) := by
  intro pins s σ H x v vl vu lo hi sl Q I rx hs pl pu q
  rcases q with q | q
  · exact h pins s σ H x v vl vu lo hi sl Q I rx hs pl pu q
  · exact h' pins s σ H x v vl vu lo hi sl Q I rx hs pl pu q
def tSl (r : V → Option Int → Option Int → Hp → VK → Prop) (te : TE) (tl th : TO) : TE := fun σ H Q => te σ H fun x H1 => tl σ H1 fun l H2 => th σ H2 fun u H3 => r x l u H3 Q
/-- a[lo:hi], any a -/
theorem pe_slice {r : V → Option Int → Option Int → Hp → VK → Prop} (hr : SlR X r) (he : PE X e te) (hl : PO X lo tl) (hu : PO X hi th) : PE X (.Subscript e (.Slice lo hi none p2) pos) (tSl r te tl th) := by
  intro pins s σ H Q I h
  refine Subscript_ (thn (he pins s σ H _ I h) fun v s1 ⟨x, H1, I1, r1, q1⟩ => ?_)
  refine wpAny_Slice (thn (hl pins s1 σ H1 _ I1 q1) fun vl s2 ⟨l, H2, I2, pl, q2⟩ => thn (hu pins s2 σ H2 _ I2 q2) fun vu s3 ⟨u, H3, I3, pu, q3⟩ => ?_)
  rw [evalPart_none]
  refine wpAny_pure ?_
  have I4 : Inv X pins σ H3 { s3 with heap := s3.heap.push { cls := .type "slice", data := .fields #[vl, vu, .none] } } := I3.kept (t' := s3.toks) fun b ob q => Heap.get?_push_of_some _ q
  obtain ⟨T, id, hT, ht, hg⟩ := hr pins { s3 with heap := s3.heap.push { cls := .type "slice", data := .fields #[vl, vu, .none] } } σ H3 x v vl vu l u s3.heap.objs.size Q I4 r1 (Heap.IsSliceOf.new ..) pl pu q3
  show wpAny (model X.prog X.w) X.A (subscriptTail e (.Slice lo hi none p2) v (.ref s3.heap.objs.size)) (EP X pins σ Q) X.xe { s3 with heap := s3.heap.push { cls := .type "slice", data := .fields #[vl, vu, .none] } }
  exact tail_any (ops := [.ref s3.heap.objs.size, v]) ht hT hg (by with_unfolding_all rfl)

/-- the items of xs[lo:hi] -/
def cutV (xs : List V) (lo hi : Option Int) : List V := (xs.drop (HT.sIx xs.length 0 lo)).take (HT.sIx xs.length xs.length hi - HT.sIx xs.length 0 lo)
theorem cutV_length (xs : List V) (lo hi : Option Int) : (cutV xs lo hi).length ≤ xs.length := by
  unfold cutV
  rw [List.length_take, List.length_drop]
  omega
/-- t[lo:hi], not the whole of it (the whole would be t itself) -/
def rSlT (K : PySem.W.Frag) : V → Option Int → Option Int → Hp → VK → Prop := fun x lo hi H Q => ∃ a xs, x = .ref a ∧ SqT K H a xs ∧
  ¬ (HT.sIx xs.length 0 lo = 0 ∧ HT.sIx xs.length xs.length hi = xs.length) ∧ ∀ p, H p = none → Q (.ref p) (upd H p (.tup (cutV xs lo hi)))
theorem sl_tup : SlR X (rSlT X.K) := by
  intro pins s σ H x v vl vu lo hi sl Q I rx hs pl pu h
  obtain ⟨a, xs, rfl, hx, hw, q⟩ := h
  cases rx
  obtain ⟨its, r, ht, hz⟩ := I.tuple hx
  have hlen : its.toArray.size = xs.length := by rw [List.size_toArray]; exact r.length.symm
  refine ⟨"tuple", _, PyProof.Rows.slot_tuple_getitem.lookup, ht.typeIs, ?_⟩
  refine HT.getItem_tuple_cut ht hs pl pu (by rw [hlen]; exact hw) ?_ (by rw [hlen]; exact hz)
  rw [hlen]
  refine ⟨.ref s.heap.objs.size, _, I.laid (t' := s.toks) (o := .tup (cutV xs lo hi)) (fun b ob q => Heap.get?_push_of_some _ q) (Nat.le_refl _) ?_, rfl, q _ (I.hok.fresh (Nat.le_refl _))⟩
  exact ⟨Nat.le_trans (cutV_length xs lo hi) hz, _, (r.drop (HT.sIx xs.length 0 lo)).take (HT.sIx xs.length xs.length hi - HT.sIx xs.length 0 lo), IsTup.new _ _⟩

/-! ### t < u, t + u -/
def rLtT (K : PySem.W.Frag) : R2 := fun x y H Q => ∃ a b ns ms, x = .ref a ∧ y = .ref b ∧ SqT K H a (ns.map V.int) ∧ SqT K H b (ms.map V.int) ∧ Q (.bl (HT.lexLt ns ms)) H
theorem op_ltT (hu : X.A.units < cLine) : OpR X (compareOp .Lt) (rLtT X.K) := by
  intro pins s σ H x y v u Q I rx ry h
  obtain ⟨a, b, ns, ms, rfl, rfl, ha, hb, q⟩ := h
  cases rx
  cases ry
  obtain ⟨its, r1, p1, _⟩ := I.tuple ha
  obtain ⟨its2, r2, p2, _⟩ := I.tuple hb
  have i1 : IntsAre its.toArray.toList ns := intsAre_of r1
  have i2 : IntsAre its2.toArray.toList ms := intsAre_of r2
  exact HT.lt_tupInts p1 p2 i1 i2 hu ⟨.bl (HT.lexLt ns ms), H, I, rfl, q⟩
/-- t + u, t not empty: u empty gives t itself -/
def rCatT (K : PySem.W.Frag) : R2 := fun x y H Q => ∃ a b xs ys, x = .ref a ∧ y = .ref b ∧ SqT K H a xs ∧ SqT K H b ys ∧ xs ≠ [] ∧ xs.length + ys.length ≤ sizeLine ∧
  (ys = [] → Q (.ref a) H) ∧ (ys ≠ [] → ∀ p, H p = none → Q (.ref p) (upd H p (.tup (xs ++ ys))))
theorem Vals.nil_iff {xs : List V} {us : List Value} (r : Vals xs us) : us = [] ↔ xs = [] := by
  cases r with
  | nil => simp
  | cons _ _ => simp
theorem op_catT : OpR X (binaryOp .Add) (rCatT X.K) := by
  intro pins s σ H x y v u Q I rx ry h
  obtain ⟨a, b, xs, ys, rfl, rfl, ha, hb, hx, hz, q1, q2⟩ := h
  cases rx
  cases ry
  obtain ⟨its, r1, p1, _⟩ := I.tuple ha
  obtain ⟨its2, r2, p2, _⟩ := I.tuple hb
  refine HT.cat_tup p1 p2 (fun z => hx (r1.nil_iff.mp z)) (fun z => ⟨.ref a, H, I, rfl, q1 (r2.nil_iff.mp z)⟩) (fun z => ?_) (by rw [← r1.length, ← r2.length]; exact hz)
  refine ⟨.ref s.heap.objs.size, _, I.laid (t' := s.toks) (o := .tup (xs ++ ys)) (fun b ob q => Heap.get?_push_of_some _ q) (Nat.le_refl _) ?_, rfl, q2 (fun w => z (r2.nil_iff.mpr w)) _ (I.hok.fresh (Nat.le_refl _))⟩
  exact ⟨by rw [List.length_append]; exact hz, _, r1.append r2, IsTup.new _ _⟩
/-- tuple(t) -/
theorem call_tupleT : CallR X (.type "tuple") (fun xs H Q => ∃ a ys, xs = [.ref a] ∧ SqT X.K H a ys ∧ Q (.ref a) H) := by
  intro pins s σ H xs us Q I r h
  obtain ⟨a, ys, rfl, ha, q⟩ := h
  obtain ⟨u, rfl, ru⟩ := vals1 r
  cases ru
  obtain ⟨its, _, p1, _⟩ := I.tuple ha
  exact call_tuple_same (items := its.toArray) p1 ⟨.ref a, H, I, rfl, q⟩
end
end L2

namespace L2
open PySem PySem.Spec PyProof.Rows

/-! ### places -/
/-- the place that an index of any sign means -/
def ixN (n : Nat) (i : Int) : Option Nat := if 0 ≤ i then (if i < n then some i.toNat else none) else if -(n : Int) ≤ i then some (i + n).toNat else none
def atI {α : Type} (xs : List α) (i : Int) : Option α := (ixN xs.length i).bind fun j => xs[j]?
theorem ixN_seq {n : Nat} {i : Int} {j : Nat} (h : ixN n i = some j) : seqIndex? i n = some j ∧ j < n ∧ -(n : Int) ≤ i ∧ i < n := by
  unfold ixN at h
  by_cases h0 : 0 ≤ i
  · rw [if_pos h0] at h
    by_cases h1 : i < n
    · rw [if_pos h1] at h
      have e : i.toNat = j := Option.some.inj h
      exact ⟨by rw [seqIndex_of h0 h1, e], by omega, by omega, h1⟩
    · rw [if_neg h1] at h; cases h
  · rw [if_neg h0] at h
    by_cases h1 : -(n : Int) ≤ i
    · rw [if_pos h1] at h
      have e : (i + n).toNat = j := Option.some.inj h
      exact ⟨by rw [seqIndex_neg (by omega) h1, e], by omega, h1, by omega⟩
    · rw [if_neg h1] at h; cases h
theorem atI_get {α : Type} {xs : List α} {i : Int} {v : α} (h : atI xs i = some v) : ∃ j, seqIndex? i xs.length = some j ∧ xs[j]? = some v ∧ j < xs.length ∧ -(xs.length : Int) ≤ i ∧ i < xs.length := by
  unfold atI at h
  cases e : ixN xs.length i with
  | none => rw [e] at h; cases h
  | some j =>
    rw [e] at h
    obtain ⟨h1, h2, h3, h4⟩ := ixN_seq e
    exact ⟨j, h1, h, h2, h3, h4⟩
theorem atI_nat {α : Type} {xs : List α} {j : Nat} {v : α} (h : xs[j]? = some v) : atI xs (j : Int) = some v := by
  have hj : j < xs.length := (List.getElem?_eq_some_iff.mp h).1
  have e : ixN xs.length (j : Int) = some j := by
    unfold ixN
    rw [if_pos (by omega), if_pos (by omega)]; simp
  unfold atI; rw [e]; exact h
theorem atI_last {α : Type} (xs : List α) (v : α) : atI (xs ++ [v]) (-1) = some v := by
  have hl : (xs ++ [v]).length = xs.length + 1 := by simp
  have e : ixN (xs ++ [v]).length (-1) = some xs.length := by
    unfold ixN
    rw [hl, if_neg (by decide), if_pos (by omega)]
    congr 1
    omega
  unfold atI
  rw [e]
  show (xs ++ [v])[xs.length]? = some v
  simp

/-! ### what may be subscripted -/
/-- what stands as an index of a plain subscript -/
def PlainIx (b : Expr) : Prop := ∀ o i, subscripted b false o i = operate [o, i] (getItem o i)
/-- a subscript by values -/
def IxR (X : Cx) (r : R2) : Prop :=
  ∀ (value slice : Expr) (pins : List (Addr × Obj)) (s : Shared) (σ : St) (H : Hp) (x y : V) (v u : Value) (Q : VK), Inv X pins σ H s → RelV x v → RelV y u → r x y H Q →
    subscripted slice false v u = operate [v, u] (getItem v u) → wpAny (model X.prog X.w) X.A (subscriptTail value slice v u) (EP X pins σ Q) X.xe s
/-- a call of a builtin's method by values: the receiver, the arguments -/
def MtR (X : Cx) (id : String) (r : V → List V → Hp → VK → Prop) : Prop :=
  ∀ (pins : List (Addr × Obj)) (s : Shared) (σ : St) (H : Hp) (x : V) (xs : List V) (v : Value) (us : List Value) (Q : VK), Inv X pins σ H s → RelV x v → Vals xs us → r x xs H Q →
    wpAny (model X.prog X.w) X.A (call (.builtin id) (v :: us)) (EP X pins σ Q) X.xe s
section
variable {X : Cx} {a b : Expr} {ta tb : TE} {pos : Pos}
theorem IxR.or {r r' : R2} (h : IxR X r) (h' : IxR X r') : IxR X (fun x y H Q => r x y H Q ∨ r' x y H Q) := by
  intro value slice pins s σ H x y v u Q I rx ry q hs
  rcases q with q | q
  · exact h value slice pins s σ H x y v u Q I rx ry q hs
  · exact h' value slice pins s σ H x y v u Q I rx ry q hs
theorem MtR.or {id : String} {r r' : V → List V → Hp → VK → Prop} (h : MtR X id r) (h' : MtR X id r') : MtR X id (fun x xs H Q => r x xs H Q ∨ r' x xs H Q) := by
  intro pins s σ H x xs v us Q I rx rs q
  rcases q with q | q
  · exact h pins s σ H x xs v us Q I rx rs q
  · exact h' pins s σ H x xs v us Q I rx rs q
/-- a[b] -/
theorem pe_ix {r : R2} (hr : IxR X r) (ha : PE X a ta) (hb : PE X b tb) (hs : PlainIx b) : PE X (.Subscript a b pos) (tOp r ta tb) := by
  intro pins s σ H Q I h
  exact Subscript_ (binT ha hb I h fun v u s2 x y H2 I2 rx ry q => hr a b pins s2 σ H2 x y v u Q I2 rx ry q (hs _ _))

def rIxL (K : PySem.W.Frag) : R2 := fun x y H Q => ∃ p xs i v, x = .ref p ∧ y = .int i ∧ SqL K H p xs ∧ atI xs i = some v ∧ Q v H
def rIxT (K : PySem.W.Frag) : R2 := fun x y H Q => ∃ p xs i v, x = .ref p ∧ y = .int i ∧ SqT K H p xs ∧ atI xs i = some v ∧ Q v H
def rIxS : R2 := fun x y H Q => ∃ z i c, x = .str z ∧ y = .int i ∧ z.length ≤ sizeLine ∧ atI z.cps.toList i = some c ∧ Q (.str ⟨#[c]⟩) H
theorem ix_list : IxR X (rIxL X.K) := by
  intro value slice pins s σ H x y v u Q I rx ry h hs
  obtain ⟨p, xs, i, z, rfl, rfl, hq, he, q⟩ := h
  cases rx
  obtain ⟨t, rfl⟩ := ry
  obtain ⟨its, r, pl, hz⟩ := I.list hq
  obtain ⟨j, h1, h2, h3, h4, h5⟩ := atI_get he
  obtain ⟨w, ew, rw'⟩ := r.get h2
  have hl := r.length
  have hn := line63
  have fin : EP X pins σ Q w s := ⟨z, H, I, rw', q⟩
  by_cases h0 : 0 ≤ i
  · have hj : i.toNat = j := by
      rw [seqIndex_of h0 h5] at h1
      exact Option.some.inj h1
    exact item_listR pl.isList h0 (by omega) (by rw [hj]; simpa using ew) fin hs
  · have hj : (i + (its.toArray.size : Int)).toNat = j := by
      rw [seqIndex_neg (by omega) h4] at h1
      rw [List.size_toArray, ← hl]
      exact Option.some.inj h1
    exact subscriptTail_builtinR (x := w) pl.isList.typeIs slot_list_getitem.lookup
      (wpAny_getItem_list_neg (Q := fun r s' => r = w ∧ EP X pins σ Q r s') pl.isList (by omega) (by rw [List.size_toArray] <;> omega) (by omega) (by rw [hj]; simpa using ew) ⟨rfl, fin⟩) hs
theorem ix_tup : IxR X (rIxT X.K) := by
  intro value slice pins s σ H x y v u Q I rx ry h hs
  obtain ⟨p, xs, i, z, rfl, rfl, hq, he, q⟩ := h
  cases rx
  obtain ⟨t, rfl⟩ := ry
  obtain ⟨its, r, pl, hz⟩ := I.tuple hq
  obtain ⟨j, h1, h2, h3, h4, h5⟩ := atI_get he
  obtain ⟨w, ew, rw'⟩ := r.get h2
  have hl := r.length
  have hn := line63
  have fin : EP X pins σ Q w s := ⟨z, H, I, rw', q⟩
  exact subscriptTail_builtinR (x := w) pl.typeIs slot_tuple_getitem.lookup
    (getItem_tuple (j := j) (Q := fun r s' => r = w ∧ EP X pins σ Q r s') pl (by omega) (by omega) (by rw [List.size_toArray, ← hl]; exact h1) (by simpa using ew) ⟨rfl, fin⟩) hs
theorem ix_str : IxR X rIxS := by
  intro value slice pins s σ H x y v u Q I rx ry h hs
  obtain ⟨z, i, c, rfl, rfl, hz, he, q⟩ := h
  obtain ⟨t, rfl⟩ := rx
  obtain ⟨t', rfl⟩ := ry
  obtain ⟨j, h1, h2, h3, h4, h5⟩ := atI_get he
  have hl : z.cps.toList.length = z.length := by simp [Str.length]
  rw [hl] at h1 h4 h5
  have hn := line63
  exact tail_any (typeIs_str s z t) slot_str_getitem.lookup (getItem_str (c := c) (by
    have e1 : decide (i < -(2 ^ 63 : Int)) = false := decide_eq_false (by omega)
    have e2 : decide (i ≥ 2 ^ 63) = false := decide_eq_false (by omega)
    rw [e1, e2, Bool.or_false]) (by rw [h1]; simpa using h2) ⟨.str ⟨#[c]⟩, H, I.tok _, ⟨_, rfl⟩, q⟩) hs
/-- list, tuple or str -/
def rIx (K : PySem.W.Frag) : R2 := fun x y H Q => rIxL K x y H Q ∨ rIxT K x y H Q ∨ rIxS x y H Q
theorem ix_seq : IxR X (rIx X.K) := ix_list.or (ix_tup.or ix_str)

/-! ### xs[i] = v, any sign -/
/-- the list's object behind a store -/
theorem mapSeq_set (its : List Value) (n j : Nat) (u : Value) : Obj.mapSeq (·.setIfInBounds j u) { cls := .type "list", data := .seq its.toArray n } = { cls := .type "list", data := .seq (its.set j u).toArray n } := by
  simp [Obj.mapSeq]
theorem Inv.lst {pins : List (Addr × Obj)} {σ : St} {H : Hp} {s : Shared} {p : Addr} {xs : List V} (I : Inv X pins σ H s) (h : H p = some (.lst xs)) :
    ∃ (its : List Value) (n : Nat), Vals xs its ∧ s.heap.get? p = some { cls := .type "list", data := .seq its.toArray n } ∧ xs.length ≤ sizeLine := by
  obtain ⟨z, its, n, r, e⟩ := I.hok p _ h
  exact ⟨its, n, r, e, z⟩
/-- the list at p is written by an update of its object -/
theorem Inv.lstUpd {pins : List (Addr × Obj)} {σ : St} {H : Hp} {s : Shared} {p : Addr} {xs ys : List V} {its its' : List Value} {n n' : Nat} {f : Obj → Obj} (I : Inv X pins σ H s) (h : H p = some (.lst xs))
    (ho : s.heap.get? p = some { cls := .type "list", data := .seq its.toArray n }) (hf : f { cls := .type "list", data := .seq its.toArray n } = { cls := .type "list", data := .seq its'.toArray n' }) (r : Vals ys its') (hz : ys.length ≤ sizeLine) (t : Nat) :
    Inv X pins σ (upd H p (.lst ys)) { s with heap := s.heap.update p f, toks := t } := by
  have e : (s.heap.update p f).get? p = some { cls := .type "list", data := .seq its'.toArray n' } := by
    rw [Heap.get?_update_self f ho (by rw [hf] <;> rfl), hf]
  refine I.write (x := p) (e := p) (by rw [h]; trivial) (.inl rfl) (fun b u hb q => (Heap.get?_update_other _ _ (Ne.symm hb)).trans q) ⟨_, e⟩ ?_
  exact ⟨hz, its', n', r, e⟩
def rSetL : V → V → V → Hp → (Hp → Prop) → Prop := fun o i v H Q => ∃ p xs k j, o = .ref p ∧ i = .int k ∧ H p = some (.lst xs) ∧ ixN xs.length k = some j ∧ Q (upd H p (.lst (xs.set j v)))
theorem set_list : PSet X rSetL := by
  intro pins s σ H o i v ov iv u Q I ro ri rv h
  obtain ⟨p, xs, k, j, rfl, rfl, hp, hj, q⟩ := h
  cases ro
  obtain ⟨t, rfl⟩ := ri
  obtain ⟨its, n, r, ho, hz⟩ := I.lst hp
  obtain ⟨h1, h2, h3, h4⟩ := ixN_seq hj
  have hl := r.length
  have hn := line63
  have I' : Inv X pins σ (upd H p (.lst (xs.set j v))) { s with heap := s.heap.update p (Obj.mapSeq (·.setIfInBounds j u)) } :=
    I.lstUpd hp ho (mapSeq_set its n j u) (r.set rv j) (by rw [List.length_set]; exact hz) s.toks
  by_cases h0 : 0 ≤ k
  · have hk : k.toNat = j := by
      rw [seqIndex_of h0 h4] at h1
      exact Option.some.inj h1
    exact PySem.W.ki_setAt ho h0 (by omega) (by rw [List.size_toArray, ← hl]; exact h4) (by rw [hk]; exact ⟨_, I', q⟩)
  · have hk : (k + (its.toArray.size : Int)).toNat = j := by
      rw [seqIndex_neg (by omega) h3] at h1
      rw [List.size_toArray, ← hl]
      exact Option.some.inj h1
    exact PySem.W.ki_setBack ho (by omega) (by rw [List.size_toArray, ← hl]; exact h3) (by omega) (by rw [hk]; exact ⟨_, I', q⟩)

/-! ### slices -/
theorem slice_bounds (lo hi : Option Int) (n : Nat) : (sliceBounds lo hi none n).1 = ((HT.sIx n 0 lo : Nat) : Int) ∧ (sliceBounds lo hi none n).2.1 = ((HT.sIx n n hi : Nat) : Int) ∧ (sliceBounds lo hi none n).2.2 = 1 := by
  refine ⟨?_, ?_, rfl⟩
  · cases lo with
    | none => simp [sliceBounds, HT.sIx]
    | some i =>
      simp only [sliceBounds, HT.sIx, Option.getD_none, show (1 : Int) > 0 by decide, if_true]
      by_cases h : i < 0
      · simp only [h, if_true] <;> omega
      · simp only [h, if_false] <;> omega
  · cases hi with
    | none => simp [sliceBounds, HT.sIx]
    | some i =>
      simp only [sliceBounds, HT.sIx, Option.getD_none, show (1 : Int) > 0 by decide, if_true]
      by_cases h : i < 0
      · simp only [h, if_true] <;> omega
      · simp only [h, if_false] <;> omega
theorem slicePick_cut (its : List Value) (lo hi : Option Int) : slicePick its.toArray lo hi none = ((its.drop (HT.sIx its.length 0 lo)).take (HT.sIx its.length its.length hi - HT.sIx its.length 0 lo)).toArray := by
  obtain ⟨h1, h2, h3⟩ := slice_bounds lo hi its.toArray.size
  unfold slicePick
  rw [h1, h2, h3]
  simp only [sliceRange_one, pick_run, List.size_toArray] <;> rfl
/-- xs[lo:hi] of a list: a new list -/
def rSlL (K : PySem.W.Frag) : V → Option Int → Option Int → Hp → VK → Prop := fun x lo hi H Q => ∃ a xs, x = .ref a ∧ SqL K H a xs ∧ ∀ p, H p = none → Q (.ref p) (upd H p (.lst (cutV xs lo hi)))
theorem sl_list : SlR X (rSlL X.K) := by
  intro pins s σ H x v vl vu lo hi sl Q I rx hs pl pu h
  obtain ⟨a, xs, rfl, hx, q⟩ := h
  cases rx
  obtain ⟨its, r, ht, hz⟩ := I.list hx
  have hlen := r.length
  refine ⟨"list", _, slot_list_getitem.lookup, ht.isList.typeIs, ?_⟩
  refine wpAny_getItem_list_slice ht.isList hs pl pu .none (by simp) ?_ (by rw [List.size_toArray] <;> omega)
  rw [slicePick_cut, ← hlen]
  refine ⟨.ref s.heap.objs.size, _, I.laid (t' := s.toks) (o := .lst (cutV xs lo hi)) (fun b ob q => Heap.get?_push_of_some _ q) (Nat.le_refl _) ?_, rfl, q _ (I.hok.fresh (Nat.le_refl _))⟩
  exact ⟨Nat.le_trans (cutV_length xs lo hi) hz, _, 0, (r.drop (HT.sIx xs.length 0 lo)).take (HT.sIx xs.length xs.length hi - HT.sIx xs.length 0 lo), Heap.get?_push_size _ rfl⟩

/-! ### in, not in: flat items -/
def flatV : V → Bool
  | .non => true
  | .bl _ => true
  | .int _ => true
  | .str _ => true
  | _ => false
/-- == of flat values -/
def eqV : V → V → Bool
  | .non, .non => true
  | .bl a, .bl b => a == b
  | .bl a, .int b => (if a then 1 else 0) == b
  | .int a, .bl b => a == (if b then 1 else 0)
  | .int a, .int b => a == b
  | .str a, .str b => a == b
  | _, _ => false
theorem eqAt_V {A : Around} {s : Shared} {y x : V} {u v : Value} (ry : RelV y u) (rx : RelV x v) (fy : flatV y = true) (fx : flatV x = true) : SeqAt.EqAt A s u v (eqV y x) := by
  cases y with
  | non =>
    cases ry
    cases x with
    | non => cases rx; exact SeqAt.EqAt.same _
    | bl b => cases rx; exact SeqAt.EqAt.none_bool b
    | int b => obtain ⟨t, rfl⟩ := rx; exact SeqAt.EqAt.none_int b t
    | str b => obtain ⟨t, rfl⟩ := rx; exact SeqAt.EqAt.none_str b t
    | _ => exact absurd (show false = true from fx) Bool.false_ne_true
  | bl a =>
    cases ry
    cases x with
    | non => cases rx; exact SeqAt.EqAt.bool_none a
    | bl b => cases rx; exact SeqAt.EqAt.bool_bool a b
    | int b => obtain ⟨t, rfl⟩ := rx; exact SeqAt.EqAt.bool_int a b t
    | str b => obtain ⟨t, rfl⟩ := rx; exact SeqAt.EqAt.bool_str a b t
    | _ => exact absurd (show false = true from fx) Bool.false_ne_true
  | int a =>
    obtain ⟨t', rfl⟩ := ry
    cases x with
    | non => cases rx; exact SeqAt.EqAt.int_none a t'
    | bl b => cases rx; exact SeqAt.EqAt.int_bool a t' b
    | int b => obtain ⟨t, rfl⟩ := rx; exact SeqAt.EqAt.int_int a t' b t
    | str b => obtain ⟨t, rfl⟩ := rx; exact SeqAt.EqAt.int_str a t' b t
    | _ => exact absurd (show false = true from fx) Bool.false_ne_true
  | str a =>
    obtain ⟨t', rfl⟩ := ry
    cases x with
    | non => cases rx; exact SeqAt.EqAt.str_none a t'
    | bl b => cases rx; exact SeqAt.EqAt.str_bool a t' b
    | int b => obtain ⟨t, rfl⟩ := rx; exact SeqAt.EqAt.str_int a t' b t
    | str b => obtain ⟨t, rfl⟩ := rx; exact SeqAt.EqAt.str_str a t' b t
    | _ => exact absurd (show false = true from fx) Bool.false_ne_true
  | _ => exact absurd (show false = true from fy) Bool.false_ne_true
/-- the items' answers, read off the values (a value's own answer does not lean on its token) -/
def eqU (x : V) (u : Value) : Bool := match u with
  | .none => eqV .non x
  | .bool b => eqV (.bl b) x
  | .int i _ => eqV (.int i) x
  | .str z _ => eqV (.str z) x
  | _ => false
theorem eqU_of {x y : V} {u : Value} (r : RelV y u) (f : flatV y = true) : eqU x u = eqV y x := by
  cases y with
  | non => cases r; rfl
  | bl b => cases r; rfl
  | int i => obtain ⟨t, rfl⟩ := r; rfl
  | str z => obtain ⟨t, rfl⟩ := r; rfl
  | _ => exact absurd (show false = true from f) Bool.false_ne_true
theorem any_eqU {x : V} : ∀ {xs : List V} {us : List Value}, Vals xs us → xs.all flatV = true → us.any (eqU x) = xs.any fun y => eqV y x
  | _, _, .nil, _ => rfl
  | y :: xs, u :: us, .cons r t, f => by
    rw [List.all_cons, Bool.and_eq_true] at f
    rw [List.any_cons, List.any_cons, eqU_of r f.1, any_eqU t f.2]
theorem mem_eqAt {A : Around} {s : Shared} {x : V} {v : Value} (rx : RelV x v) (fx : flatV x = true) : ∀ {xs : List V} {us : List Value}, Vals xs us → xs.all flatV = true → ∀ u ∈ us, SeqAt.EqAt A s u v (eqU x u)
  | _, _, .nil, _ => fun u hu => by cases hu
  | y :: xs, u :: us, .cons r t, f => fun u' hu => by
    rw [List.all_cons, Bool.and_eq_true] at f
    rcases List.mem_cons.mp hu with rfl | hu
    · rw [eqU_of r f.1]; exact eqAt_V r rx f.1 fx
    · exact mem_eqAt rx fx t f.2 u' hu
def inV (x : V) (xs : List V) : Bool := xs.any fun y => eqV y x
/-- x in a list or tuple of flat items -/
def rIn (K : PySem.W.Frag) (neg : Bool) : R2 := fun x y H Q => ∃ p xs, y = .ref p ∧ (SqL K H p xs ∨ SqT K H p xs) ∧ flatV x = true ∧ xs.all flatV = true ∧ Q (.bl (if neg then !inV x xs else inV x xs)) H
theorem op_in_seq : OpR X (compareOp .In) (rIn X.K false) := by
  intro pins s σ H x y v u Q I rx ry h
  obtain ⟨p, xs, rfl, hq, fx, fs, q⟩ := h
  cases ry
  rcases hq with hq | hq
  · obtain ⟨its, r, pl, hz⟩ := I.list hq
    refine SeqAt.in_listAt (eqU x) pl.isList (fun w hw => mem_eqAt rx fx r fs w (by simpa using hw)) ⟨.bl _, H, I, rfl, ?_⟩
    rw [show its.toArray.any (eqU x) = its.any (eqU x) by simp, any_eqU r fs]
    exact q
  · obtain ⟨its, r, pl, hz⟩ := I.tuple hq
    refine SeqAt.in_tupleAt (eqU x) pl (fun w hw => mem_eqAt rx fx r fs w (by simpa using hw)) ⟨.bl _, H, I, rfl, ?_⟩
    rw [show its.toArray.any (eqU x) = its.any (eqU x) by simp, any_eqU r fs]
    exact q
theorem op_notIn_seq : OpR X (compareOp .NotIn) (rIn X.K true) := by
  intro pins s σ H x y v u Q I rx ry h
  obtain ⟨p, xs, rfl, hq, fx, fs, q⟩ := h
  cases ry
  rcases hq with hq | hq
  · obtain ⟨its, r, pl, hz⟩ := I.list hq
    refine SeqAt.notIn_listAt (eqU x) pl.isList (fun w hw => mem_eqAt rx fx r fs w (by simpa using hw)) ⟨.bl _, H, I, rfl, ?_⟩
    rw [show its.toArray.any (eqU x) = its.any (eqU x) by simp, any_eqU r fs]
    exact q
  · obtain ⟨its, r, pl, hz⟩ := I.tuple hq
    refine SeqAt.notIn_tupleAt (eqU x) pl (fun w hw => mem_eqAt rx fx r fs w (by simpa using hw)) ⟨.bl _, H, I, rfl, ?_⟩
    rw [show its.toArray.any (eqU x) = its.any (eqU x) by simp, any_eqU r fs]
    exact q
theorem op_notIn_str : OpR X (compareOp .NotIn) (fun x y H Q => ∃ i j, x = .str i ∧ y = .str j ∧ Q (.bl (!(!(Builtin.Str.occurrences j i 0 j.length 1).isEmpty))) H) := by
  intro pins s σ H x y v u Q I rx ry h
  obtain ⟨i, j, rfl, rfl, q⟩ := h
  obtain ⟨t, rfl⟩ := rx
  obtain ⟨t', rfl⟩ := ry
  exact notIn_str ⟨.bl _, H, I, rfl, q⟩

/-! ### len, list(x), tuple(x) of any list or tuple that is read -/
theorem call_len_seq : CallR X (.builtin "len") (fun xs H Q => ∃ p ys, xs = [.ref p] ∧ (SqL X.K H p ys ∨ SqT X.K H p ys) ∧ Q (.int ys.length) H) := by
  intro pins s σ H xs us Q I r h
  obtain ⟨p, ys, rfl, hq, q⟩ := h
  obtain ⟨u, rfl, rx⟩ := vals1 r
  cases rx
  have hn := line63
  rcases hq with hq | hq
  · obtain ⟨its, r', pl, hz⟩ := I.list hq
    have hlen := r'.length
    exact Calls.call_len_list pl.isList (by simp only [List.size_toArray] <;> omega) ⟨.int ys.length, H, I.tok _, ⟨s.toks + 1, by rw [List.size_toArray, hlen]⟩, q⟩
  · obtain ⟨its, r', pl, hz⟩ := I.tuple hq
    have hlen := r'.length
    exact len_tuple pl (by simp only [List.size_toArray] <;> omega) ⟨.int ys.length, H, I.tok _, ⟨s.toks + 1, by rw [List.size_toArray, hlen]⟩, q⟩
theorem call_len_str : CallR X (.builtin "len") (fun xs H Q => ∃ z, xs = [.str z] ∧ z.length ≤ sizeLine ∧ Q (.int z.length) H) := by
  intro pins s σ H xs us Q I r h
  obtain ⟨z, rfl, hz, q⟩ := h
  obtain ⟨u, rfl, t, rfl⟩ := vals1 r
  have hn := line63
  exact len_str (by omega) ⟨.int z.length, H, I.tok _, ⟨_, rfl⟩, q⟩
theorem CallR.or {f : Value} {r r' : List V → Hp → VK → Prop} (h : CallR X f r) (h' : CallR X f r') : CallR X f (fun xs H Q => r xs H Q ∨ r' xs H Q) := by
  intro pins s σ H xs us Q I rs q
  rcases q with q | q
  · exact h pins s σ H xs us Q I rs q
  · exact h' pins s σ H xs us Q I rs q
theorem call_list_of : CallR X (.type "list") (fun xs H Q => ∃ p ys, xs = [.ref p] ∧ (SqL X.K H p ys ∨ SqT X.K H p ys) ∧ ∀ l, H l = none → Q (.ref l) (upd H l (.lst ys))) := by
  intro pins s σ H xs us Q I r h
  obtain ⟨p, ys, rfl, hq, q⟩ := h
  obtain ⟨u, rfl, rx⟩ := vals1 r
  cases rx
  have fin : ∀ (its : List Value), Vals ys its → ys.length ≤ sizeLine → ∀ (h' : Heap) (c' : Nat), (∀ b o', s.heap.get? b = some o' → h'.get? b = some o') →
      h'.get? s.heap.objs.size = some { cls := .type "list", dict := none, data := .seq its.toArray c', slots := #[] } → EP X pins σ Q (.ref s.heap.objs.size) { s with heap := h' } := fun its r' hz h' c' kp e =>
    ⟨.ref s.heap.objs.size, _, I.laid (t' := s.toks) kp (Nat.le_refl _) (show ObjOk X.prog X.w _ h' _ (.lst ys) from ⟨hz, its, c', r', e⟩), rfl, q _ (I.hok.fresh (Nat.le_refl _))⟩
  rcases hq with hq | hq
  · obtain ⟨its, r', pl, hz⟩ := I.list hq
    have hlen := r'.length
    obtain ⟨o, ho, hc, n, hd⟩ := pl.isList
    exact call_list_seq p (.inl rfl) ho hc hd (fun h' c' kp e => fin its r' hz h' c' kp e) (by simp only [List.size_toArray] <;> omega)
  · obtain ⟨its, r', pl, hz⟩ := I.tuple hq
    have hlen := r'.length
    obtain ⟨o, ho, hc, n, hd⟩ := pl
    exact call_list_seq p (.inr rfl) ho hc hd (fun h' c' kp e => fin its r' hz h' c' kp e) (by simp only [List.size_toArray] <;> omega)
theorem call_tuple_of : CallR X (.type "tuple") (fun xs H Q => ∃ p ys, xs = [.ref p] ∧ ((SqL X.K H p ys ∧ ∀ l, H l = none → Q (.ref l) (upd H l (.tup ys))) ∨ (SqT X.K H p ys ∧ Q (.ref p) H))) := by
  intro pins s σ H xs us Q I r h
  obtain ⟨p, ys, rfl, h⟩ := h
  obtain ⟨u, rfl, rx⟩ := vals1 r
  cases rx
  rcases h with ⟨hq, q⟩ | ⟨hq, q⟩
  · obtain ⟨its, r', pl, hz⟩ := I.list hq
    have hlen := r'.length
    refine call_tuple_list pl.isList (fun h' kp => ?_) (by simp only [List.size_toArray] <;> omega)
    have I1 : Inv X pins σ H { s with heap := h' } := I.kept (t' := s.toks) kp
    have I2 : Inv X pins σ (upd H h'.objs.size (.tup ys)) { s with heap := h'.push { cls := .type "tuple", data := .seq its.toArray } } :=
      I1.laid (t' := s.toks) (fun b o e => Heap.get?_push_of_some _ e) (Nat.le_refl _) (show ObjOk X.prog X.w _ _ _ (.tup ys) from ⟨hz, its, r', IsTup.new _ _⟩)
    exact ⟨.ref h'.objs.size, _, I2, rfl, q _ (I1.hok.fresh (Nat.le_refl _))⟩
  · obtain ⟨its, r', pl, hz⟩ := I.tuple hq
    exact call_tuple_same pl ⟨.ref p, H, I, rfl, q⟩

/-! ### the call of a builtin's method: o.m(..) -/
/-- the value is of that builtin type -/
def tyV (K : PySem.W.Frag) (T : String) (x : V) (H : Hp) : Prop := match x with
  | .str _ => T = "str"
  | .int _ => T = "int"
  | .ref p => (T = "list" ∧ ∃ xs, SqL K H p xs) ∨ (T = "tuple" ∧ ∃ o, K.lookup p = some o ∧ o.cls = .type "tuple" ∧ o.dict = none) ∨
      (T = "dict" ∧ ((∃ kvs, H p = some (.dK kvs)) ∨ ∃ kvs, H p = some (.dT kvs))) ∨ (T = "set" ∧ ∃ S n, H p = some (.set S n))
  | _ => False
theorem tyV_is {pins : List (Addr × Obj)} {σ : St} {H : Hp} {s : Shared} {T : String} {x : V} {v : Value} (I : Inv X pins σ H s) (r : RelV x v) (ty : tyV X.K T x H) :
    s.TypeIs v T ∧ ∀ a, v = .ref a → ∃ ob, s.heap.get? a = some ob ∧ ob.dict = none := by
  cases x with
  | str z =>
    obtain ⟨t, rfl⟩ := r
    cases (show T = "str" from ty)
    exact ⟨typeIs_str s z t, fun _ e => nomatch e⟩
  | int i =>
    obtain ⟨t, rfl⟩ := r
    cases (show T = "int" from ty)
    exact ⟨typeIs_int s i t, fun _ e => nomatch e⟩
  | ref p =>
    cases r
    rcases ty with ⟨rfl, xs, hq⟩ | ⟨rfl, o, hk, hc, hd⟩ | ⟨rfl, hk⟩ | ⟨rfl, S, n, hk⟩
    · obtain ⟨its, _, pl, _⟩ := I.list hq
      refine ⟨pl.isList.typeIs, fun a e => ?_⟩
      cases e
      obtain ⟨o, n, e, c, hd, _⟩ := pl
      exact ⟨o, e, hd⟩
    · refine ⟨⟨o, I.kIn p o hk, hc⟩, fun a e => ?_⟩
      cases e
      exact ⟨o, I.kIn _ o hk, hd⟩
    · have z : ∃ o, s.heap.get? p = some o ∧ o.ExactDict := by
        rcases hk with ⟨kvs, hk⟩ | ⟨kvs, hk⟩
        · obtain ⟨_, _, _, _, o, _, _, e, ex, _⟩ := I.hok p _ hk
          exact ⟨o, e, ex⟩
        · obtain ⟨_, _, _, _, o, _, _, e, ex, _⟩ := I.hok p _ hk
          exact ⟨o, e, ex⟩
      obtain ⟨o, e, ex⟩ := z
      refine ⟨⟨o, e, ex.1⟩, fun a e2 => ?_⟩
      cases e2
      exact ⟨o, e, ex.2.1⟩
    · obtain ⟨o, _, _, _, e, ex, _⟩ := I.hok p _ hk
      refine ⟨⟨o, e, ex.1⟩, fun a e2 => ?_⟩
      cases e2
      exact ⟨o, e, ex.2.1⟩
  | _ => exact False.elim ty
def tBM0 (K : PySem.W.Frag) (T : String) (r : V → List V → Hp → VK → Prop) (to : TE) : TE := fun σ H Q => to σ H fun x H1 => tyV K T x H1 ∧ r x [] H1 Q
def tBM (K : PySem.W.Frag) (T : String) (r : V → List V → Hp → VK → Prop) (to : TE) (t : TA) : TE := fun σ H Q => to σ H fun x H1 => tyV K T x H1 ∧ t σ H1 fun xs H2 => r x xs H2 Q
variable {o e : Expr} {es : List Expr} {to : TE} {t : TA} {name : Str} {apos cpos : Pos} {T id : String} {r : V → List V → Hp → VK → Prop}
theorem pe_bm0 (pa : PlainAttrs T) (slot : Slot T name id) (hty : typeOf (.builtin id) = pure (.type "method_descriptor")) (hm : MtR X id r) (ho : PE X o to)
    (hbase : attributeBase o name X.env (eval o X.env) = eval o X.env := by rfl) (hline : (apos.endLine == cpos.line) = true := by rfl) : PE X (.Call (.Attribute o name apos) [] [] cpos) (tBM0 X.K T r to) := by
  intro pins s σ H Q I h
  refine wpAny_Call_method0_late hbase hline (thn (ho pins s σ H _ I h) fun v s1 ⟨x, H1, I1, r1, ty, q1⟩ => ?_)
  obtain ⟨h1, h2⟩ := tyV_is I1 r1 ty
  exact ⟨T, id, pa, slot, hty, h1, h2, Calls.callWith_builtin rfl (PySem.evalArgs_none (hm pins s1 σ H1 x [] v [] Q I1 r1 .nil q1))⟩
theorem pe_bm (pa : PlainAttrs T) (slot : Slot T name id) (hty : typeOf (.builtin id) = pure (.type "method_descriptor")) (hm : MtR X id r) (ho : PE X o to) (ha : PA X (e :: es) t)
    (hbase : attributeBase o name X.env (eval o X.env) = eval o X.env := by rfl)
    (hfew : ((backTo cpos (starEach (e :: es) X.env)).all (fun x => !x.1) && (backToKw cpos (keywordEach [] X.env)).all (fun x => x.1.isSome)
      && decide ((e :: es).length + ([] : List Keyword).length + (if ([] : List Keyword).isEmpty then 0 else 1) < 30)) = true := by rfl)
    (hline : (apos.endLine == cpos.line) = true := by rfl) (hs : starEach (e :: es) X.env = (false, eval e X.env) :: starEach es X.env := by rfl) (hplain : (backTo cpos (starEach es X.env)).any (·.1) = false := by rfl) :
    PE X (.Call (.Attribute o name apos) (e :: es) [] cpos) (tBM X.K T r to t) := by
  intro pins s σ H Q I h
  refine wpAny_Call_method_late hbase hfew hline rfl (thn (ho pins s σ H _ I h) fun v s1 ⟨x, H1, I1, r1, ty, q1⟩ => ?_)
  obtain ⟨h1, h2⟩ := tyV_is I1 r1 ty
  refine ⟨T, id, pa, slot, hty, h1, h2, ?_⟩
  have hA := ha cpos pins s1 σ H1 _ I1 q1
  rw [hs] at hA ⊢
  refine Calls.callWith_builtin (by show (false || (backTo cpos (starEach es X.env)).any (·.1)) = false; rw [hplain] <;> rfl) (Calls.evalArgs_plain ?_)
  exact thn hA fun us s2 ⟨vs, H2, I2, r2, q2⟩ => hm pins s2 σ H2 x vs v us Q I2 r1 r2 q2
/- xs.append(e), list.index on a module's tuple .. are MtR facts of 06m -/
end
end L2

namespace L2
open PySem PySem.Spec PyProof.Rows

def MtM (X : Cx) (id : String) (r : V → List V → Hp → VK → Prop) : Prop :=
  ∀ (pins : List (Addr × Obj)) (s : Shared) (σ : St) (H : Hp) (x : V) (xs : List V) (v : Value) (us : List Value) (Q : VK), Inv X pins σ H s → RelV x v → Vals xs us → r x xs H Q →
    wpAny (model X.prog X.w) X.A (call (.builtin id) (v :: us)) (EP X pins σ Q) X.xe s

/-! ### lists of values -/
theorem Vals.one : ∀ {x : V} {us : List Value}, Vals [x] us → ∃ u, us = [u] ∧ RelV x u
  | _, _, .cons r .nil => ⟨_, rfl, r⟩
theorem Vals.two : ∀ {x y : V} {us : List Value}, Vals [x, y] us → ∃ u v, us = [u, v] ∧ RelV x u ∧ RelV y v
  | _, _, _, .cons r (.cons q .nil) => ⟨_, _, rfl, r, q⟩
theorem Vals.zero : ∀ {us : List Value}, Vals [] us → us = []
  | _, .nil => rfl
theorem Vals.dropLast {xs : List V} {us : List Value} (h : Vals xs us) : Vals xs.dropLast us.dropLast := by
  induction h with
  | nil => exact .nil
  | cons r t ih =>
    cases t with
    | nil => exact .nil
    | cons q t' => exact .cons r ih
theorem Vals.eraseIdx : ∀ {xs : List V} {us : List Value} (i : Nat), Vals xs us → Vals (xs.eraseIdx i) (us.eraseIdx i)
  | _, _, _, .nil => .nil
  | _, _, 0, .cons _ t => t
  | _, _, i + 1, .cons r t => .cons r (Vals.eraseIdx i t)
theorem Vals.reverse {xs : List V} {us : List Value} (h : Vals xs us) : Vals xs.reverse us.reverse := by
  induction h with
  | nil => exact .nil
  | cons r t ih => rw [List.reverse_cons, List.reverse_cons]; exact Vals.append ih (.cons r .nil)
theorem Vals.rep {xs : List V} {us : List Value} (h : Vals xs us) : ∀ k : Nat, Vals (List.replicate k xs).flatten (List.replicate k us).flatten
  | 0 => .nil
  | k + 1 => by
    rw [List.replicate_succ, List.replicate_succ, List.flatten_cons, List.flatten_cons]
    exact Vals.append h (Vals.rep h k)
theorem erase_last {α : Type} (l : List α) : l.eraseIdx (l.length - 1) = l.dropLast := by
  induction l with
  | nil => rfl
  | cons a r ih =>
    cases r with
    | nil => rfl
    | cons b r =>
      have e : (a :: b :: r).length - 1 = ((b :: r).length - 1) + 1 := by
        have h1 : (a :: b :: r).length = r.length + 2 := rfl
        have h2 : (b :: r).length = r.length + 1 := rfl
        omega
      rw [e, List.eraseIdx_cons_succ, ih]
      all_goals rfl
theorem len_erase {α : Type} : ∀ (l : List α) (i : Nat), (l.eraseIdx i).length ≤ l.length
  | [], _ => Nat.le_refl _
  | _ :: _, 0 => Nat.le_succ _
  | _ :: r, i + 1 => Nat.succ_le_succ (len_erase r i)
theorem foldl_rep (its : List Value) : ∀ (k : Nat) (acc : List Value),
    List.foldl (fun x1 x2 => x1 ++ x2) acc.toArray (List.replicate k its.toArray) = (acc ++ (List.replicate k its).flatten).toArray
  | 0, acc => by simp
  | k + 1, acc => by
    have e : acc.toArray ++ its.toArray = (acc ++ its).toArray := by simp
    have e2 : (acc ++ its) ++ (List.replicate k its).flatten = acc ++ (List.replicate (k + 1) its).flatten := by
      rw [List.replicate_succ, List.flatten_cons, List.append_assoc]
    rw [← e2, ← foldl_rep its k (acc ++ its), ← e, List.replicate_succ, List.foldl_cons]

section
variable {X : Cx} {pins : List (Addr × Obj)} {σ : St} {H : Hp} {s : Shared} {l b : Addr} {xs ys zs : List V}

/-! ### the two steps: a tracked list is rewritten, a new list is laid -/
theorem Inv.lset {its its' : List Value} {n : Nat} {f : Array Value → Array Value} {t' : Nat} (I : Inv X pins σ H s) (hH : H l = some (.lst xs))
    (e : s.heap.get? l = some { cls := .type "list", data := .seq its.toArray n }) (hf : f its.toArray = its'.toArray) (hv : Vals ys its') (hz : ys.length ≤ sizeLine) :
    Inv X pins σ (upd H l (.lst ys)) { s with heap := s.heap.update l (Obj.mapSeq f), toks := t' } := by
  have q := PySem.IsL.update e f
  rw [hf] at q
  refine I.write (x := l) (e := l) (by rw [hH]; exact trivial) (.inl rfl) (fun b' u hb hu => (Heap.get?_update_other s.heap (Obj.mapSeq f) (Ne.symm hb)).trans hu) ⟨_, q⟩ ?_
  exact ⟨hz, its', _, hv, q⟩
theorem Inv.lnew {its : List Value} {t' : Nat} (I : Inv X pins σ H s) (hv : Vals ys its) (hz : ys.length ≤ sizeLine) :
    Inv X pins σ (upd H s.heap.objs.size (.lst ys)) { s with heap := s.heap.push { cls := .type "list", data := .seq its.toArray }, toks := t' } :=
  I.laid (fun _ _ q => Heap.get?_push_of_some _ q) (Nat.le_refl _) ⟨hz, its, 0, hv, Heap.get?_push_size _ rfl⟩
theorem Inv.fresh (I : Inv X pins σ H s) : H s.heap.objs.size = none := I.hok.fresh (Nat.le_refl _)
theorem Inv.lstM (I : Inv X pins σ H s) (hH : H l = some (.lst xs)) : xs.length ≤ sizeLine ∧ ∃ (its : List Value) (n : Nat), Vals xs its ∧ xs.length = its.length ∧ s.heap.get? l = some { cls := .type "list", data := .seq its.toArray n } := by
  obtain ⟨z, its, n, r, e⟩ := I.hok l _ hH
  exact ⟨z, its, n, r, r.length, e⟩

theorem notLongL {n : Nat} (h : n ≤ sizeLine) : Builtin.List.listTooLong n = false := by
  unfold Builtin.List.listTooLong
  exact decide_eq_false (by omega)
end

section
variable {X : Cx}

/-! ### methods -/
def rAppend : V → List V → Hp → VK → Prop := fun x vs H Q => ∃ l xs y, x = .ref l ∧ vs = [y] ∧ H l = some (.lst xs) ∧ xs.length < sizeLine ∧ Q .non (upd H l (.lst (xs ++ [y])))
theorem mt_append : MtM X "list.append" rAppend := by
  intro pins s σ H x vs v us Q I rx rv h
  obtain ⟨l, xs, y, rfl, rfl, hH, hz, q⟩ := h
  cases rx
  obtain ⟨u, rfl, ru⟩ := rv.one
  obtain ⟨z, its, n, r, hl, e⟩ := I.lstM hH
  refine call_meets F.slot_list_append ⟨_, e, rfl⟩ F.entry_list_append (F.args_list_append_2 _ _) (PySem.list_append l its.toArray n u (by rw [List.size_toArray]; omega)) ⟨e, ?_⟩
  refine ⟨.non, _, I.lset (its' := its ++ [u]) hH e (by simp) (r.append (.cons ru .nil)) ?_, rfl, q⟩
  rw [List.length_append, List.length_singleton]
  omega

def rExtend : V → List V → Hp → VK → Prop := fun x vs H Q => ∃ l b xs zs, x = .ref l ∧ vs = [.ref b] ∧ H l = some (.lst xs) ∧ H b = some (.lst zs) ∧ xs.length + zs.length ≤ sizeLine ∧ Q .non (upd H l (.lst (xs ++ zs)))
theorem mt_extend : MtM X "list.extend" rExtend := by
  intro pins s σ H x vs v us Q I rx rv h
  obtain ⟨l, b, xs, zs, rfl, rfl, hH, hB, hz, q⟩ := h
  cases rx
  obtain ⟨u, rfl, ru⟩ := rv.one
  cases ru
  obtain ⟨z, its, n, r, hl, e⟩ := I.lstM hH
  obtain ⟨z2, its2, n2, r2, hl2, e2⟩ := I.lstM hB
  have hsz : its.toArray.size + its2.toArray.size ≤ sizeLine := by rw [List.size_toArray, List.size_toArray]; omega
  have hlong : ¬ (!its.toArray.isEmpty && Builtin.List.listTooLong (its.toArray.size + its2.toArray.size)) = true := by
    rw [notLongL hsz, Bool.and_false]
    exact Bool.false_ne_true
  refine call_meets F.slot_list_extend ⟨_, e, rfl⟩ F.entry_list_extend (F.args_list_extend_2 _ _)
    (AutoSeq1.list_extend_list_list_0 l its.toArray n b its2.toArray n2 hlong (by rw [List.size_toArray]; omega) (by omega)) ⟨e, e2, ?_⟩
  refine ⟨.non, _, I.lset (its' := its ++ its2) hH e (by simp) (r.append r2) ?_, rfl, q⟩
  rw [List.length_append]
  omega

def rPop : V → List V → Hp → VK → Prop := fun x vs H Q => ∃ l xs y, x = .ref l ∧ vs = [] ∧ H l = some (.lst xs) ∧ xs[xs.length - 1]? = some y ∧ Q y (upd H l (.lst xs.dropLast))
theorem mt_pop : MtM X "list.pop" rPop := by
  intro pins s σ H x vs v us Q I rx rv h
  obtain ⟨l, xs, y, rfl, rfl, hH, hy, q⟩ := h
  cases rx
  have hus := rv.zero
  subst hus
  obtain ⟨z, its, n, r, hl, e⟩ := I.lstM hH
  obtain ⟨u, hu, ru⟩ := r.get hy
  have hy' : its.toArray[its.toArray.size - 1]? = some u := by
    show its.toArray[its.length - 1]? = some u
    rw [← Array.getElem?_toList, ← hl]
    exact hu
  refine call_meets F.slot_list_pop ⟨_, e, rfl⟩ F.entry_list_pop (F.args_list_pop_1 _) (MeetsSeq.list_pop_last l its.toArray n u hy' (by rw [List.size_toArray]; omega)) ⟨e, ?_⟩
  refine ⟨y, _, I.lset (its' := its.dropLast) hH e ?_ r.dropLast ?_, ru, q⟩
  · show its.toArray.eraseIdxIfInBounds (its.toArray.size - 1) = its.dropLast.toArray
    rw [List.size_toArray, List.eraseIdxIfInBounds_toArray, erase_last]
  · rw [List.length_dropLast]
    omega

def rPopAt : V → List V → Hp → VK → Prop := fun x vs H Q => ∃ l xs i k y, x = .ref l ∧ vs = [.int i] ∧ H l = some (.lst xs) ∧ -(2 ^ 63) ≤ i ∧ i < 2 ^ 63 ∧ seqIndex? i xs.length = some k ∧ xs[k]? = some y ∧ Q y (upd H l (.lst (xs.eraseIdx k)))
theorem mt_popAt : MtM X "list.pop" rPopAt := by
  intro pins s σ H x vs v us Q I rx rv h
  obtain ⟨l, xs, i, k, y, rfl, rfl, hH, h1, h2, hk, hy, q⟩ := h
  cases rx
  obtain ⟨u, rfl, ru⟩ := rv.one
  obtain ⟨t, rfl⟩ := ru
  obtain ⟨z, its, n, r, hl, e⟩ := I.lstM hH
  obtain ⟨w, hw, rw'⟩ := r.get hy
  refine call_meets F.slot_list_pop ⟨_, e, rfl⟩ F.entry_list_pop (F.args_list_pop_2 _ _)
    (MeetsSeq.list_pop_at l its.toArray n i t k w (fitsIndex_both h1 h2) (by rw [List.size_toArray, ← hl]; exact hk) (by rw [← Array.getElem?_toList]; exact hw) (by rw [List.size_toArray]; omega)) ⟨e, ?_⟩
  refine ⟨y, _, I.lset (its' := its.eraseIdx k) hH e ?_ (r.eraseIdx k) ?_, rw', q⟩
  · show its.toArray.eraseIdxIfInBounds k = (its.eraseIdx k).toArray
    rw [List.eraseIdxIfInBounds_toArray]
  · have := len_erase xs k
    omega

def rReverse : V → List V → Hp → VK → Prop := fun x vs H Q => ∃ l xs, x = .ref l ∧ vs = [] ∧ H l = some (.lst xs) ∧ Q .non (upd H l (.lst xs.reverse))
theorem mt_reverse : MtM X "list.reverse" rReverse := by
  intro pins s σ H x vs v us Q I rx rv h
  obtain ⟨l, xs, rfl, rfl, hH, q⟩ := h
  cases rx
  have hus := rv.zero
  subst hus
  obtain ⟨z, its, n, r, hl, e⟩ := I.lstM hH
  refine call_meets F.slot_list_reverse ⟨_, e, rfl⟩ F.entry_list_reverse (F.args_list_reverse_1 _) (AutoSeq1.list_reverse_list_0 l its.toArray n (by rw [List.size_toArray]; omega)) ⟨e, ?_⟩
  refine ⟨.non, _, I.lset (its' := its.reverse) hH e (by simp) r.reverse ?_, rfl, q⟩
  rw [List.length_reverse]
  omega

def rClear : V → List V → Hp → VK → Prop := fun x vs H Q => ∃ l xs, x = .ref l ∧ vs = [] ∧ H l = some (.lst xs) ∧ Q .non (upd H l (.lst []))
theorem mt_clear : MtM X "list.clear" rClear := by
  intro pins s σ H x vs v us Q I rx rv h
  obtain ⟨l, xs, rfl, rfl, hH, q⟩ := h
  cases rx
  have hus := rv.zero
  subst hus
  obtain ⟨z, its, n, r, hl, e⟩ := I.lstM hH
  refine call_meets F.slot_list_clear ⟨_, e, rfl⟩ F.entry_list_clear (F.args_list_clear_1 _) (AutoSeq1.list_clear_list_0 l its.toArray n (by rw [List.size_toArray]; omega)) ⟨e, ?_⟩
  exact ⟨.non, _, I.lset (its' := []) (ys := []) hH e rfl .nil (Nat.zero_le _), rfl, q⟩

/-! ### list + list, list += list, list * int -/
def rCat : R2 := fun x y H Q => ∃ l b xs zs, x = .ref l ∧ y = .ref b ∧ H l = some (.lst xs) ∧ H b = some (.lst zs) ∧ xs.length + zs.length ≤ sizeLine ∧ ∀ p, H p = none → Q (.ref p) (upd H p (.lst (xs ++ zs)))
theorem op_cat : OpR X (binaryOp .Add) rCat := by
  intro pins s σ H x y v u Q I rx ry h
  obtain ⟨l, b, xs, zs, rfl, rfl, hH, hB, hz, q⟩ := h
  cases rx
  cases ry
  obtain ⟨z, its, n, r, hl, e⟩ := I.lstM hH
  obtain ⟨z2, its2, n2, r2, hl2, e2⟩ := I.lstM hB
  refine PySem.P.add_list e e2 ?_ (by rw [List.size_toArray, List.size_toArray]; omega)
  have ea : its.toArray ++ its2.toArray = (its ++ its2).toArray := by simp
  rw [ea]
  exact ⟨.ref _, _, I.lnew (t' := s.toks) (r.append r2) (by rw [List.length_append]; omega), rfl, q _ I.fresh⟩
/-- a list times an int (a negative one is nothing) -/
def rRep : R2 := fun x y H Q => ∃ l k xs, x = .ref l ∧ y = .int k ∧ H l = some (.lst xs) ∧ -(2 ^ 63) ≤ k ∧ k < 2 ^ 63 ∧ xs.length * k.toNat ≤ sizeLine ∧
  ∀ p, H p = none → Q (.ref p) (upd H p (.lst (List.replicate k.toNat xs).flatten))
theorem len_rep {α : Type} (xs : List α) (k : Nat) : (List.replicate k xs).flatten.length = k * xs.length := by
  induction k with
  | zero => simp
  | succ k ih => rw [List.replicate_succ, List.flatten_cons, List.length_append, ih, Nat.succ_mul, Nat.add_comm]
theorem op_rep : OpR X (binaryOp .Mult) rRep := by
  intro pins s σ H x y v u Q I rx ry h
  obtain ⟨l, k, xs, rfl, rfl, hH, h1, h2, hz, q⟩ := h
  cases rx
  obtain ⟨t, rfl⟩ := ry
  obtain ⟨z, its, n, r, hl, e⟩ := I.lstM hH
  have hlen : its.toArray.size * k.toNat ≤ sizeLine := by rw [List.size_toArray, ← hl]; exact hz
  have hcap : ¬ its.toArray.size * k.toNat > (2 ^ 63 - 1) / 8 := by
    have : (sizeLine : Nat) ≤ (2 ^ 63 - 1) / 8 := by decide
    omega
  have hfit : ¬ (!Builtin.List.listFitsIndex k) = true := by
    rw [fitsIndex_both h1 h2]
    exact Bool.false_ne_true
  have hlong : ¬ Builtin.List.listTooLong (its.toArray.size * k.toNat) = true := by
    rw [notLongL hlen]
    exact Bool.false_ne_true
  have hnew : List.foldl (fun x1 x2 => x1 ++ x2) #[] (List.replicate (if its.toArray.isEmpty = true then 0 else k.toNat) its.toArray) = (List.replicate k.toNat its).flatten.toArray := by
    have f0 : ∀ m : Nat, List.foldl (fun x1 x2 => x1 ++ x2) #[] (List.replicate m its.toArray) = (List.replicate m its).flatten.toArray := fun m => by
      have := foldl_rep its m []
      rw [List.nil_append] at this
      exact this
    rw [f0]
    cases its with
    | nil => simp
    | cons a r' => rw [if_neg (by simp)]
  refine wpAny_binaryOp_repeat_ref (T := "list") (U := "int") (by decide) ⟨_, e, rfl⟩ (fun s' => typeIs_int s' k t) noFill_list_mul F.fills_int_mul F.slot_int_rmul repeat_list F.slot_int_index.lookup
    (call_meets F.slot_int_rmul (typeIs_int s k t) F.entry_int_rmul (F.args_int_rmul_2 _ _) (int___rmul___int_list k t l its.toArray n)
      ⟨e, rfl, ⟨_, e, rfl⟩, call_meets F.slot_list_mul ⟨_, e, rfl⟩ F.entry_list_mul (F.args_list_mul_2 _ _) (AutoListH.list___mul___list_int_3 l its.toArray n k t hfit hcap hlong) ⟨e, ?_⟩⟩)
  rw [hnew]
  exact ⟨.ref _, _, I.lnew (t' := s.toks) (r.rep k.toNat) (by rw [len_rep, Nat.mul_comm]; exact hz), rfl, q _ I.fresh⟩

/-! ### del xs[i] -/
theorem del_list {pins : List (Addr × Obj)} {s : Shared} {σ : St} {H : Hp} {l : Addr} {xs : List V} {i : Int} {t : Tok} {k : Nat} {Q : Unit → Shared → Prop} (I : Inv X pins σ H s) (hH : H l = some (.lst xs))
    (h1 : -(2 ^ 63) ≤ i) (h2 : i < 2 ^ 63) (hk : seqIndex? i xs.length = some k) (h : ∀ s', Inv X pins σ (upd H l (.lst (xs.eraseIdx k))) s' → Q () s') :
    wpAny (model X.prog X.w) X.A (delItem (.ref l) (.int i t)) Q X.xe s := by
  obtain ⟨z, its, n, r, hl, e⟩ := I.lstM hH
  refine PySem.P.delItem_list (k := k) e (fitsIndex_both h1 h2) (by rw [List.size_toArray, ← hl]; exact hk) (h _ ?_) (by rw [List.size_toArray]; omega)
  refine I.lset (its' := its.eraseIdx k) (t' := s.toks) hH e ?_ (r.eraseIdx k) ?_
  · show its.toArray.eraseIdxIfInBounds k = (its.eraseIdx k).toArray
    rw [List.eraseIdxIfInBounds_toArray]
  · have := len_erase xs k
    omega
end

/-! ### xs[a:b] = ys -/
section
variable {prog : Program} {w : World} {A : Around} {E : Value → Shared → Prop} {s : Shared}
theorem splice_eq (its its2 : List Value) (a c : Nat) : its.toArray.extract 0 a ++ its2.toArray ++ its.toArray.extract c its.toArray.size = (its.take a ++ its2 ++ its.drop c).toArray := by
  apply Array.toList_inj.mp
  first
    | (simp
       exact List.take_of_length_le (by simp))
    | simp [List.take_of_length_le]
    | simp
theorem bounds_run {a c n : Nat} (hac : a ≤ c) (hc : c ≤ n) : sliceBounds (some (a : Int)) (some (c : Int)) none n = ((a : Int), (c : Int), 1) := by
  simp only [sliceBounds, Option.getD_none]
  have h1 : ¬ ((a : Int) < 0) := by omega
  have h2 : ¬ ((c : Int) < 0) := by omega
  simp only [h1, h2, if_false, show (1 : Int) > 0 by decide, if_true]
  congr 1
  · omega
  · congr 1; omega
set_option maxRecDepth 100000 in
/-- list.__setitem__ with a slice of step one and another list -/
theorem setItem_slice {l b sl : Addr} {items new : Array Value} {n n2 : Nat} {vl vu : Value} {a c : Nat} {Q : Unit → Shared → Prop}
    (e : s.heap.get? l = some { cls := .type "list", data := .seq items n }) (e2 : s.heap.get? b = some { cls := .type "list", data := .seq new n2 }) (hne : l ≠ b)
    (hs : s.heap.IsSliceOf sl vl vu .none) (pl : IsPart vl (some (a : Int))) (pu : IsPart vu (some (c : Int))) (hac : a ≤ c) (hc : c ≤ items.size)
    (hsz : items.size + new.size ≤ sizeLine) (h : Q () { s with heap := s.heap.update l (Obj.mapSeq fun xs => xs.extract 0 a ++ new ++ xs.extract c xs.size) }) :
    wpAny (model prog w) A (setItem (.ref l) (.ref sl) (.ref b)) Q E s := by
  have hl : s.heap.IsList l items := PySem.IsL.isList e
  have hb : s.heap.IsList b new := PySem.IsL.isList e2
  obtain ⟨os, hos, hcs, hds⟩ := id hs
  have hTs : s.TypeIs (.ref sl) "slice" := ⟨os, hos, hcs⟩
  have hstep : ¬ ((rawPart none == rawInt 0) = true) := Bool.false_ne_true
  have hsame : Builtin.List.listSameRef (.ref l) (.ref b) = false := by
    unfold Builtin.List.listSameRef
    exact beq_eq_false_iff_ne.mpr hne
  have hmax : (max (a : Int) (c : Int)).toNat = c := by omega
  have hz' : ((fun xs : Array Value => xs.extract 0 a ++ new ++ xs.extract c xs.size) items).size ≤ sizeLine + 1 := by
    simp only [Array.size_append, Array.size_extract]
    omega
  unfold setItem
  try with_reducible refine wpAny_holding ?_
  first | refine wpAny_bind (wpAny_pure ?_) | skip
  refine wpAny_bind (wpAny_sequenceKey hl.typeIs (by decide) ?_)
  refine wpAny_bind (wpAny_callSpecial?_slot (name := Str.ofString "__setitem__") hl.typeIs slot_list_setitem
    (wpAny_call_entry slot_list_setitem hl.typeIs entry_list_setitem ?_ (args_list_setitem _ _ _)))
  show wpAny _ _ (Builtin.List.listSubscript? (.ref sl) >>= _) _ _ s
  refine wpAny_bind ?_
  unfold Builtin.List.listSubscript?
  refine wpAny_bind (wpAny_specialOf hTs slice_no_index ?_)
  simp only [Option.isNone_none, if_true]
  refine wpAny_pure ?_
  show wpAny _ _ (typeOf (.ref sl) >>= _) _ _ s
  refine wpAny_bind (wpAny_typeOf hTs ?_)
  first
    | rw [if_neg (by decide)]
    | refine PySem.W.KFB.if_not (by decide) ?_
  rw [listSliceParts_eq]
  refine wpAny_bind (wpAny_bind (wpAny_field hos hds (x := .none) rfl (wpAny_bind (wpAny_listPart .none ?_))))
  rw [if_neg hstep]
  refine wpAny_bind (wpAny_field hos hds (x := vl) rfl (wpAny_bind (wpAny_listPart pl ?_)))
  refine wpAny_bind (wpAny_field hos hds (x := vu) rfl (wpAny_bind (wpAny_listPart pu (wpAny_pure ?_))))
  first
    | simp only [hsame, Bool.false_eq_true, if_false]
    | refine PySem.W.KFB.if_not hsame ?_
    | (dsimp only
       rw [if_neg (by rw [hsame]; exact Bool.false_ne_true)])
  refine wpAny_bind (m := Builtin.List.listAllItems (.ref b) "must assign iterable to extended slice") ?_
  unfold Builtin.List.listAllItems
  refine wpAny_bind (wpAny_typeOf hb.typeIs ?_)
  first
    | refine PySem.W.KFB.if_so (by decide) ?_
    | rw [if_pos (by decide)]
    | simp only [beq_self_eq_true, Bool.true_or, if_true]
  unfold Builtin.List.listItems
  refine wpAny_bind (wpAny_seqItems e2 rfl (wpAny_pure ?_))
  refine wpAny_bind (wpAny_bind (wpAny_seqItems e rfl (wpAny_pure ?_)))
  refine wpAny_bind (wpAny_of_eq ((sliceIndices_raw (some (a : Int)) (some (c : Int)) none items.size (by simp)).trans (congrArg (pure : Int × Int × Int → Sem (Int × Int × Int)) (bounds_run hac hc))) ?_)
  show wpAny _ _ (if ((1 : Int) == 1) = true then _ else _) _ _ s
  rw [if_pos (by decide)]
  refine wpAny_bind (wpAny_rule ?_)
  first
    | simp only [notLongL hsz, Bool.false_eq_true, if_false]
    | refine PySem.W.KFB.if_not (notLongL hsz) ?_
  first | refine wpAny_bind (wpAny_pure ?_) | skip
  show wpAny _ _ (updateSeq l (fun xs => xs.extract 0 ((a : Int)).toNat ++ new ++ xs.extract (max (a : Int) (c : Int)).toNat xs.size) >>= _) _ _ s
  rw [hmax, Int.toNat_natCast]
  refine wpAny_bind (wpAny_updateSeq (hz := Nat.le_trans (Nat.le_add_right _ _) hsz) (_hz' := hz') e rfl ?_)
  refine wpAny_bind (wpAny_letGo ?_)
  first
    | exact wpAny_bind (wpAny_pure (wpAny_pure ⟨.none, rfl, wpAny_pure h⟩))
    | exact wpAny_pure ⟨.none, rfl, wpAny_pure h⟩
end

section
variable {X : Cx}
/-- xs[a:c] = ys of another list, at the value level: sl is the slice object that was just made -/
theorem set_slice {pins : List (Addr × Obj)} {s : Shared} {σ : St} {H : Hp} {l b sl : Addr} {xs ys : List V} {a c : Int} {vl vu : Value} {Q : Unit → Shared → Prop} (I : Inv X pins σ H s)
    (hH : H l = some (.lst xs)) (hB : H b = some (.lst ys)) (hne : l ≠ b) (hs : s.heap.IsSliceOf sl vl vu .none) (ra : RelV (.int a) vl) (rc : RelV (.int c) vu) (h0 : 0 ≤ a) (hac : a ≤ c) (hc : c ≤ xs.length)
    (hz : xs.length + ys.length ≤ sizeLine) (h : ∀ s', Inv X pins σ (upd H l (.lst (xs.take a.toNat ++ ys ++ xs.drop c.toNat))) s' → Q () s') :
    wpAny (model X.prog X.w) X.A (setItem (.ref l) (.ref sl) (.ref b)) Q X.xe s := by
  obtain ⟨ta, rfl⟩ := ra
  obtain ⟨tc, rfl⟩ := rc
  obtain ⟨z, its, n, r, hl, e⟩ := I.lstM hH
  obtain ⟨z2, its2, n2, r2, hl2, e2⟩ := I.lstM hB
  obtain ⟨a', rfl⟩ := Int.eq_ofNat_of_zero_le h0
  obtain ⟨c', rfl⟩ := Int.eq_ofNat_of_zero_le (Int.le_trans h0 hac)
  simp only [Int.toNat_natCast] at h
  refine setItem_slice (a := a') (c := c') e e2 hne hs (.int _ _) (.int _ _) (by omega) (by rw [List.size_toArray]; omega) (by rw [List.size_toArray, List.size_toArray]; omega) (h _ ?_)
  refine I.lset (its' := its.take a' ++ its2 ++ its.drop c') (t' := s.toks) hH e ?_ (Vals.append (Vals.append (r.take _) r2) (r.drop _)) ?_
  · exact splice_eq its its2 a' c'
  · rw [List.length_append, List.length_append, List.length_take, List.length_drop]
    omega
end
end L2

namespace Att
open PySem PySem.W PySem.Calls PyProof.Rows

/-! ### the script -/
theorem ints_of_wellAll {P : Params} {h : Heap} : ∀ (ns : List Int) (vs : List Value), WellAll P h vs (ns.map WData.int) → IntsAre vs ns := by
  intro ns
  induction ns with
  | nil =>
    intro vs w
    rw [List.map_nil] at w
    cases w
    exact .nil
  | cons n ns ih =>
    intro vs w
    rw [List.map_cons] at w
    cases w with
    | cons a b =>
      cases a
      exact .cons _ _ (ih _ b)

theorem script_of {l : OpenLaw} {n : Nat} (hn : l.most = some n) {P : Params} {h : Heap} {args : List WData} {vals : List Value}
    (hpre : l.row.toRowW.claim.pre args = true) (hwl : WellAll P h vals args) :
    ∃ a vs ns, vals = [Value.ref a] ∧ args = [WData.list (ns.map WData.int)] ∧ h.get? a = some { cls := .type "list", data := .seq vs.toArray } ∧ IntsAre vs ns ∧ ns.length ≤ n := by
  have hsh : WShape.hasAll [] args [.list .int] = true := (pre_splitW hpre).1
  have hc : l.pre.holds [] { args := args } = true := (pre_splitW hpre).2
  obtain ⟨d, r, rfl, h1, h2⟩ := hasAllW_cons hsh
  obtain rfl := hasAllW_nil h2
  obtain ⟨xs, rfl, h3⟩ := hasW_list h1
  obtain ⟨ns, rfl⟩ := items_int h3
  have hlen : ns.length ≤ n := by
    unfold OpenLaw.pre at hc
    have h4 : (WTm.not (.lt (.lit (.int (n : Int))) (.len (.arg 0)))).holds [] { args := [.list (ns.map .int)] } = true := by
      have h4 := (holds_andW hc).1
      rw [hn] at h4
      exact h4
    have h5 := condW_of h4 (w_not (w_lt w_lit (w_len_list (w_arg rfl))))
    rw [List.length_map] at h5
    refine Nat.le_of_not_lt fun q => ?_
    have q' : (n : Int) < ((ns.length : Nat) : Int) := by omega
    first
      | (rw [decide_eq_true q'] at h5; exact absurd h5 (by decide))
      | (simp at h5; omega)
  cases hwl with
  | cons w1 w2 =>
    cases w2
    cases w1 with
    | list ho hall => exact ⟨_, _, ns, rfl, rfl, ho, ints_of_wellAll ns _ hall, hlen⟩

theorem post_true (l : OpenLaw) (args : List WData) : l.row.toRowW.claim.post args (.bool true) args = true :=
  postW_of (r := l.row.toRowW) (X := (true == true))
    (show WShape.has [] (.bool true) .bool = true by first | rfl | decide | simp [WShape.has, WShape.arms, WShape.armsAll])
    (show (WTm.eq .res (.lit (.bool true))).value [] { args := args, res := some (.bool true), after := args } = some (.bool (true == true)) from w_eq_bool (w_res rfl) w_lit) rfl

/-! ### the attachment: holds_open's last premise (the goal 'hc' behind k_head) from a wpAny of the law's body -/
theorem attach {l : OpenLaw} {n : Nat} {q : Program} {loose : List Str} {XP : (Str → Option Value) → Heap → Prop} {YP : World → Heap → Prop} {d : DefRec} {x : Str}
    (hn : l.most = some n) (hdf : d.params.defaults = [])
    (hbind : ∀ pm cd doc v : Value, bindArgs (docDef d.name d.params d.body d.scope pm cd doc) ⟨[v], []⟩ = pure [(x, v)])
    (hx : d.scope.names.lookup x = some .local ∨ d.scope.names.lookup x = some .cell)
    (hk : d.scope.kind = .function) (hco : d.scope.isCoroutine = false) (hgen : d.scope.isGenerator = false)
    (body : ∀ (w : World) (s₀ s₁ s : Shared) (mg mb : Str → Option Value) (fa : Addr) (o : Obj) (pm cd doc : Value) (a : Addr) (vs : List Value) (ns : List Int),
      Ground q loose [] XP w s₀ mg mb s₁.heap → YP w s₁.heap →
      s₁.heap.get? fa = some o → o.data = .func (docDef d.name d.params d.body d.scope pm cd doc) → s₁.heap.CodeRec cd d.name → mg d.name = some (.ref fa) →
      s₁.heap.get? a = some { cls := .type "list", data := .seq vs.toArray } → IntsAre vs ns → ns.length ≤ n →
      s.gens = #[] → s.os = s₁.os →
      Fr s₁.heap s₁.heap.objs.size s.heap (bindL (envOfC d.name d.scope s₁.heap.objs.size fa cd).kindOf [(x, .ref a)] fun _ => none) →
      Cl s₁.heap.objs.size (cellsFrom (s₁.heap.objs.size + 1) d.scope.names []) s.heap (bindC (envOfC d.name d.scope s₁.heap.objs.size fa cd).kindOf [(x, .ref a)] fun _ => none) →
      wpAny (model l.prog w) (callerA.deeper (envOfC d.name d.scope s₁.heap.objs.size fa cd)) (execs d.body (envOfC d.name d.scope s₁.heap.objs.size fa cd))
        (fun f s' => f = .ret (.bool true) ∧ OldK s₁.heap s'.heap ∧ s'.os = s₁.os ∧ AllBare s'.gens) (fun _ _ => False) s) :
    WalkO q loose XP YP l.row.toRowW d [] (fun f vs => PySem.call f vs) := by
  intro w s₀ s₁ mg mb G Y fa o pm cd doc dV kV ho hd hcd hD hmg hg args vals as hpre hlay hrd hwl hlo
  obtain rfl : dV = .none := Dflts.none hD hdf
  obtain rfl : kV = .none := Dflts.noKw hD
  obtain ⟨a, vs, ns, rfl, rfl, hobj, hints, hlen⟩ := script_of hn hpre hwl
  refine enter_call ?_
  refine call_cells_ret (o := o) (by rw [depth_caller]; decide) ho (fd_plain hd) G.T.nolimit hcd (hbind pm cd doc (.ref a)) (fun y hy => ?_) (fun h₁ tk F X => ?_) hco hgen hk
  · obtain rfl : y = (x, Value.ref a) := List.mem_singleton.mp hy
    rcases hx with e | e
    · exact .inl e
    · exact .inr ⟨e, cellsFrom_some _ _ _ (.inl e)⟩
  · refine wpAny_mono (body w s₀ s₁ { s₁ with heap := h₁, toks := tk } mg mb fa o pm cd doc a vs ns G Y ho (fd_plain hd) hcd hmg hobj hints hlen hg rfl F X) (fun f s' hq => ?_) (fun _ _ hq => hq)
    obtain ⟨rfl, h2, h3, h4⟩ := hq
    exact ⟨.inl ⟨.bool true, .bool true, [], rfl, fun _ => rfl, .bool true, post_true l _, fun _ => ⟨List.Pairwise.nil, fun _ hm => (nomatch hm)⟩⟩, h2, h3, h4⟩

/-- the same from a codeAny of the CALL (for a layer whose function contracts speak of calls) -/
theorem attach_call {l : OpenLaw} {n : Nat} {q : Program} {loose : List Str} {XP : (Str → Option Value) → Heap → Prop} {YP : World → Heap → Prop} {d : DefRec}
    (hn : l.most = some n) (hdf : d.params.defaults = [])
    (call : ∀ (w : World) (s₀ s₁ : Shared) (mg mb : Str → Option Value) (fa : Addr) (o : Obj) (pm cd doc : Value) (a : Addr) (vs : List Value) (ns : List Int),
      Ground q loose [] XP w s₀ mg mb s₁.heap → YP w s₁.heap →
      s₁.heap.get? fa = some o → o.data = .func (docDef d.name d.params d.body d.scope pm cd doc) → s₁.heap.CodeRec cd d.name → mg d.name = some (.ref fa) →
      s₁.heap.get? a = some { cls := .type "list", data := .seq vs.toArray } → IntsAre vs ns → ns.length ≤ n → s₁.gens = #[] →
      codeAny (model l.prog w) callerA (.call (.ref fa) ⟨[.ref a], []⟩) (fun r s' => r = .ok (.ret (.bool true)) ∧ OldK s₁.heap s'.heap ∧ s'.os = s₁.os ∧ AllBare s'.gens) s₁) :
    WalkO q loose XP YP l.row.toRowW d [] (fun f vs => PySem.call f vs) := by
  intro w s₀ s₁ mg mb G Y fa o pm cd doc dV kV ho hd hcd hD hmg hg args vals as hpre hlay hrd hwl hlo
  obtain rfl : dV = .none := Dflts.none hD hdf
  obtain rfl : kV = .none := Dflts.noKw hD
  obtain ⟨a, vs, ns, rfl, rfl, hobj, hints, hlen⟩ := script_of hn hpre hwl
  refine enter_call (codeAny_mono (call w s₀ s₁ mg mb fa o pm cd doc a vs ns G Y ho (fd_plain hd) hcd hmg hobj hints hlen hg) fun r s' hq => ?_)
  obtain ⟨rfl, h2, h3, h4⟩ := hq
  exact ⟨.inl ⟨.bool true, .bool true, [], rfl, fun _ => rfl, .bool true, post_true l _, fun _ => ⟨List.Pairwise.nil, fun _ hm => (nomatch hm)⟩⟩, h2, h3, h4⟩

/-- the same where the top left finished generators (o_head chose holds_openN): nothing may have changed at all and no generator may be left -/
theorem attachN {l : OpenLaw} {n : Nat} {q : Program} {loose : List Str} {XP : (Str → Option Value) → Heap → Prop} {YP : World → Heap → Prop} {d : DefRec} {x : Str}
    (hn : l.most = some n) (hdf : d.params.defaults = [])
    (hbind : ∀ pm cd doc v : Value, bindArgs (docDef d.name d.params d.body d.scope pm cd doc) ⟨[v], []⟩ = pure [(x, v)])
    (hx : d.scope.names.lookup x = some .local ∨ d.scope.names.lookup x = some .cell)
    (hk : d.scope.kind = .function) (hco : d.scope.isCoroutine = false) (hgen : d.scope.isGenerator = false)
    (body : ∀ (w : World) (s₀ s₁ s : Shared) (mg mb : Str → Option Value) (fa : Addr) (o : Obj) (pm cd doc : Value) (a : Addr) (vs : List Value) (ns : List Int),
      Ground q loose [] XP w s₀ mg mb s₁.heap → YP w s₁.heap →
      s₁.heap.get? fa = some o → o.data = .func (docDef d.name d.params d.body d.scope pm cd doc) → s₁.heap.CodeRec cd d.name → mg d.name = some (.ref fa) →
      s₁.heap.get? a = some { cls := .type "list", data := .seq vs.toArray } → IntsAre vs ns → ns.length ≤ n →
      s.gens = #[] → s.os = s₁.os →
      Fr s₁.heap s₁.heap.objs.size s.heap (bindL (envOfC d.name d.scope s₁.heap.objs.size fa cd).kindOf [(x, .ref a)] fun _ => none) →
      Cl s₁.heap.objs.size (cellsFrom (s₁.heap.objs.size + 1) d.scope.names []) s.heap (bindC (envOfC d.name d.scope s₁.heap.objs.size fa cd).kindOf [(x, .ref a)] fun _ => none) →
      wpAny (model l.prog w) (callerA.deeper (envOfC d.name d.scope s₁.heap.objs.size fa cd)) (execs d.body (envOfC d.name d.scope s₁.heap.objs.size fa cd))
        (fun f s' => f = .ret (.bool true) ∧ (∀ b o, s₁.heap.get? b = some o → s'.heap.get? b = some o) ∧ s'.os = s₁.os ∧ s'.gens = #[]) (fun _ _ => False) s) :
    WalkN q loose XP YP l.row.toRowW d [] (fun f vs => PySem.call f vs) := by
  intro w s₀ s₁ mg mb G Y fa o pm cd doc dV kV ho hd hcd hD hmg hg args vals as hpre hlay hrd hwl hlo
  obtain rfl : dV = .none := Dflts.none hD hdf
  obtain rfl : kV = .none := Dflts.noKw hD
  obtain ⟨a, vs, ns, rfl, rfl, hobj, hints, hlen⟩ := script_of hn hpre hwl
  refine enter_callW ?_
  refine call_cells_ret (o := o) (by rw [depth_caller]; decide) ho (fd_plain hd) G.T.nolimit hcd (hbind pm cd doc (.ref a)) (fun y hy => ?_) (fun h₁ tk F X => ?_) hco hgen hk
  · obtain rfl : y = (x, Value.ref a) := List.mem_singleton.mp hy
    rcases hx with e | e
    · exact .inl e
    · exact .inr ⟨e, cellsFrom_some _ _ _ (.inl e)⟩
  · refine wpAny_mono (body w s₀ s₁ { s₁ with heap := h₁, toks := tk } mg mb fa o pm cd doc a vs ns G Y ho (fd_plain hd) hcd hmg hobj hints hlen hg rfl F X) (fun f s' hq => ?_) (fun _ _ hq => hq)
    obtain ⟨rfl, h2, h3, h4⟩ := hq
    exact ⟨.inl ⟨.bool true, .bool true, [], rfl, fun _ => rfl, .bool true, post_true l _, fun _ => ⟨List.Pairwise.nil, fun _ hm => (nomatch hm)⟩⟩, h2, h3, h4⟩

/-! ### rules over ANY heap (no ledger) from facts about the written part K: the library's own take a ledger (News) for what they write -/
section
variable {prog : Program} {w : World} {A : Around} {E : Value → Shared → Prop} {s : Shared} {K : Frag}

/-- a def of the module, or a method (qual 'C.m'), entered: the frame is the next address; cells behind it -/
theorem call_fn {R : Result → Shared → Prop} {name qual : Str} {params : Arguments} {body : List Stmt} {scope : Scope} {dV kV doc pm cdv ct oc : Value} {an od : Option Addr} {osl : Array (Option Value)} {f : Addr} {args : Args} {binds : List (Str × Value)}
    (X : K.In s.heap) (hlim : s.heap.NoLimit) (ho : K.lookup f = some ⟨oc, od, .func (fnOf name qual params body scope dV kV doc pm an cdv ct), osl⟩) (hcd : codeIn K cdv qual = true) (hroom : A.depth < recursionLimit)
    (hbind : BindsTo s (fnOf name qual params body scope dV kV doc pm an cdv ct) args binds)
    (hkind : (binds.all fun y => scope.names.lookup y.1 == some .local || scope.names.lookup y.1 == some .cell) = true)
    (h : ∀ s₁, InCallC s s.heap.objs.size (bindL (envOfC qual scope s.heap.objs.size f cdv).kindOf binds fun _ => none) (cellsFrom (s.heap.objs.size + 1) scope.names [])
        (bindC (envOfC qual scope s.heap.objs.size f cdv).kindOf binds fun _ => none) s₁ →
      wpAny (model prog w) (A.deeper (envOfC qual scope s.heap.objs.size f cdv)) (execs body (envOfC qual scope s.heap.objs.size f cdv))
        (fun fl s' => R (.ok (.ret (match fl with | .ret v => v | _ => .none))) s')
        (fun e s' => wpAny (model prog w) (A.deeper (envOfC qual scope s.heap.objs.size f cdv)) (leaving (envOfC qual scope s.heap.objs.size f cdv) e) (fun _ s'' => R (.error e) s'') (fun e' s'' => R (.error e') s'') s') s₁)
    (hco : scope.isCoroutine = false) (hgen : scope.isGenerator = false) (hk : scope.kind = .function) : codeAny (model prog w) A (.call (.ref f) args) R s := by
  refine codeAny_call_function hroom (X _ _ ho) rfl hco hgen rfl (codeRec_of X hcd) (hbind _ _ _ _ ?_)
  refine wpAny_newFunctionEnv_cells hk (kindsX hkind _) fun env he s₁ x => ?_
  subst he
  exact ⟨hlim.keeps x.toInCall.keep, codeAny_func (h s₁ x)⟩

/-- C(..): dict at size, instance at size + 1, then __init__ -/
theorem make_obj {R : Result → Shared → Prop} {C fI : Addr} {rest : List Value} {kw : List (Str × Value)}
    (X : K.In s.heap) (hm : makesIn K C = true) (hi : findIn K (.ref C) "__init__" = some (some (.ref fI))) (hf : isFn K (.ref fI) = true)
    (h : codeAny (model prog w) (A.under (.builtin "type.__call__" ⟨.ref C :: rest, kw⟩)) (.call (.ref fI) ⟨.ref (s.heap.objs.size + 1) :: rest, kw⟩) (InitBack (s.heap.objs.size + 1) R)
      { s with heap := (s.heap.push emptyDict).push (instObj C s.heap.objs.size) }) : codeAny (model prog w) A (.call (.ref C) ⟨rest, kw⟩) R s := by
  obtain ⟨hh, g, d, t, os⟩ := s
  exact make_core (makes_of X hm) (looks_findIn X hi) (fun self => bind_fn X self (beq_iff_eq.mp hf)) (.inl rfl) h

/-- x.name where the instance's dict holds the name and the class does not -/
theorem get_field {x C : Addr} {ox : Obj} {es : List DictEntry} {n : Nat} {name : Str} {expr : Bool} {v : Value} {Q : Value → Shared → Prop}
    (X : K.In s.heap) (I : PySem.W.InstAt s.heap x ox C (some (dictOf es n))) (hg : plainGet K C name = true) (hh : hasDictIn K C = true) (ha : findIn K (.ref C) name = some none)
    (hl : getL name es = some (some v)) (hv : handedIn v = true) (h : Q v { s with toks := s.toks + 1 }) : wpAny (model prog w) A (getAttr (.ref x) name expr) Q E s :=
  get_value X I (plainGet_of hg).1 (findObj_own hh ha rfl hl) hv h

/-- x.m(..): the method found in the class -/
theorem get_method {x C f : Addr} {ox : Obj} {es : List DictEntry} {n : Nat} {name : Str} {pl : Sem Bool} {Q : Value × List Value → Shared → Prop}
    (X : K.In s.heap) (I : PySem.W.InstAt s.heap x ox C (some (dictOf es n))) (hg : plainGet K C name = true) (hf : findIn K (.ref C) name = some (some (.ref f))) (ht : isFn K (.ref f) = true)
    (hl : getL name es = some none) (h : Q (.ref f, [.ref x]) s) : wpAny (model prog w) A (getMethod (.ref x) name pl) Q E s :=
  method_fn X I (plainGet_of hg).1 (plainGet_of hg).2 hf (beq_iff_eq.mp ht) (by show (lookIn name (dictOf es n)).map _ = _; rw [lookIn_dict, hl]; rfl) h

/-! the whole heap as the ledger: makes every rule that writes through a ledger a rule over any heap -/
def noObjs (h : Heap) : Heap := { h with objs := #[] }
theorem noObjs_get (h : Heap) (b : Addr) : (noObjs h).get? b = none := by
  cases e : (noObjs h).get? b with
  | none => rfl
  | some o => exact absurd (Heap.lt_size e) (Nat.not_lt_zero _)
def ledger (h : Heap) (L d : Addr) : List (Addr × Obj) := (List.range h.objs.size).filterMap fun a => if a = L ∨ a = d then none else (h.get? a).map fun o => (a, o)
theorem mem_ledger {h : Heap} {L d a : Addr} {o : Obj} : (a, o) ∈ ledger h L d ↔ a ≠ L ∧ a ≠ d ∧ h.get? a = some o := by
  unfold ledger
  rw [List.mem_filterMap]
  constructor
  · rintro ⟨b, _, e⟩
    split at e
    · cases e
    · rename_i hb
      obtain ⟨o', ho, e'⟩ := Option.map_eq_some_iff.mp e
      cases e'
      exact ⟨fun q => hb (.inl q), fun q => hb (.inr q), ho⟩
  · rintro ⟨n1, n2, ho⟩
    refine ⟨a, List.mem_range.mpr (Heap.lt_size ho), ?_⟩
    rw [if_neg (show ¬ (a = L ∨ a = d) from fun q => q.elim n1 n2), ho] <;> rfl
theorem news_ledger {h : Heap} {L d : Addr} {od : Obj} (hne : d ≠ L) (ho : h.get? d = some od) : News (noObjs h) L h ([] ++ (d, od) :: ledger h L d) := by
  rintro ⟨a, o⟩ hp
  rcases List.mem_cons.mp hp with e | hp
  · cases e
    exact ⟨ho, hne, noObjs_get _ _⟩
  · obtain ⟨n1, n2, e⟩ := mem_ledger.mp hp
    exact ⟨e, n1, noObjs_get _ _⟩
theorem fr_all {h : Heap} {L : Addr} {m : Str → Option Value} (n : h.Ns L m) : Fr (noObjs h) L h m :=
  ⟨n, fun b o e => (by rw [noObjs_get] at e; cases e), Nat.zero_le _⟩
/-- Upd of the head entry (for append_K, setItem_K ..) -/
theorem upd_ledger {h : Heap} {L d : Addr} {o o' : Obj} : Upd d o o' ((d, o) :: ledger h L d) ((d, o') :: ledger h L d) :=
  .head fun ⟨_, _⟩ hp => (mem_ledger.mp hp).2.1

/-- x.name = v over any heap: L is any namespace of the heap (the frame's, say): its map stays, its object is not told; all else but the dict stays -/
theorem set_field {x C dx L : Addr} {ox : Obj} {m : Str → Option Value} {es es' : List DictEntry} {n n' : Nat} {name : Str} {v : Value} {Q : Unit → Shared → Prop}
    (X : K.In s.heap) (I : PySem.W.InstAt s.heap x ox C (some (dictOf es n))) (hd : ox.dict = some dx) (hL : s.heap.Ns L m) (hne : dx ≠ L)
    (hs : findIn K (.ref C) "__setattr__" = some (some (.builtin "object.__setattr__"))) (hp : plainOver K C = true) (ht : takerIn K C name = some none) (hh : hasDictIn K C = true) (hl : (getL name es).isSome = true)
    (e : (putL name (PyData.keyHash w.params name) (.str name (s.toks + 1)) v es, putN name es n) = (es', n')) (hz : es'.length ≤ 1000)
    (h : ∀ h' : Heap, h'.Ns L m → h'.get? dx = some (dictOf es' n') → (∀ b o, b ≠ dx → b ≠ L → s.heap.get? b = some o → h'.get? b = some o) → Q () { s with heap := h', toks := s.toks + 2 }) :
    wpAny (model prog w) A (setAttr (.ref x) name v) Q E s := by
  obtain ⟨e1, e2⟩ := Prod.mk.inj e
  have hdx : s.heap.get? dx = some (dictOf es n) := by
    have := I.dict
    rw [hd] at this
    exact this
  refine set_plain X I hs (osa_dict (s := { s with toks := s.toks + 1 }) (h₀ := noObjs s.heap) (L := L) (m := m) (od := dictOf es n) (od' := dictOf es' n') (es := es') (n := n') (pre := []) (post := ledger s.heap L dx)
    (fr_all hL) (news_ledger hne hdx) X I hd hp ht hh hl (fun _ q => nomatch q) (fun ⟨_, _⟩ q => (mem_ledger.mp q).2.1) (by rw [putName_dict, e1, e2]) rfl hz fun h' F' N' => ?_)
  exact h h' F'.ns (N'.get (List.Mem.head _)) fun b o n1 n2 ho => N'.get (List.Mem.tail _ (mem_ledger.mpr ⟨n2, n1, ho⟩))
end
end Att

namespace L2
open PySem PySem.Spec PyProof.Rows

theorem vals_ints : ∀ {vs : List Value} {ns : List Int}, IntsAre vs ns → Vals (ns.map V.int) vs
  | _, _, .nil => .nil
  | _, _, .cons n t h => .cons ⟨t, rfl⟩ (vals_ints h)

/-- nothing is tracked but the script, known to the object (or it is an object of the module) -/
def Only (H : Hp) : Prop := ∀ b, H b = none ∨ ∃ o xs, H b = some (.frz o (.lst xs))

/-- THE HEAD: the law's promise, at the heap behind the top. F, the promise of the law's def, may use that base is part of the heap (so K.In base, base.Ns mainGlobals mg stand in Mod) -/
theorem law_call {P : Program} {w : World} {K : PySem.W.Frag} {mg mb : Str → Option Value} {CX : CXT} {k : Nat} {fa a : Addr} {fd : FuncData} {x : Str} {sp : Sp} {s₁ : Shared} {vs : List Value} {ns : List Int}
    (KX : K.In s₁.heap) (hns : s₁.heap.Ns mainGlobals mg) (hb : s₁.heap.Ns builtinsNs mb) (hbb : ∀ x : Str, x ≠ "__name__" → mb x = bootBuiltins x) (hlim : s₁.heap.NoLimit) (hg : s₁.gens = #[])
    (ha : s₁.heap.get? a = some { cls := .type "list", data := .seq vs.toArray }) (hi : IntsAre vs ns) (hl : ns.length ≤ sizeLine) (hr : Room k callerA)
    (F : ∀ base : Heap, K.In base → base.Ns mainGlobals mg → FnOk P w K mg base CX k fa fd [x] sp) (hbind : ∀ (s : Shared) (u : Value), BindsTo s fd ⟨[u], []⟩ [(x, u)])
    (hsp : ∀ H : Hp, Only H → SqL K H a (ns.map V.int) → sp [.ref a] H (fun v _ => v = .bl true) fun _ _ _ => False)
    (hCX : ∀ H e s', CX [] H s₁ (fun _ _ _ => False) e s' → False) :
    codeAny (model P w) callerA (.call (.ref fa) ⟨[.ref a], []⟩) (fun r s' => r = .ok (.ret (.bool true)) ∧ OldK s₁.heap s'.heap ∧ s'.os = s₁.os ∧ AllBare s'.gens) s₁ := by
  have rv := vals_ints hi
  have lenV := hi.length
  -- from an abstract heap in which nothing but the script may be tracked
  have core : ∀ H : Hp, Only H → SqL K H a (ns.map V.int) → HOk P w H s₁.heap → (∀ b, H b ≠ none → b = a) → (H a ≠ none → K.lookup a = none) →
      codeAny (model P w) callerA (.call (.ref fa) ⟨[.ref a], []⟩) (fun r s' => r = .ok (.ret (.bool true)) ∧ OldK s₁.heap s'.heap ∧ s'.os = s₁.os ∧ AllBare s'.gens) s₁ := by
    intro H hO hS hok hA hK
    have base_of : ∀ {b : Addr} {o : Obj}, s₁.heap.get? b = some o → H b = none → (hidT s₁.heap H).get? b = some o := fun e n => hidT_get e n
    have noA : ∀ {b : Addr} {o : Obj} {es : Array DictEntry} {ep : Nat}, s₁.heap.get? b = some o → o.data = .dict es ep → H b = none := fun {b o es ep} e d => by
      cases q : H b with
      | none => rfl
      | some u =>
        have e' : b = a := hA b (by rw [q]; simp)
        subst e'
        rw [ha] at e; cases e
        have d' : Data.seq vs.toArray _ = Data.dict es ep := d
        cases d'
    have nsK : ∀ {b : Addr} {m : Str → Option Value}, s₁.heap.Ns b m → (hidT s₁.heap H).Ns b m := fun {b m} ⟨o, es, ep, e, d, r⟩ => ⟨o, es, ep, base_of e (noA e d), d, r⟩
    have hKb : K.In (hidT s₁.heap H) := fun b o e => base_of (KX b o e) (by
      cases q : H b with
      | none => rfl
      | some u =>
        have e' : b = a := hA b (by rw [q]; simp)
        subst e'
        rw [hK (by rw [q]; simp)] at e; cases e)
    have hM : Mod K mg (hidT s₁.heap H) := ⟨hKb, nsK hns, ⟨mb, nsK hb, hbb⟩, let ⟨mc, h1, h2⟩ := hlim; ⟨mc, nsK h1, h2⟩⟩
    have e0 : Env0 P w K mg (hidT s₁.heap H) callerA [] s₁ H := ⟨rfl, hM, fun b o e => of_hidT e, Nat.le_of_eq (hidT_size _ _), trivial, fun b hb => absurd (show b ∈ ([] : List Addr) from hb) (by simp), hok, .of_eq hg⟩
    refine codeAny_mono ((F _ hKb (nsK hns)).run callerA [] s₁ H ⟨[.ref a], []⟩ [.ref a] [.ref a] _ _ hr e0 (hbind s₁ (.ref a)) (.cons rfl .nil) (hsp H hO hS)) fun r s' h => ?_
    cases r with
    | error e => exact (hCX H e s' h).elim
    | ok fl =>
      cases fl with
      | next => exact False.elim h
      | brk => exact False.elim h
      | cont => exact False.elim h
      | ret u =>
        obtain ⟨v, H', os, bare, un, hok', r', q⟩ := h
        have q' : v = .bl true := q
        subst q'
        obtain rfl : u = Value.bool true := r'
        refine ⟨rfl, OldK.of_keep fun b o e => ?_, os, bare⟩
        cases q : H b with
        | none => exact un.keep b o e q (by intro z; exact absurd (show b ∈ ([] : List Addr) from z) (by simp)) (by simp)
        | some u =>
          rcases hO b with z | ⟨ob, xs, z⟩
          · rw [q] at z; cases z
          · have z2 := un.frzs b ob _ z
            obtain ⟨e1, _⟩ := hok b _ z
            obtain ⟨e2, _⟩ := hok' b _ z2
            rw [e] at e1; cases e1
            exact e2
  cases hk : K.lookup a with
  | some o =>
    -- the script is one of the module's own objects
    have e := KX a o hk
    rw [ha] at e
    cases e
    refine core (fun _ => none) (fun _ => .inl rfl) (.inr ⟨_, vs.toArray, _, hk, rfl, rfl, rfl, by rw [List.size_toArray, lenV]; exact hl, by simpa using rv⟩) (fun b u z => by have z' : (none : Option HO) = some u := z; cases z') (fun b z => absurd rfl z) fun z => absurd rfl z
  | none =>
    refine core (fun b => if b = a then some (.frz { cls := .type "list", data := .seq vs.toArray } (.lst (ns.map V.int))) else none) (fun b => ?_) (.inl (.inr ⟨{ cls := .type "list", data := .seq vs.toArray }, if_pos rfl⟩)) (fun b u z => ?_) (fun b z => ?_) fun _ => hk
    · by_cases hb : b = a
      · exact .inr ⟨_, _, if_pos hb⟩
      · exact .inl (if_neg hb)
    · by_cases hb : b = a
      · have z' := (if_pos hb).symm.trans z
        cases z'
        subst hb
        exact ⟨ha, by rw [List.length_map]; exact hl, vs, _, rv, ha⟩
      · have z' := (if_neg hb).symm.trans z
        cases z'
    · by_cases hb : b = a
      · exact hb
      · exact absurd (if_neg hb) z
end L2

namespace L2
open PySem PySem.Spec PyProof.Rows

abbrev KOf {K : PySem.W.Frag} {h : Heap} (_ : K.In h) : PySem.W.Frag := K

/-- the goal that k_head leaves (case hc), from the law's promise. F gives the function object fd (K's own) once, then the promise over every base -/
theorem walk_of {l : PySem.W.OpenLaw} {n k : Nat} {q : Program} {loose : List Str} {XP : (Str → Option Value) → Heap → Prop} {YP : World → Heap → Prop} {d : DefRec} {K : Params → PySem.W.Frag} {CX : World → CXT} {sp : World → Sp} {x : Str}
    (hn : l.most = some n) (hn2 : n ≤ sizeLine) (hdf : d.params.defaults = []) (hr : Room k callerA)
    (hY : ∀ (w : World) (h : Heap), YP w h → (K w.params).In h)
    (F : ∀ (w : World) (mg : Str → Option Value) (fa : Addr) (h : Heap), (K w.params).In h → h.Ns mainGlobals mg → mg d.name = some (.ref fa) →
      ∃ fd : FuncData, (∀ (s : Shared) (u : Value), BindsTo s fd ⟨[u], []⟩ [(x, u)]) ∧
        ∀ base : Heap, (K w.params).In base → base.Ns mainGlobals mg → FnOk l.prog w (K w.params) mg base (CX w) k fa fd [x] (sp w))
    (hsp : ∀ (w : World) (H : Hp) (a : Addr) (ns : List Int), ns.length ≤ n → Only H → SqL (K w.params) H a (ns.map V.int) → sp w [.ref a] H (fun v _ => v = .bl true) fun _ _ _ => False)
    (hCX : ∀ (w : World) (H : Hp) (s : Shared) (e : Value) (s' : Shared), CX w [] H s (fun _ _ _ => False) e s' → False) :
    PySem.W.WalkO q loose XP YP l.row.toRowW d [] (fun f vs => PySem.call f vs) := by
  refine Att.attach_call hn hdf fun w s₀ s₁ mg mb fa o pm cd doc a vs ns G Y ho hd hcd hmg hobj hints hlen hg => ?_
  have KX := hY w _ Y
  obtain ⟨fd, hb, hF⟩ := F w mg fa _ KX G.T.g hmg
  exact law_call KX G.T.g G.T.b G.T.builtins G.T.nolimit hg hobj hints (Nat.le_trans hlen hn2) hr hF hb (fun H hO hS => hsp w H a ns hlen hO hS) fun H e s' => hCX w H s₁ e s'
/-- the same where the promise hangs on the written part alone: (sp := My.sp_law), no hole under a binder -/
theorem walk_ofK {l : PySem.W.OpenLaw} {n k : Nat} {q : Program} {loose : List Str} {XP : (Str → Option Value) → Heap → Prop} {YP : World → Heap → Prop} {d : DefRec} {K : Params → PySem.W.Frag} {CX : CXT} {sp : PySem.W.Frag → Sp} {x : Str}
    (hn : l.most = some n) (hn2 : n ≤ sizeLine) (hdf : d.params.defaults = []) (hr : Room k callerA)
    (hY : ∀ (w : World) (h : Heap), YP w h → (K w.params).In h)
    (F : ∀ (w : World) (mg : Str → Option Value) (fa : Addr) (h : Heap), (K w.params).In h → h.Ns mainGlobals mg → mg d.name = some (.ref fa) →
      ∃ fd : FuncData, (∀ (s : Shared) (u : Value), BindsTo s fd ⟨[u], []⟩ [(x, u)]) ∧
        ∀ base : Heap, (K w.params).In base → base.Ns mainGlobals mg → FnOk l.prog w (K w.params) mg base CX k fa fd [x] (sp (K w.params)))
    (hsp : ∀ (K : PySem.W.Frag) (H : Hp) (a : Addr) (ns : List Int), ns.length ≤ n → Only H → SqL K H a (ns.map V.int) → sp K [.ref a] H (fun v _ => v = .bl true) fun _ _ _ => False)
    (hCX : ∀ (H : Hp) (s : Shared) (e : Value) (s' : Shared), CX [] H s (fun _ _ _ => False) e s' → False) :
    PySem.W.WalkO q loose XP YP l.row.toRowW d [] (fun f vs => PySem.call f vs) :=
  walk_of (K := K) (CX := fun _ => CX) (sp := fun w => sp (K w.params)) hn hn2 hdf hr hY F (fun w H a ns h1 h2 h3 => hsp (K w.params) H a ns h1 h2 h3) fun _ H s e s' => hCX H s e s'
end L2

/- THE LAST THEOREM (shape; LID, My.* are yours):
   My.Adr: a structure of the addresses that your layer names (classes, functions); My.Txt K t: a structure (Prop) of the equations over K;
   My.txt_mk : {K} {implicit addresses ..} (e1 : nsIn K mainGlobals "law" = some (some (.ref f))) (e2 : K.lookup f = some ⟨oc, od, .func (fnOf "law" "law" params body scope dV kV doc pm an cdv ct), sl⟩) (e3 : codeIn K cdv "law" = true) .. : ∃ t, My.Txt K t

set_option maxRecDepth 100000 in
set_option maxHeartbeats 0 in
theorem PySem.Challenge.cw_LID_holds : PySem.Challenge.rw_LID.Holds := by
  w_on; o_law; k_head; (case hw => w_witness2)
  k_fill
  refine L2.walk_of (l := PySem.Challenge.rw_LID) (n := 63) (k := 40) (x := "script") (CX := fun w => ..) (sp := fun _ => My.sp_law) rfl (by decide) rfl ⟨rfl, by decide, by decide⟩ (fun w h Y => PySem.W.kIn_of Y) ?F ?S ?C
  case F =>
    intro w mg fa h KX G hmg
    have T : ∃ t, My.Txt (L2.KOf KX) t := by
      dsimp only [L2.KOf]                          -- K must stand as «<heap const> w.params» for k_is
      refine' My.txt_mk ?e1 ?e2 ?e3 ..
      (case e1 => PySem.W.k_is)                    -- in the order: a name -> its address -> its object -> its parts
      (case e2 => PySem.W.k_is)
      ..
    obtain ⟨t, T⟩ := T
    have e0 := hmg.symm.trans (PySem.W.mg_of KX G T.law)
    cases e0                                       -- fa is the law's own address
    exact ⟨_, fun s u => .of_eq rfl, fun base kb nb => My.law_fn T kb nb⟩     -- if «.of_eq rfl» comes too early: refine' ⟨_, ?b, fun base kb nb => My.law_fn T kb nb⟩; exact fun s u => .of_eq rfl
  case S => exact fun w H a ns hl hO hS => ..
  case C => exact ..
(the tactic k_is has no namespace: write k_is) -/

/-! SHORT WORDS over the layer: a def of the text, its body, what a loop and a test want. -/
namespace L2
open PySem PySem.Spec PyProof.Rows

/-! ### the text by places -/
/-- the j-th statement of a class's body -/
def inClass (s : Stmt) (j : Nat) : Stmt := match s with
  | .ClassDef _ _ _ body _ _ _ _ _ _ _ => body.getD j (.Pass ⟨0, 0, 0, 0⟩)
  | _ => .Pass ⟨0, 0, 0, 0⟩
def defArgs (s : Stmt) : Arguments := match s with
  | .FunctionDef _ a _ _ _ _ _ _ _ _ => a
  | _ => { posonlyargs := [], args := [], vararg := none, kwonlyargs := [], kw_defaults := [], kwarg := none, defaults := [] }
def defBody (s : Stmt) : List Stmt := match s with
  | .FunctionDef _ _ b _ _ _ _ _ _ _ => b
  | _ => []
def defScope (s : Stmt) : Scope := match s with
  | .FunctionDef _ _ _ _ _ _ sc _ _ _ => sc
  | _ => { kind := .function, names := [], isGenerator := false, isCoroutine := false }

/-! ### no exception leaves a def -/
abbrev CX0 : CXT := fun _ _ _ _ _ _ => False
abbrev E0 : XK := fun _ _ _ => False
theorem pass0 {X : Cx} : Passes CX0 X E0 := fun _ _ _ _ _ _ _ h => h.elim

/-! ### a def (or method) of the text as it stands behind the top -/
structure Fun (K : PySem.W.Frag) (x qual : Str) (st : Stmt) (f : Addr) (fd : FuncData) : Prop where
  ex : ∃ (oc : Value) (od : Option Addr) (kV doc pm : Value) (an : Option Addr) (cdv ct : Value) (osl : Array (Option Value)),
    fd = PySem.W.fnOf x qual (defArgs st) (defBody st) (defScope st) .none kV doc pm an cdv ct ∧ K.lookup f = some ⟨oc, od, .func fd, osl⟩ ∧ PySem.W.codeIn K cdv qual = true
  kp : PySem.W.keepIn K (.ref f) = true
section
variable {P : Program} {w : World} {K : PySem.W.Frag} {mg : Str → Option Value} {base : Heap}
/-- THE RULE for a def: its body as a term of rules, and the reading of that term -/
theorem Fun.ok {x qual : Str} {st : Stmt} {f : Addr} {fd : FuncData} {N ps : List Str} {k : Nat} {sp : Sp} (F : Fun K x qual st f fd) (S : FnScope N ps (defScope st)) (len : ∀ vs H Q E, sp vs H Q E → vs.length = ps.length)
    (hbody : ∀ (cdv : Value) (A : Around) (outer : List Env) (s : Shared) (H : Hp) (vs : List V) (Q : VK) (E : XK), Room k (A.deeper (envOfC qual (defScope st) s.heap.objs.size f cdv)) → sp vs H Q E →
      ∃ t, PSs (cxOf CX0 P w K mg base N qual (defScope st) f cdv A outer s H E).nox (defBody st) t ∧ t { nx := fun _ H' => Q .non H', rt := Q } (start N vs) H) : FnOk P w K mg base CX0 (k + 1) f fd ps sp := by
  obtain ⟨oc, od, kV, doc, pm, an, cdv, ct, osl, rfl, lk, hcd⟩ := F.ex
  refine fn_of lk hcd S len fun A outer s H vs Q E hr hsp => ?_
  obtain ⟨t, h, q⟩ := hbody cdv A outer s H vs Q E hr hsp
  exact ⟨t, h.nox, q⟩
/-- how its arguments bind (no defaults): h is «fun _ _ _ _ _ _ us hl => match us, hl with | [_, _], _ => rfl», one _ a parameter -/
theorem Fun.binds {x qual : Str} {st : Stmt} {f : Addr} {fd : FuncData} {ps : List Str} (F : Fun K x qual st f fd)
    (h : ∀ (kV doc pm : Value) (an : Option Addr) (cdv ct : Value) (us : List Value), us.length = ps.length → bindArgs (PySem.W.fnOf x qual (defArgs st) (defBody st) (defScope st) .none kV doc pm an cdv ct) ⟨us, []⟩ = pure (ps.zip us)) : Binds K fd ps [] := by
  obtain ⟨oc, od, kV, doc, pm, an, cdv, ct, osl, rfl, lk, hcd⟩ := F.ex
  exact .all (h kV doc pm an cdv ct)
theorem fun_mk {x qual : Str} {st : Stmt} {f : Addr} {oc : Value} {od an : Option Addr} {osl : Array (Option Value)} {kV doc pm cdv ct : Value} (l : K.lookup f = some ⟨oc, od, .func (PySem.W.fnOf x qual (defArgs st) (defBody st) (defScope st) .none kV doc pm an cdv ct), osl⟩)
    (c : PySem.W.codeIn K cdv qual = true) (k : PySem.W.keepIn K (.ref f) = true) : Fun K x qual st f (PySem.W.fnOf x qual (defArgs st) (defBody st) (defScope st) .none kV doc pm an cdv ct) := ⟨⟨oc, od, kV, doc, pm, an, cdv, ct, osl, rfl, l, c⟩, k⟩
end
theorem hu_of {A : Around} {k : Nat} (hr : Room k A) : A.units + 1 < cLine := Nat.lt_of_le_of_lt (Nat.add_le_add_left (by decide : 1 ≤ 64) _) hr.units
theorem small1000 {n : Nat} (h : n ≤ 1000) : n < sizeLine := Nat.lt_of_le_of_lt h (by decide)

/-! ### expressions in short: the name that stands in the i-th slot -/
section
variable {X : Cx}
theorem pv (i : Nat) {x : Str} {pos : Pos} (hN : X.N[i]? = some x := by rfl) (hv : Vis X.env.scope x := by first | exact Or.inl rfl | exact Or.inr (Or.inl rfl) | exact Or.inr (Or.inr rfl)) (hd : (x == ("__debug__" : Str)) = false := by decide)
    (hcd : (x == ("__classdict__" : Str)) = false := by decide) : PE X (.Name x pos) (tVar i) := pe_var hN hv hd hcd
end

/-! ### tests -/
theorem iteF {A B : Prop} (h : B) : if false = true then A else B := by
  rw [if_neg Bool.false_ne_true]
  exact h
theorem iteT {A B : Prop} (h : A) : if true = true then A else B := by
  rw [if_pos rfl]
  exact h
theorem ite2 {c A B : Prop} [Decidable c] (h1 : c → A) (h2 : ¬ c → B) : if c then A else B := by
  by_cases h : c
  · rw [if_pos h]
    exact h1 h
  · rw [if_neg h]
    exact h2 h
theorem iteNS {c A B : Prop} [Decidable c] (hc : c) (h : B) : if (!decide c) = true then A else B := by
  rw [decide_eq_true hc]
  exact iteF h

/-! ### heaps -/
/-- all that was tracked is as it was -/
def Same (H H' : Hp) : Prop := ∀ b o, H b = some o → H' b = some o
theorem Same.refl (H : Hp) : Same H H := fun _ _ h => h
theorem Same.trans {H H1 H2 : Hp} (a : Same H H1) (b : Same H1 H2) : Same H H2 := fun c o h => b c o (a c o h)
theorem Same.free {H H' : Hp} (e : Same H H') {l : Addr} (h : H' l = Option.none) : H l = Option.none := by
  cases q : H l with
  | none => rfl
  | some o =>
    rw [e l o q] at h
    cases h
theorem Same.seq {K : PySem.W.Frag} {H H' : Hp} {a : Addr} {xs : List V} (e : Same H H') (h : SqL K H a xs) : SqL K H' a xs := by
  rcases h with (h | ⟨o, h⟩) | h
  · exact .inl (.inl (e _ _ h))
  · exact .inl (.inr ⟨o, e _ _ h⟩)
  · exact .inr h

end L2

set_option maxHeartbeats 4000000
namespace L2
open PySem PySem.Spec PyProof.Rows

/-! ### a comprehension's closure -/
def closL (env : Env) (l : List (Str × NameKind)) (cs : List (Str × Addr)) : List (Str × Addr) :=
  l.foldl (fun c y => if y.2 == .free then (y.1, (env.cells.lookup y.1).getD 0) :: c else c) cs

theorem forIn_yields {α β : Type} {l : List α} {f : α → β → Sem (ForInStep β)} {g : β → α → β} : ∀ (c : β), (∀ x ∈ l, ∀ c, f x c = pure (.yield (g c x))) →
    forIn l c f = pure (l.foldl g c) := by
  induction l with
  | nil => intro c _; rfl
  | cons x l ih =>
    intro c h
    rw [List.forIn_cons, h x List.mem_cons_self, pure_bind]
    exact ih _ fun y hy => h y (List.mem_cons_of_mem _ hy)

theorem closureFor_of {scope : Scope} {env : Env} (h : ∀ y ∈ scope.names, y.2 = .free → ∃ c, env.cells.lookup y.1 = some c) : closureFor scope env = pure (closL env scope.names []) := by
  unfold closureFor closL
  dsimp only
  rw [forIn_yields (g := fun c y => if y.2 == .free then (y.1, (env.cells.lookup y.1).getD 0) :: c else c) [] ?_]
  · rfl
  · intro y hy c
    obtain ⟨n, k⟩ := y
    by_cases hk : k = .free
    · subst hk
      obtain ⟨a, ha⟩ := h _ hy rfl
      have ha' : env.cells.lookup n = some a := ha
      simp [cellOf, ha']
    · have e : (k == NameKind.free) = false := by simpa using hk
      simp [e]

theorem closL_sound {env : Env} : ∀ (l : List (Str × NameKind)) (cs : List (Str × Addr)), (∀ y ∈ l, y.2 = .free → ∃ c, env.cells.lookup y.1 = some c) → (∀ p ∈ cs, env.cells.lookup p.1 = some p.2) →
    ∀ p ∈ closL env l cs, env.cells.lookup p.1 = some p.2
  | [], _, _, h => h
  | (n, k) :: l, cs, hl, h => by
    refine closL_sound l _ (fun y hy => hl y (List.mem_cons_of_mem _ hy)) fun p hp => ?_
    by_cases hk : k = .free
    · subst hk
      obtain ⟨c, hc⟩ := hl _ List.mem_cons_self rfl
      have hc' : env.cells.lookup n = some c := hc
      have hp' : p ∈ (n, (env.cells.lookup n).getD 0) :: cs := hp
      rcases List.mem_cons.mp hp' with rfl | hp
      · show env.cells.lookup n = some ((env.cells.lookup n).getD 0)
        rw [hc']; rfl
      · exact h p hp
    · have hp' : p ∈ (if (k == NameKind.free) = true then (n, (env.cells.lookup n).getD 0) :: cs else cs) := hp
      rw [if_neg (by simpa using hk)] at hp'
      exact h p hp'
theorem closL_mono {env : Env} : ∀ (l : List (Str × NameKind)) (cs : List (Str × Addr)) (p : Str × Addr), p ∈ cs → p ∈ closL env l cs
  | [], _, _, h => h
  | (n, k) :: l, cs, p, h => by
    refine closL_mono l _ p ?_
    show p ∈ (if (k == .free) = true then (n, (env.cells.lookup n).getD 0) :: cs else cs)
    split
    · exact List.mem_cons_of_mem _ h
    · exact h
theorem closL_there {env : Env} : ∀ (l : List (Str × NameKind)) (cs : List (Str × Addr)) (n : Str), (n, NameKind.free) ∈ l → ∃ c, (n, c) ∈ closL env l cs
  | [], _, _, h => nomatch h
  | (m, k) :: l, cs, n, h => by
    rcases List.mem_cons.mp h with e | h
    · have e1 : n = m := congrArg Prod.fst e
      have e2 : NameKind.free = k := congrArg Prod.snd e
      subst e1 e2
      exact ⟨(env.cells.lookup n).getD 0, closL_mono l _ _ List.mem_cons_self⟩
    · exact closL_there l _ n h
theorem lookup_of_mem {β : Type} : ∀ {l : List (Str × β)} {n : Str}, (∃ c, (n, c) ∈ l) → ∃ c, l.lookup n = some c
  | [], _, h => let ⟨_, z⟩ := h; nomatch z
  | (m, b) :: l, n, h => by
    by_cases e : n = m
    · subst e
      exact ⟨b, by simp [List.lookup_cons]⟩
    · obtain ⟨c, hc⟩ := h
      rcases List.mem_cons.mp hc with z | z
      · cases z; exact absurd rfl e
      · obtain ⟨c', h'⟩ := lookup_of_mem ⟨c, z⟩
        refine ⟨c', ?_⟩
        have e' : (n == m) = false := by simpa using e
        simp [List.lookup_cons, e', h']

/-- the names of a comprehension's block, as the block sees them -/
def relS (scope osc : Scope) : List (Str × NameKind) := scope.names.map fun (n, k) => if (k == .free && osc.kind == .function && osc.names.lookup n == some .cell) then (n, .cell) else (n, k)
theorem relS_eq (scope : Scope) (env : Env) : (relabel scope env).names = relS scope env.scope := rfl

/-- what is asked of the scopes, once, by computation: osc the def's, N its names; sc the block's, idx the places (in N) of the names that it captures -/
def compB (osc : Scope) (N : List Str) (sc : Scope) (idx : List Nat) : Bool :=
  decide (sc.kind = .function) && sc.names.all (fun y => decide (y.2 ≠ .cell)) && sc.names.all (fun y => decide (y.2 ≠ .local) || decide (sc.names.lookup y.1 = some .local)) &&
  sc.names.all (fun y => decide (y.2 ≠ .free) || decide (osc.names.lookup y.1 = some .cell) || decide (osc.names.lookup y.1 = some .free)) &&
  idx.all (fun i => match N[i]? with
    | some y => (decide (osc.names.lookup y = some .cell) || decide (osc.names.lookup y = some .free)) && (decide ((relS sc osc).lookup y = some .cell) || decide ((relS sc osc).lookup y = some .free))
    | none => false)

/-- the captured slots -/
def caps (σ : St) (idx : List Nat) : St := idx.map fun i => (σ[i]?).join
theorem caps_length (σ : St) (idx : List Nat) : (caps σ idx).length = idx.length := by unfold caps; rw [List.length_map]

/-- the context of a comprehension's block: T its own names (targets), then the captured ones -/
def cxComp (X : Cx) (sc : Scope) (T : List Str) (idx : List Nat) (C : Addr) (s₂ : Shared) (H1 : Hp) (fp : List Addr) : Cx where
  prog := X.prog
  w := X.w
  K := X.K
  mg := X.mg
  base := X.base
  A := X.A
  N := T ++ idx.map fun i => (X.N[i]?).getD Str.empty
  s₀ := s₂
  H₀ := H1
  env := compEnvC sc (closL X.env sc.names []) C X.env
  outer := X.stack
  stack := X.stack
  ex := fp
  fn := fun _ => false
  calm := X.calm
  pn := []
  xe := fun _ _ => False

/-- [elt for tg in iter if tc]: W is the invariant by the turn, the measure, the values so far -/
def tComp (wi : TI) (g : TG) (tc : Addr → Shared → Hp → List Addr → TT) (te : Addr → Shared → Hp → List Addr → TE) (nt : Nat) (idx : List Nat) : TE := fun σ H Q => wi σ H fun J H1 => ∃ W : Nat → Nat → List V → Hp → Prop, (∃ m, W 0 m [] H1) ∧ ∀ i m ys H2, W i m ys H2 → ys.length ≤ sizeLine ∧
  ((J.stop i H2 ∧ ∀ D, H2 D = none → Q (.ref D) (upd H2 D (.lst ys))) ∨
   (J.go i H2 ∧ ys.length < sizeLine ∧ ∀ x H3, J.yld i H2 x H3 → ∀ τ : St, τ.length = nt → g x (τ ++ caps σ idx) H3 fun σ4 H4 => (∃ τ', σ4 = τ' ++ caps σ idx ∧ τ'.length = nt) ∧
     ∀ C s₂ fp, tc C s₂ H1 fp σ4 H4 fun b H5 => if b = true then te C s₂ H1 fp σ4 H5 fun y H6 => ∃ m', m' < m ∧ W (i + 1) m' (ys ++ [y]) H6 else ∃ m', m' < m ∧ W (i + 1) m' ys H5))

section
variable {prog : Program} {w : World} {A : Around} {R : Result → Shared → Prop} {s : Shared}
/-- the block's loop, whatever its target is; no exception leaves a turn -/
theorem compLoop_gen {elt target iter : Expr} {ifs : List Expr} {scope : Scope} {pos : Pos} {it acc : Value} {env : Env} (I : Nat → Shared → Prop)
    (turn : ∀ n s, I n s → wpAny (model prog w) A (pyNext it) (fun r s₁ => match r with
      | none => R (.ok .next) s₁
      | some v => wpAny (model prog w) A (letOwnedTupleGo target it v) (fun _ s₁' => wpAny (model prog w) A (assign target env v) (fun _ s₂ =>
          wpAny (model prog w) A (forIn ifs true fun c r => if r = true then do let ok ← isTrue c env (eval c env); pure (ForInStep.yield ok) else pure (ForInStep.yield r)) (fun ok s₃ =>
            if ok = true then wpAny (model prog w) A (eval elt env) (fun x s₄ =>
              wpAny (model prog w) A (call (.builtin "list.append") [acc, x]) (fun _ s₅ => ∃ m, m < n ∧ I m s₅) (fun _ _ => False) s₄) (fun _ _ => False) s₃
            else ∃ m, m < n ∧ I m s₃) (fun _ _ => False) s₂) (fun _ _ => False) s₁') (fun _ _ => False) s₁) (fun _ _ => False) s)
    (n : Nat) (h : I n s) : codeAny (model prog w) A (.compLoop (.ListComp elt [⟨target, iter, ifs, 0⟩] scope pos) 0 it acc env) R s := by
  refine codeAny_loop rfl I (fun n s hI => ?_) n h
  show wpAny _ A ((compTurn (.ListComp elt [⟨target, iter, ifs, 0⟩] scope pos) 0 it acc env).onRaise (fun x => do noteFrame x env; theTreesLotGoes x)) _ _ s
  refine wpAny_noted ?_
  rw [compTurn_list]
  have no : ∀ {E' : Value → Shared → Prop} (v : Value) (s' : Shared), False → E' v s' := fun _ _ z => z.elim
  refine wpAny_bind (wpAny_standAt (wpAny_bind (wpAny_mono (turn n s hI) (fun r s₁ h₁ => ?_) (no))))
  cases r with
  | none => exact wpAny_pure h₁
  | some v =>
    refine wpAny_bind (wpAny_mono h₁ (fun _ s₁' h₁' => wpAny_bind (wpAny_mono h₁' (fun _ s₂ h₂ => wpAny_bind (wpAny_mono h₂ (fun ok s₃ h₃ => ?_) no)) no)) no)
    cases ok with
    | false => exact wpAny_pure ⟨rfl, h₃⟩
    | true =>
      exact wpAny_bind (wpAny_bind (wpAny_mono h₃ (fun x s₄ h₄ => wpAny_bind (wpAny_mono h₄ (fun _ s₅ h₅ => wpAny_pure (wpAny_pure ⟨rfl, h₅⟩)) no)) no))
end

/-- the tests of a comprehension's clause: none, or one -/
def PIfs (X : Cx) (ifs : List Expr) (t : TT) : Prop :=
  ∀ (pins : List (Addr × Obj)) (s : Shared) (σ : St) (H : Hp) (Q : Bool → Hp → Prop), Inv X pins σ H s → t σ H Q →
    wpAny (model X.prog X.w) X.A (forIn ifs true fun c r => if r = true then do let ok ← isTrue c X.env (eval c X.env); pure (ForInStep.yield ok) else pure (ForInStep.yield r)) (TP X pins σ Q) X.xe s
def tNoIf : TT := fun _ H Q => Q true H
theorem pifs_nil {X : Cx} : PIfs X [] tNoIf := fun _ _ _ H _ I h => wpAny_tests_nil ⟨H, I, h⟩
theorem pifs_one {X : Cx} {c : Expr} {t : TT} (h : PT X c t) : PIfs X [c] t := fun pins s σ H Q I q => wpAny_tests_one (h pins s σ H Q I q)
end L2

namespace L2
open PySem PySem.Spec PyProof.Rows

structure CompF (osc : Scope) (N : List Str) (sc : Scope) (idx : List Nat) : Prop where
  kind : sc.kind = .function
  nocell : ∀ y ∈ sc.names, y.2 ≠ .cell
  locs : ∀ y ∈ sc.names, y.2 = .local → sc.names.lookup y.1 = some .local
  frees : ∀ y ∈ sc.names, y.2 = .free → osc.names.lookup y.1 = some .cell ∨ osc.names.lookup y.1 = some .free
  cap : ∀ i ∈ idx, ∃ y, N[i]? = some y ∧ (osc.names.lookup y = some .cell ∨ osc.names.lookup y = some .free) ∧ ((relS sc osc).lookup y = some .cell ∨ (relS sc osc).lookup y = some .free)
theorem compB_f {osc : Scope} {N : List Str} {sc : Scope} {idx : List Nat} (h : compB osc N sc idx = true) : CompF osc N sc idx := by
  unfold compB at h
  simp only [Bool.and_eq_true, List.all_eq_true, decide_eq_true_eq, Bool.or_eq_true] at h
  obtain ⟨⟨⟨⟨h1, h2⟩, h3⟩, h4⟩, h5⟩ := h
  refine ⟨h1, fun y hy => h2 y hy, fun y hy e => ?_, fun y hy e => ?_, fun i hi => ?_⟩
  · rcases h3 y hy with z | z
    · exact absurd e z
    · exact z
  · rcases h4 y hy with (z | z) | z
    · exact absurd e z
    · exact .inl z
    · exact .inr z
  · have q := h5 i hi
    cases e : N[i]? with
    | none => rw [e] at q; cases q
    | some y =>
      rw [e] at q
      simp only [Bool.and_eq_true, decide_eq_true_eq, Bool.or_eq_true] at q
      exact ⟨y, rfl, q.1, q.2⟩

/-- a name of the block that is a cell or free there is free in the block's own scope -/
theorem relS_free {sc osc : Scope} {x : Str} (hno : ∀ y ∈ sc.names, y.2 ≠ .cell) (h : (relS sc osc).lookup x = some .cell ∨ (relS sc osc).lookup x = some .free) : (x, NameKind.free) ∈ sc.names := by
  have key : ∀ k', (k' = .cell ∨ k' = .free) → (x, k') ∈ relS sc osc → (x, NameKind.free) ∈ sc.names := by
    intro k' hk' hm
    unfold relS at hm
    obtain ⟨⟨n, k⟩, hy, e⟩ := List.mem_map.mp hm
    dsimp only at e
    split at e
    · rename_i hc
      cases e
      rw [Bool.and_eq_true, Bool.and_eq_true] at hc
      have : k = .free := by simpa using hc.1.1
      subst this
      exact hy
    · cases e
      rcases hk' with rfl | rfl
      · exact absurd rfl (hno _ hy)
      · exact hy
  rcases h with h | h
  · exact key _ (.inl rfl) (PySem.mem_of_lookup h)
  · exact key _ (.inr rfl) (PySem.mem_of_lookup h)

section
variable {X : Cx} {pins : List (Addr × Obj)} {σ : St} {H1 : Hp} {s₂ : Shared} {sc : Scope} {T : List Str} {idx : List Nat} {C : Addr} {fp : List Addr}

theorem clos_has (I : Inv X pins σ H1 s₂) (F : CompF X.env.scope X.N sc idx) : ∀ y ∈ sc.names, y.2 = .free → ∃ c, X.env.cells.lookup y.1 = some c :=
  fun y hy e => I.ok.has y.1 (F.frees y hy e)
theorem clos_look (I : Inv X pins σ H1 s₂) (F : CompF X.env.scope X.N sc idx) {x : Str} {c : Addr} (e : (closL X.env sc.names []).lookup x = some c) : X.env.cells.lookup x = some c :=
  closL_sound sc.names [] (clos_has I F) (fun _ z => nomatch z) (x, c) (PySem.mem_of_lookup e)
theorem clos_of (I : Inv X pins σ H1 s₂) (F : CompF X.env.scope X.N sc idx) {x : Str} {c : Addr} (hx : (x, NameKind.free) ∈ sc.names) (e : X.env.cells.lookup x = some c) : (closL X.env sc.names []).lookup x = some c := by
  obtain ⟨c', h'⟩ := lookup_of_mem (closL_there (env := X.env) sc.names [] x hx)
  rw [h']
  rw [clos_look I F h'] at e
  exact e

theorem cxComp_ok (I : Inv X pins σ H1 s₂) (F : CompF X.env.scope X.N sc idx) (hC : s₂.heap.objs.size ≤ C) (hfp : ∀ b ∈ fp, FpOk X pins H1 b) (hlt : ∀ b ∈ fp, b < s₂.heap.objs.size) : (cxComp X sc T idx C s₂ H1 fp).Ok where
  mod := I.ok.mod
  kind := F.kind
  glob := I.ok.glob
  blt := I.ok.blt
  above := hC
  inj := fun x y c h1 h2 => I.ok.inj x y c (clos_look I F h1) (clos_look I F h2)
  has := fun x hx => by
    have hx' : (relS sc X.env.scope).lookup x = some .cell ∨ (relS sc X.env.scope).lookup x = some .free := hx
    exact lookup_of_mem (closL_there sc.names [] x (relS_free F.nocell hx'))
  cab := fun x c h _ => nomatch h
  hd := I.ok.hd
  frames := I.ok.frames
  stk := .inl rfl
  exf := fun b hb => ⟨Nat.ne_of_lt (Nat.lt_of_lt_of_le (hlt b hb) hC), fun x c e => (hfp b hb).2.2.2.2.1 x c (clos_look I F e)⟩
  bs := I.bs
  bsz := Nat.le_trans I.ok.bsz I.sz
  noex := fun b o e hb => by
    rcases (hfp b hb).2.2.2.1 with z | z
    · exact I.ok.noex b o e z
    · exact absurd (Nat.lt_of_lt_of_le (Heap.lt_size e) (Nat.le_trans I.ok.bsz z)) (Nat.lt_irrefl _)
  exfs := fun b hb z => by
    rcases List.mem_cons.mp (I.stkSub b z) with e | e
    · exact (hfp b hb).2.1 e
    · exact (hfp b hb).2.2.1 e
  funs := I.stack
  frf := I.stkFree

/-- the block's entry: its frame at C -/
theorem cxComp_inv {s₄ : Shared} {m : Str → Option Value} (I : Inv X pins σ H1 s₂) (F : CompF X.env.scope X.N sc idx) (hC : s₂.heap.objs.size ≤ C) (hfp : ∀ b ∈ fp, FpOk X pins H1 b) (hlt : ∀ b ∈ fp, b < s₂.heap.objs.size)
    (kp : ∀ b o, s₂.heap.get? b = some o → s₄.heap.get? b = some o) (ho : s₄.os = s₂.os) (hg : s₄.gens = s₂.gens) (hn : s₄.heap.Ns C m) :
    Inv (cxComp X sc T idx C s₂ H1 fp) [] (T.map (fun _ => none) ++ caps σ idx) H1 s₄ := by
  have cellK : ∀ c v, s₂.heap.IsCell c v → s₄.heap.IsCell c v := fun c v ⟨o, h1, h2⟩ => ⟨o, kp c o h1, h2⟩
  refine ⟨cxComp_ok I F hC hfp hlt, ho, by rw [hg]; exact I.bare, Un.kept kp, ⟨m, hn, fun i x v e1 e2 e3 => ?_⟩, fun x c e => ?_, I.hok.fresh hC, fun x c e => I.freeC x c (clos_look I F e), fun p hp => absurd (show p ∈ ([] : List (Addr × Obj)) from hp) (by simp), I.hok.kept kp, ?_⟩
  · have e1' : (T ++ idx.map fun i => (X.N[i]?).getD Str.empty)[i]? = some x := e1
    by_cases hi : i < T.length
    · rw [List.getElem?_append_left (by simpa using hi), List.getElem?_map] at e2
      cases z : T[i]? with
      | none => rw [z] at e2; cases e2
      | some y => rw [z] at e2; cases e2
    · rw [List.getElem?_append_right (by simpa using hi)] at e2
      rw [List.getElem?_append_right (by omega)] at e1'
      rw [List.length_map] at e2
      unfold caps at e2
      rw [List.getElem?_map] at e1' e2
      cases z : idx[i - T.length]? with
      | none => rw [z] at e2; cases e2
      | some j =>
        rw [z] at e1' e2
        have hj : j ∈ idx := List.mem_of_getElem? z
        obtain ⟨y, hy, k1, k2⟩ := F.cap j hj
        have ex : y = x := by
          have q : (X.N[j]?).getD Str.empty = x := Option.some.inj e1'
          rw [hy] at q; exact q
        subst ex
        have ev : σ[j]? = some (some v) := by
          have q : (σ[j]?).join = some v := Option.some.inj e2
          cases w' : σ[j]? with
          | none => rw [w'] at q; cases q
          | some a => rw [w'] at q; have q' : a = some v := q; rw [q']
        obtain ⟨m0, hn0, hl0⟩ := I.loc
        have vis : Vis X.env.scope y := k1.elim (fun z => .inr (.inl z)) fun z => .inr (.inr z)
        obtain ⟨u, r, l⟩ := hl0 j y v hy ev vis
        refine ⟨u, r, ?_⟩
        rcases l with ⟨kl, _⟩ | ⟨_, c, hc, q⟩
        · have kl' : X.env.scope.names.lookup y = some .local := kl
          rcases k1 with z | z <;> rw [z] at kl' <;> cases kl'
        · exact .inr ⟨k2, c, clos_of I F (relS_free F.nocell k2) hc, cellK c _ q⟩
  · obtain ⟨v, q⟩ := I.cell x c (clos_look I F e)
    exact ⟨v, cellK c v q⟩
  · show (T.map (fun _ => (none : Option V)) ++ caps σ idx).length = (T ++ idx.map fun i => (X.N[i]?).getD Str.empty).length
    rw [List.length_append, List.length_append, List.length_map, List.length_map, caps_length]

/-- behind the block: the list at D is tracked -/
theorem cxComp_end {σ1 : St} {H' : Hp} {s' : Shared} {h' : Heap} {D : Addr} {ys : List V} {its : List Value} {n : Nat} (I : Inv X pins σ H1 s₂) (hC : s₂.heap.objs.size ≤ C) (hfp : ∀ b ∈ fp, FpOk X pins H1 b)
    (J : Inv (cxComp X sc T idx C s₂ H1 fp) [] σ1 H' s') (hs : Heap.SameBut C s'.heap h') (hD : s₂.heap.objs.size ≤ D) (hDC : D ≠ C) (eD : s'.heap.get? D = some { cls := .type "list", data := .seq its.toArray n }) (nD : H' D = none) (r : Vals ys its) (hz : ys.length ≤ sizeLine) :
    Inv X pins σ (upd H' D (.lst ys)) { s' with heap := h' } := by
  have old : ∀ b o, s₂.heap.get? b = some o → b ≠ C ∧ b ≠ D := fun b o e => ⟨Nat.ne_of_lt (Nat.lt_of_lt_of_le (Heap.lt_size e) hC), Nat.ne_of_lt (Nat.lt_of_lt_of_le (Heap.lt_size e) hD)⟩
  have oldH : ∀ b u, H1 b = some u → b ≠ D := fun b u e => Nat.ne_of_lt (Nat.lt_of_lt_of_le (I.hok.lt e) hD)
  have nC : H' C = none := J.free
  have B : Un (frs X.stack) fp H1 H' s₂.heap s'.heap := J.base
  have mv : ∀ b o, b ≠ C → s'.heap.get? b = some o → h'.get? b = some o := fun b o hb e => (hs.2 b hb).trans e
  refine I.call' (s' := { s' with heap := h' }) (ch := fp) J.os ⟨fun b o e q hb hx => ?_, fun b o e q hb hx => ?_, fun b o e q hx => ?_, fun b o e hx => ?_, fun b xs e => ?_, fun b o u e => ?_, fun b ps e => ?_⟩ ?_ J.bare fun b hb => ⟨(hfp b hb).2.2.2.1, (hfp b hb).2.1, (hfp b hb).2.2.2.2.1, (hfp b hb).2.2.2.2.2⟩
  · exact mv b o (old b o e).1 (B.keep b o e q hb hx)
  · obtain ⟨sl, z⟩ := B.slot b o e q hb hx
    exact ⟨sl, mv b _ (old b o e).1 z⟩
  · rw [upd_ne (old b o e).2]; exact B.free b o e q hx
  · obtain ⟨o', z⟩ := B.there b o e hx
    exact ⟨o', mv b o' (old b o e).1 z⟩
  · rw [upd_ne (oldH b _ e)]; exact B.tups b xs e
  · rw [upd_ne (oldH b _ e)]; exact B.frzs b o u e
  · obtain ⟨more, z⟩ := B.tbls b ps e
    exact ⟨more, by rw [upd_ne (oldH b _ e)]; exact z⟩
  · intro b u e
    by_cases hb : b = D
    · subst hb
      rw [upd_same] at e; cases e
      exact ⟨hz, its, n, r, mv b _ hDC eD⟩
    · rw [upd_ne hb] at e
      refine (J.hok b u e).stay (fun c v hc q => mv c v ?_ q) (fun c q => by rw [upd_ne (ne_of_none q nD)]; exact q) fun c xs q => by rw [upd_ne (ne_of_none q nD)]; exact q
      rcases hc with z | z
      · rw [z]; exact ne_of_none e nC
      · exact ne_of_none z nC
end
end L2

namespace L2
open PySem PySem.Spec PyProof.Rows
section
variable {X : Cx}
/-- THE RULE for [elt for tg in iter if ..], one clause; nothing raises within -/
theorem pe_comp {elt tg iter : Expr} {ifs : List Expr} {pos : Pos} {sc : Scope} {wi : TI} {g : TG} {tc : Addr → Shared → Hp → List Addr → TT} {te : Addr → Shared → Hp → List Addr → TE} (T : List Str) (idx : List Nat)
    (hi : PI X tg iter wi) (hcalm : X.calm = true) (hB : compB X.env.scope X.N sc idx = true)
    (hg : ∀ C s₂ H1 fp, PG (cxComp X sc T idx C s₂ H1 fp) tg g)
    (hc : ∀ C s₂ H1 fp, PIfs (cxComp X sc T idx C s₂ H1 fp) ifs (tc C s₂ H1 fp))
    (he : ∀ C s₂ H1 fp, PE (cxComp X sc T idx C s₂ H1 fp) elt (te C s₂ H1 fp))
    (hs : ∀ x, foldedSetIterable iter X.env x = pure x := by intro _; rfl) :
    PE X (.ListComp elt [⟨tg, iter, ifs, 0⟩] sc pos) (tComp wi g tc te T.length idx) := by
  intro pins s σ H Q I h
  rw [eval_ListComp]
  have cf := compB_f hB
  refine wpAny_comprehension_free (use := none) (cl := closL X.env sc.names []) rfl hs (closureFor_of (clos_has I cf)) cf.kind cf.locs ?_
  refine thn (hi pins s σ H _ I h) fun v s1 h1 => thn h1 fun itv s2 h2 => ?_
  obtain ⟨it, fp, tn, J, H2, e, I2, Tn, st2, f2, W, ⟨m0, w0⟩, turn⟩ := h2
  subst e
  have hlt : ∀ b ∈ fp, b < s2.heap.objs.size := fun b hb => let ⟨o, e, _⟩ := Tn.obj _ _ st2 b hb; Heap.lt_size e
  refine wpAny_newObj_type (wpAny_newFunctionEnv cf.nocell (by intro y hy; simp at hy) (fun h₁ hns₁ hsb₁ => ?_) cf.kind)
  dsimp only at hns₁ hsb₁ ⊢
  generalize hH2 : s2.heap.push { cls := .type "list", dict := none, data := .seq ([] : List Value).toArray } = HH at hns₁ hsb₁ ⊢
  have hC : HH.objs.size = s2.heap.objs.size + 1 := by rw [← hH2, Heap.size_push]
  have hDC : s2.heap.objs.size ≠ HH.objs.size := by rw [hC]; exact Nat.ne_of_lt (Nat.lt_succ_self _)
  have hCle : s2.heap.objs.size ≤ HH.objs.size := by rw [hC]; exact Nat.le_succ _
  have old : ∀ b o, s2.heap.get? b = some o → h₁.get? b = some o := fun b o e => hsb₁.extBut b o (by rw [hC]; exact Nat.ne_of_lt (Nat.lt_succ_of_lt (Heap.lt_size e))) (Heap.get?_push_of_some _ (hH2 ▸ Heap.get?_push_of_some _ e))
  have eD0 : h₁.get? s2.heap.objs.size = some { cls := .type "list", data := .seq ([] : List Value).toArray 0 } := hsb₁.extBut _ _ hDC (Heap.get?_push_of_some _ (hH2 ▸ Heap.get?_push_size _ rfl))
  have nD0 : H2 s2.heap.objs.size = none := I2.hok.fresh (Nat.le_refl _)
  have cD : ∀ x c, (closL X.env sc.names []).lookup x = some c → c ≠ s2.heap.objs.size := fun x c e => by
    obtain ⟨v, q⟩ := I2.cell x c (clos_look I2 cf e)
    exact Nat.ne_of_lt q.lt
  have loop : ∀ s4 : Shared, s4 = { s2 with heap := h₁, toks := s2.toks + ([] : List (Str × Value)).length } →
      codeAny (model X.prog X.w) X.A (.compLoop (.ListComp elt [⟨tg, iter, ifs, 0⟩] sc pos) 0 (.ref it) (.ref s2.heap.objs.size) (compEnvC sc (closL X.env sc.names []) HH.objs.size X.env))
        (compPost (model X.prog X.w) X.A X.xe none (EP X pins σ Q) (.ref s2.heap.objs.size) HH.objs.size) s4 := by
    rintro s4 rfl
    have J0 : Inv (cxComp X sc T idx HH.objs.size s2 H2 fp) [] (T.map (fun _ => none) ++ caps σ idx) H2 { s2 with heap := h₁, toks := s2.toks + ([] : List (Str × Value)).length } :=
      cxComp_inv I2 cf hCle f2 hlt old rfl rfl hns₁
    refine compLoop_gen (fun k s' => ∃ (i : Nat) (ys : List V) (its : List Value) (n : Nat) (H' : Hp) (τ : St), Inv (cxComp X sc T idx HH.objs.size s2 H2 fp) [] (τ ++ caps σ idx) H' s' ∧ τ.length = T.length ∧ tn i s'.heap ∧ (∀ b ∈ fp, H' b = none) ∧
      s'.heap.get? s2.heap.objs.size = some { cls := .type "list", data := .seq its.toArray n } ∧ H' s2.heap.objs.size = none ∧ Vals ys its ∧ W i k ys H') ?_ m0
      ⟨0, [], [], 0, H2, T.map (fun _ => none), J0, by rw [List.length_map], Tn.keep _ _ _ st2 fun b _ o e => old b o e, fun b hb => (f2 b hb).1, eD0, nD0, .nil, w0⟩
    rintro k s3 ⟨i, ys, its, n, H3, τ, I3, hτ, st3, fr3, eD3, nD3, r3, w3⟩
    obtain ⟨hz, alt⟩ := turn i k ys H3 w3
    have hDfs : s2.heap.objs.size ∉ (cxComp X sc T idx HH.objs.size s2 H2 fp).fs := fun z => by
      obtain ⟨_, o, ho, _⟩ := I2.stack.mem (show s2.heap.objs.size ∈ frs X.stack from z)
      exact absurd (Heap.lt_size ho) (Nat.lt_irrefl _)
    have pinD : ∀ {H' : Hp} {s' : Shared}, s'.heap.get? s2.heap.objs.size = some { cls := .type "list", data := .seq its.toArray n } → H' s2.heap.objs.size = none →
        ∀ p ∈ [(s2.heap.objs.size, ({ cls := .type "list", data := .seq its.toArray n } : Obj))], s'.heap.get? p.1 = some p.2 ∧ H' p.1 = none ∧ p.1 ≠ (cxComp X sc T idx HH.objs.size s2 H2 fp).env.locals ∧ p.1 ∉ (cxComp X sc T idx HH.objs.size s2 H2 fp).fs ∧ ∀ v, p.2.data ≠ .cell v :=
      fun {H' s'} e1 e2 p hp => by
        have ep : p = (s2.heap.objs.size, { cls := .type "list", data := .seq its.toArray n }) := by simpa using hp
        subst ep
        exact ⟨e1, e2, hDC, hDfs, fun v z => by cases z⟩
    have P3 : Inv (cxComp X sc T idx HH.objs.size s2 H2 fp) [(s2.heap.objs.size, { cls := .type "list", data := .seq its.toArray n })] (τ ++ caps σ idx) H3 s3 := I3.pins_of (pinD eD3 nD3)
    have stat : ∀ {H' : Hp}, (∀ b ∈ fp, H' b = none) → ∀ b ∈ fp, FpOk (cxComp X sc T idx HH.objs.size s2 H2 fp) [(s2.heap.objs.size, { cls := .type "list", data := .seq its.toArray n })] H' b := fun {H'} hn b hb => by
      have hb2 := hlt b hb
      refine ⟨hn b hb, Nat.ne_of_lt (Nat.lt_of_lt_of_le hb2 hCle), I3.ok.exfs b hb, .inl hb, fun x c e => (f2 b hb).2.2.2.2.1 x c (clos_look I2 cf e), fun p hp => ?_⟩
      have ep : p = (s2.heap.objs.size, ({ cls := .type "list", data := .seq its.toArray n } : Obj)) := by simpa [cxComp] using hp
      subst ep
      exact Nat.ne_of_gt hb2
    rcases alt with ⟨stop, q⟩ | ⟨go, hl2, step⟩
    · refine thn (Tn.done (cxComp X sc T idx HH.objs.size s2 H2 fp) rfl rfl rfl hcalm i _ s3 _ H3 (fun _ _ => False) P3 (stat fr3) st3 stop) fun r s4 ⟨hr, I4⟩ => ?_
      subst hr
      obtain ⟨m, hn, _⟩ := id I4.loc
      refine ⟨m, hn, fun h' hs' => ?_⟩
      have eD4 := (I4.pin (s2.heap.objs.size, { cls := .type "list", data := .seq its.toArray n }) (by simp)).1
      exact ⟨.ref s2.heap.objs.size, _, cxComp_end I2 hCle f2 (I4.pins_of (fun p hp => nomatch hp)) hs' (Nat.le_refl _) hDC eD4 nD3 r3 hz, rfl, q _ nD3⟩
    · refine thn (Tn.item (cxComp X sc T idx HH.objs.size s2 H2 fp) rfl rfl rfl hcalm i _ s3 _ H3 (fun _ _ => False) P3 (stat fr3) st3 go) fun r s4 ⟨u, hr, h4⟩ => ?_
      subst hr
      refine thn h4 fun _ s5 ⟨x, H5, I5, r5, y5, st5, fr5⟩ => ?_
      have I5' := I5.pinned (stat fr5) (Tn.obj _ _ st5)
      refine thn (hg HH.objs.size s2 H2 fp _ s5 _ H5 x u _ I5' r5 (step x H5 y5 τ hτ)) fun _ s6 ⟨σ6, H6, I6, ⟨τ', e6, l6⟩, q6⟩ => ?_
      subst e6
      refine thn (hc HH.objs.size s2 H2 fp _ s6 _ H6 _ I6 (q6 HH.objs.size s2 fp)) fun ok s7 ⟨H7, I7, q7⟩ => ?_
      have mD : (s2.heap.objs.size, ({ cls := .type "list", data := .seq its.toArray n } : Obj)) ∈ (cxComp X sc T idx HH.objs.size s2 H2 fp).pn ++ ([(s2.heap.objs.size, { cls := .type "list", data := .seq its.toArray n })] ++ pinsAt fp s5.heap) :=
        List.mem_append_right _ (List.mem_append_left _ (by simp))
      have mF : ∀ b ∈ fp, ∀ o, s5.heap.get? b = some o → (b, o) ∈ (cxComp X sc T idx HH.objs.size s2 H2 fp).pn ++ ([(s2.heap.objs.size, { cls := .type "list", data := .seq its.toArray n })] ++ pinsAt fp s5.heap) := fun b hb o e =>
        List.mem_append_right _ (List.mem_append_right _ (mem_pinsAt hb e))
      cases ok with
      | false =>
        rw [if_neg Bool.false_ne_true] at q7 ⊢
        obtain ⟨m', hm', w7⟩ := q7
        refine ⟨m', hm', i + 1, ys, its, n, H7, τ', I7.pins_of (fun p hp => nomatch hp), l6, Tn.keep _ _ _ st5 fun b hb o e => (I7.pin _ (mF b hb o e)).1, fun b hb => ?_, (I7.pin _ mD).1, (I7.pin _ mD).2.1, r3, w7⟩
        obtain ⟨o, e, d⟩ := Tn.obj _ _ st5 b hb
        exact (I7.pin _ (mF b hb o e)).2.1
      | true =>
        rw [if_pos rfl] at q7 ⊢
        refine thn (he HH.objs.size s2 H2 fp _ s7 _ H7 _ I7 q7) fun y s8 ⟨yv, H8, I8, r8, m', hm', w8⟩ => ?_
        have eD8 := (I8.pin _ mD).1
        have nD8 := (I8.pin _ mD).2.1
        have hl := r3.length
        have q := PySem.IsL.update eD8 (fun z => z.push y)
        rw [show its.toArray.push y = (its ++ [y]).toArray by simp] at q
        refine call_meets PySem.F.slot_list_append ⟨_, eD8, rfl⟩ PySem.F.entry_list_append (PySem.F.args_list_append_2 _ _) (PySem.list_append s2.heap.objs.size its.toArray n y (by rw [List.size_toArray]; omega)) ⟨eD8, ?_⟩
        have I9 : Inv (cxComp X sc T idx HH.objs.size s2 H2 fp) [] (τ' ++ caps σ idx) H8 s8 := I8.pins_of (fun p hp => nomatch hp)
        have up : ∀ b o, b ≠ s2.heap.objs.size → s8.heap.get? b = some o → (s8.heap.update s2.heap.objs.size (Obj.mapSeq fun z => z.push y)).get? b = some o := fun b o hb e => (Heap.get?_update_other s8.heap _ (Ne.symm hb)).trans e
        refine ⟨m', hm', i + 1, ys ++ [yv], its ++ [y], _, H8, τ', I9.turned (t' := s8.toks) up nD8 hDC (.inr (Nat.le_refl _)) cD (fun p hp => nomatch hp), l6, ?_, fun b hb => ?_, q, nD8, r3.append (.cons r8 .nil), w8⟩
        · exact Tn.keep _ _ _ st5 fun b hb o e => up b o (Nat.ne_of_lt (hlt b hb)) (I8.pin _ (mF b hb o e)).1
        · obtain ⟨o, e, d⟩ := Tn.obj _ _ st5 b hb
          exact (I8.pin _ (mF b hb o e)).2.1
  exact codeAny_compStart_list (loop _ rfl) (Tn.self X.A 0 _ _ _ (Tn.keep _ _ _ st2 fun b _ o e => old b o e) (loop _ rfl))
end
end L2

namespace L2
open PySem PySem.Spec PyProof.Rows

/-! ### texts as lists of codes -/
def mkS (x : List Nat) : Str := ⟨x.toArray⟩
theorem mkS_len (x : List Nat) : (mkS x).length = x.length := by simp [mkS, Str.length]
theorem mkS_cps (x : List Nat) : (mkS x).cps.toList = x := by simp [mkS]
theorem mkS_inj {x y : List Nat} (h : mkS x = mkS y) : x = y := by
  have := congrArg (fun s => s.cps.toList) h
  simpa [mkS] using this
theorem mkS_app (x y : List Nat) : mkS x ++ mkS y = mkS (x ++ y) := by
  show Str.append (mkS x) (mkS y) = _
  simp [Str.append, mkS]
theorem mkS_one (c : Nat) : (⟨#[c]⟩ : Str) = mkS [c] := rfl

/-- what x[lo:hi] picks -/
def cutL {α : Type} (xs : List α) (lo hi : Option Int) : List α := (xs.drop (HT.sIx xs.length 0 lo)).take (HT.sIx xs.length xs.length hi - HT.sIx xs.length 0 lo)
theorem strIdx (lo hi : Option Int) (n : Nat) : Builtin.Str.strSliceIndices lo hi 1 n = (List.range (HT.sIx n n hi - HT.sIx n 0 lo)).map (HT.sIx n 0 lo + ·) := by
  have e1 : (match lo with | none => (if (1 : Int) > 0 then (0 : Int) else (n : Int) - 1) | some i => if (1 : Int) > 0 then max 0 (min (if i < 0 then i + (n : Int) else i) (n : Int)) else max (-1) (min (if i < 0 then i + (n : Int) else i) ((n : Int) - 1))) = ((HT.sIx n 0 lo : Nat) : Int) := by
    cases lo with
    | none => simp [HT.sIx]
    | some i =>
      simp only [HT.sIx, show (1 : Int) > 0 by decide, if_true]
      by_cases h : i < 0
      · simp only [h, if_true]; omega
      · simp only [h, if_false]; omega
  have e2 : (match hi with | none => (if (1 : Int) > 0 then (n : Int) else -1) | some i => if (1 : Int) > 0 then max 0 (min (if i < 0 then i + (n : Int) else i) (n : Int)) else max (-1) (min (if i < 0 then i + (n : Int) else i) ((n : Int) - 1))) = ((HT.sIx n n hi : Nat) : Int) := by
    cases hi with
    | none => simp [HT.sIx]
    | some i =>
      simp only [HT.sIx, show (1 : Int) > 0 by decide, if_true]
      by_cases h : i < 0
      · simp only [h, if_true]; omega
      · simp only [h, if_false]; omega
  rw [← sliceRange_one]
  unfold Builtin.Str.strSliceIndices
  dsimp only
  rw [← e1, ← e2]
  cases lo <;> cases hi <;> rfl
theorem slice_cut (x : List Nat) (lo hi : Option Int) : Txt.slice (mkS x) lo hi = mkS (cutL x lo hi) := by
  unfold Txt.slice
  rw [strIdx, mkS_len]
  have hp : ((List.range (HT.sIx x.length x.length hi - HT.sIx x.length 0 lo)).map (HT.sIx x.length 0 lo + ·)).filterMap ((mkS x).cps[·]?) = cutL x lo hi := by
    have := pick_run (mkS x).cps (HT.sIx x.length 0 lo) (HT.sIx x.length x.length hi - HT.sIx x.length 0 lo)
    rw [mkS_cps] at this
    exact this
  rw [hp]
  split
  · rename_i hc
    rw [Bool.and_eq_true] at hc
    have hl : HT.sIx x.length x.length hi - HT.sIx x.length 0 lo = x.length := by simpa using hc.2
    have h2 : HT.sIx x.length x.length hi ≤ x.length := HT.sIx_le _ _ (Nat.le_refl _) _
    have h3 : HT.sIx x.length 0 lo ≤ x.length := HT.sIx_le _ _ (Nat.zero_le _) _
    have e : HT.sIx x.length 0 lo = 0 := by omega
    unfold cutL
    rw [hl, e]
    simp
  · rfl

section
variable {X : Cx}
def rSlS : V → Option Int → Option Int → Hp → VK → Prop := fun x lo hi H Q => ∃ cs, x = .str (mkS cs) ∧ cs.length ≤ sizeLine ∧ Q (.str (mkS (cutL cs lo hi))) H
theorem sl_str : SlR X rSlS := by
  intro pins s σ H x v vl vu lo hi sl Q I rx hs pl pu h
  obtain ⟨cs, rfl, hz, q⟩ := h
  obtain ⟨t, rfl⟩ := rx
  have hl : (Txt.slice (mkS cs) lo hi).length ≤ sizeLine := Nat.le_trans (Txt.slice_le _ _ _) (by rw [mkS_len]; exact hz)
  rw [← slice_cut] at q
  refine ⟨"str", _, slot_str_getitem.lookup, typeIs_str _ _ _, ?_⟩
  obtain ⟨o, ho, hc, hd⟩ := hs
  cases pl with
  | none =>
    cases pu with
    | none => exact wpAny_getItem_str_slice (l := none) (u := none) (st := none) ⟨o, ho, hc, hd⟩ rfl (post_val_or_str ⟨hl, fun t' k => ⟨.str _, H, I.tok _, ⟨_, rfl⟩, q⟩⟩)
    | int j uj => exact wpAny_getItem_str_slice (l := none) (u := some (j, uj)) (st := none) ⟨o, ho, hc, hd⟩ rfl (post_val_or_str ⟨hl, fun t' k => ⟨.str _, H, I.tok _, ⟨_, rfl⟩, q⟩⟩)
  | int i ui =>
    cases pu with
    | none => exact wpAny_getItem_str_slice (l := some (i, ui)) (u := none) (st := none) ⟨o, ho, hc, hd⟩ rfl (post_val_or_str ⟨hl, fun t' k => ⟨.str _, H, I.tok _, ⟨_, rfl⟩, q⟩⟩)
    | int j uj => exact wpAny_getItem_str_slice (l := some (i, ui)) (u := some (j, uj)) (st := none) ⟨o, ho, hc, hd⟩ rfl (post_val_or_str ⟨hl, fun t' k => ⟨.str _, H, I.tok _, ⟨_, rfl⟩, q⟩⟩)

theorem op_le_str : OpR X (compareOp .LtE) (fun x y H Q => ∃ i j, x = .str i ∧ y = .str j ∧ Q (.bl (!(j.cps.toList < i.cps.toList))) H) := by
  intro pins s σ H x y v u Q I rx ry h
  obtain ⟨i, j, rfl, rfl, q⟩ := h
  obtain ⟨t, rfl⟩ := rx
  obtain ⟨t', rfl⟩ := ry
  exact PySem.P.le_str ⟨.bl _, H, I, rfl, q⟩

/-- a text times an int -/
def repL (cs : List Nat) (k : Int) : List Nat := (List.replicate k.toNat cs).flatten
theorem foldl_app (cs : List Nat) : ∀ (k : Nat) (acc : List Nat), List.foldl (fun x1 x2 => x1 ++ x2) acc.toArray (List.replicate k cs.toArray) = (acc ++ (List.replicate k cs).flatten).toArray
  | 0, acc => by simp
  | k + 1, acc => by
    rw [List.replicate_succ, List.foldl_cons, List.replicate_succ, List.flatten_cons, ← List.append_assoc, ← foldl_app cs k (acc ++ cs)]
    simp
theorem op_mul_str : OpR X (binaryOp .Mult) (fun x y H Q => ∃ cs k, x = .str (mkS cs) ∧ y = .int k ∧ 0 ≤ k ∧ k < 1000 ∧ cs.length ≤ 1000 ∧ Q (.str (mkS (repL cs k))) H) := by
  intro pins s σ H x y v u Q I rx ry h
  obtain ⟨cs, k, rfl, rfl, h0, h1, hc, q⟩ := h
  obtain ⟨t, rfl⟩ := rx
  obtain ⟨t', rfl⟩ := ry
  have hs : sizeLine = 16777216 := sizeLine_eq
  have hprod : cs.length * k.toNat ≤ 1000 * 1000 := Nat.mul_le_mul hc (by omega)
  have e : ∀ b, Q (.str b) H → b = mkS (repL cs k) → True := fun _ _ _ => trivial
  refine PySem.P.mul_str (by rw [decide_eq_false (by omega), decide_eq_false (by omega)]; rfl) (fun h2 _ => ?_) (fun _ _ => ?_) ?_
  · rw [mkS_len]
    have hk : 1 ≤ k := by omega
    have : (1000 : Int) ≤ (2 ^ 63 - 1) / k := by
      rw [Int.le_ediv_iff_mul_le (by omega)]
      omega
    omega
  · rw [mkS_len]
    unfold PySem.Builtin.Str.tooLong
    exact decide_eq_false (by omega)
  · have made : ∀ (z : Str), z = mkS (repL cs k) → z.length ≤ sizeLine → (Made.str z).post (EP X pins σ Q) s := fun z ez hz => ⟨hz, by rw [ez]; exact ⟨.str _, H, I.tok _, ⟨_, rfl⟩, q⟩⟩
    have hlen : (repL cs k).length = k.toNat * cs.length := by
      unfold repL; rw [len_rep]
    by_cases hn : k < 1
    · rw [if_pos hn]
      have hk : k.toNat = 0 := by omega
      refine made _ ?_ (by decide)
      unfold repL; rw [hk]; rfl
    · rw [if_neg hn]
      by_cases h3 : (k == 1 || (mkS cs).length == 0) = true
      · rw [if_pos h3]
        refine ⟨.str (mkS cs), H, I, ⟨_, rfl⟩, ?_⟩
        have : repL cs k = cs := by
          unfold repL
          rw [Bool.or_eq_true] at h3
          rcases h3 with h3 | h3
          · have : k = 1 := by simpa using h3
            subst this
            simp
          · rw [mkS_len] at h3
            have : cs = [] := by cases cs with | nil => rfl | cons _ _ => simp at h3
            subst this
            simp
        rw [this] at q
        exact q
      · rw [if_neg h3]
        refine made _ ?_ ?_
        · unfold repL mkS
          have := foldl_app cs k.toNat []
          rw [List.nil_append] at this
          exact congrArg Str.mk this
        · have e3 : (List.foldl (fun x1 x2 => x1 ++ x2) #[] (List.replicate k.toNat (mkS cs).cps)) = (repL cs k).toArray := by
            have := foldl_app cs k.toNat []
            rw [List.nil_append] at this
            exact this
          show (List.foldl (fun x1 x2 => x1 ++ x2) #[] (List.replicate k.toNat (mkS cs).cps)).size ≤ sizeLine
          rw [e3, List.size_toArray, hlen, Nat.mul_comm]
          omega

/-- all(xs), xs a list of bools -/
theorem call_all_bls : CallR X (.builtin "all") (fun xs H Q => ∃ (a : Addr) (bs : List Bool), xs = [.ref a] ∧ SqL X.K H a (bs.map V.bl) ∧ X.calm = true ∧ Q (.bl (bs.all id)) H) := by
  intro pins s σ H xs us Q I r h
  obtain ⟨a, bs, rfl, hq, hc, q⟩ := h
  obtain ⟨u, rfl, ru⟩ := vals1 r
  cases ru
  obtain ⟨its, rv, pl, hz⟩ := I.list hq
  have hlen : its.length = bs.length := by rw [← rv.length, List.length_map]
  refine PySem.call_all_walk (wpAny_pyIter_list pl.isList ?_)
  have hI : a ≠ s.heap.objs.size := by
    obtain ⟨o, ho, _⟩ := pl.isList
    exact Nat.ne_of_lt (Heap.lt_size ho)
  have I1 : ∀ (h' : Heap) (tk : Nat), (∀ b o, b ∉ [s.heap.objs.size] → (s.heap.push { cls := .type "list_iterator", data := .fields #[.ref a, .int 0 0] }).get? b = some o → h'.get? b = some o) → Inv X pins σ H { s with heap := h', toks := tk } := fun h' tk k =>
    I.kept fun b o e => k b o (by simpa using Nat.ne_of_lt (Heap.lt_size e)) (Heap.get?_push_of_some _ e)
  refine ⟨s.heap.objs.size, [s.heap.objs.size, a], [s.heap.objs.size], its.toArray.size, _, _, fun i => bs.getD i false, rfl, PySem.Walks.list (by first | exact I.ok.hd hc | exact (show X.A.in1.handled = none from I.ok.hd hc)) _ a hI its.toArray, ⟨⟨_, Heap.get?_push_size _ rfl, rfl, rfl⟩, pl.isList.at fun o e => Heap.get?_push_of_some _ e⟩, ?_, fun h' tk k => ?_⟩
  · intro i v s' Q' E' hv hQ'
    have hv' : its[i]? = some v := by simpa using hv
    have hi : i < bs.length := by rw [← hlen]; exact (List.getElem?_eq_some_iff.mp hv').1
    have hb : (bs.map V.bl)[i]? = some (V.bl (bs.getD i false)) := by
      rw [List.getElem?_map, List.getElem?_eq_getElem hi]
      simp [List.getD_eq_getElem?_getD, hi]
    obtain ⟨u', hu', rv'⟩ := rv.get hb
    rw [hv'] at hu'
    cases hu'
    cases rv'
    exact wpAny_truthy_bool hQ'
  · refine ⟨.bl (bs.all id), H, I1 h' tk k, ?_, q⟩
    show Value.bool _ = Value.bool _
    congr 1
    rw [List.size_toArray, hlen]
    have : ∀ (l : List Bool), (List.range l.length).all (fun i => l.getD i false) = l.all id := by
      intro l
      rw [Bool.eq_iff_iff, List.all_eq_true, List.all_eq_true]
      constructor
      · intro h x hx
        obtain ⟨i, hi, rfl⟩ := List.getElem_of_mem hx
        have := h i (List.mem_range.mpr hi)
        simpa [List.getD_eq_getElem?_getD, hi] using this
      · intro h i hi
        have hi' := List.mem_range.mp hi
        have := h l[i] (List.getElem_mem hi')
        simpa [List.getD_eq_getElem?_getD, hi'] using this
    exact this bs

/-! ### a text, sign by sign -/
def Its (x : List Nat) : It := ⟨fun i _ => i < x.length, fun i H v H' => H' = H ∧ ∃ c, x[i]? = some c ∧ v = .str (mkS [c]), fun i _ => x.length ≤ i⟩
def iStr (tl : TE) : TI := fun σ H R => tl σ H fun v H1 => ∃ x, v = .str (mkS x) ∧ R (Its x) H1
theorem turn_str {P : Program} {w : World} {K : PySem.W.Frag} {tg : Expr} (it : Addr) (ty : String) (x : List Nat) (t : Tok) (hty : ty = "str_ascii_iterator" ∨ ty = "str_iterator") :
    Turn P w K tg (Its x) [it] it (fun i h => h.IsStrIter it ty (mkS x) t i) where
  mem := by simp
  obj := fun i h st b hb => by
    have e : b = it := by simpa using hb
    subst e
    obtain ⟨o, e, c, d⟩ := st
    exact ⟨o, e, fun v z => by rw [d] at z; cases z⟩
  keep := fun i h h' st k => let ⟨o, ho, r⟩ := st; ⟨o, k it (by simp) o ho, r⟩
  item := by
    intro X hP hw hK hc i pins s σ H E I hf st hg
    subst hP hw hK
    obtain ⟨f0, f1, f2, f3, f4, f5⟩ := hf it (by simp)
    have hi : i < x.length := hg
    have hxi : (mkS x).cps[i]? = some x[i] := by simp [mkS, hi]
    have fin : ∀ (h' : Heap), h'.IsStrIter it ty (mkS x) t (i + 1) → Heap.SameBut it s.heap h' → ∃ u, some (Value.str ⟨#[x[i]]⟩ s.toks) = some u ∧
        wpAny (model X.prog X.w) X.A (letOwnedTupleGo tg (.ref it) u) (fun _ s2 => ∃ y H', Inv X pins σ H' s2 ∧ RelV y u ∧ (Its x).yld i H y H' ∧ s2.heap.IsStrIter it ty (mkS x) t (i + 1) ∧ ∀ b ∈ [it], H' b = none) E { s with heap := h', toks := s.toks + 1 } := fun h' st' sb => by
      have I1 : Inv X pins σ H { s with heap := h', toks := s.toks + 1 } := I.turned (fun b o hb e => (sb.2 b hb).trans e) f0 f1 f3 f4 f5
      obtain ⟨o, e, c, d⟩ := id st'
      refine ⟨_, rfl, go_of (s := { s with heap := h', toks := s.toks + 1 }) e c d (by rcases hty with rfl | rfl <;> decide) ⟨.str (mkS [x[i]]), H, I1, ⟨_, rfl⟩, ⟨rfl, x[i], by simp [hi], rfl⟩, st', fun b hb => (hf b hb).1⟩⟩
    rcases hty with rfl | rfl
    · exact wpAny_pyNext_ascii_item st hxi fun h' st' sb => fin h' st' sb
    · exact wpAny_pyNext_wide_item st hxi fun h' st' sb => fin h' st' sb
  done := by
    intro X hP hw hK hc i pins s σ H E I hf st hg
    subst hP hw hK
    obtain ⟨f0, f1, f2, f3, f4, f5⟩ := hf it (by simp)
    have hi : x.length ≤ i := hg
    have hxi : (mkS x).cps[i]? = none := by simp [mkS, hi]
    rcases hty with rfl | rfl
    · exact wpAny_pyNext_ascii_end (I.ok.hd hc) st hxi fun h' eb => ⟨rfl, I.turned (t' := s.toks) (fun b o hb e => eb b o hb e) f0 f1 f3 f4 f5⟩
    · exact wpAny_pyNext_wide_end (I.ok.hd hc) st hxi fun h' eb => ⟨rfl, I.turned (t' := s.toks) (fun b o hb e => eb b o hb e) f0 f1 f3 f4 f5⟩
  self := fun _ _ _ _ _ st h => by
    rcases hty with rfl | rfl
    · exact wpAny_pyIter_striter_ascii st h
    · exact wpAny_pyIter_striter_wide st h
theorem pi_str {tg l : Expr} {tl : TE} (hl : PE X l tl) : PI X tg l (iStr tl) := by
  intro pins s σ H R I h
  refine thn (hl pins s σ H _ I h) fun v s1 ⟨x, H1, I1, r1, q1⟩ => ?_
  obtain ⟨cs, e, q⟩ := q1
  subst e
  obtain ⟨t, rfl⟩ := r1
  have fp : ∀ (o : Obj), ∀ b ∈ [s1.heap.objs.size], FpOk X pins H1 b := fun o b hb => by
    have e : b = s1.heap.objs.size := by simpa using hb
    subst e
    exact I1.fpOk (Nat.le_refl _) (I1.hok.fresh (Nat.le_refl _))
  cases ha : (mkS cs).cps.all (· < 128)
  · refine wpAny_pyIter_wide ha ?_
    exact ⟨s1.heap.objs.size, [s1.heap.objs.size], _, _, H1, rfl, I1.kept (t' := s1.toks) fun b o e => Heap.get?_push_of_some _ e, turn_str _ "str_iterator" cs t (.inr rfl), ⟨_, Heap.get?_push_size _ rfl, rfl, rfl⟩, fp default, q⟩
  · refine wpAny_pyIter_ascii ha ?_
    exact ⟨s1.heap.objs.size, [s1.heap.objs.size], _, _, H1, rfl, I1.kept (t' := s1.toks) fun b o e => Heap.get?_push_of_some _ e, turn_str _ "str_ascii_iterator" cs t (.inl rfl), ⟨_, Heap.get?_push_size _ rfl, rfl, rfl⟩, fp default, q⟩
end
end L2

namespace L2
open PySem PySem.Spec PyProof.Rows
section
variable {X : Cx}
/-- a comprehension whose list is used before the block's names go -/
theorem comp_use {elt tg iter : Expr} {ifs : List Expr} {pos : Pos} {sc : Scope} {wi : TI} {g : TG} {tc : Addr → Shared → Hp → List Addr → TT} {te : Addr → Shared → Hp → List Addr → TE} (T : List Str) (idx : List Nat)
    (hi : PI X tg iter wi) (hcalm : X.calm = true) (hB : compB X.env.scope X.N sc idx = true)
    (hg : ∀ C s₂ H1 fp, PG (cxComp X sc T idx C s₂ H1 fp) tg g)
    (hc : ∀ C s₂ H1 fp, PIfs (cxComp X sc T idx C s₂ H1 fp) ifs (tc C s₂ H1 fp))
    (he : ∀ C s₂ H1 fp, PE (cxComp X sc T idx C s₂ H1 fp) elt (te C s₂ H1 fp))
    (hs : ∀ x, foldedSetIterable iter X.env x = pure x := by intro _; rfl)
    {pins : List (Addr × Obj)} {s : Shared} {σ : St} {H : Hp} {Q : VK} {use : Value → Sem Unit} {Q' : Value → Shared → Prop} (I : Inv X pins σ H s) (h : tComp wi g tc te T.length idx σ H Q)
    (fin : ∀ (D C : Addr) (s4 : Shared) (H' : Hp), Inv X pins σ H' s4 → FpOk X pins H' C → (∃ m, s4.heap.Ns C m) → Q (.ref D) H' →
      wpAny (model X.prog X.w) X.A (use (.ref D)) (fun _ s'' => ∃ m, s''.heap.Ns C m ∧ ∀ h', Heap.SameBut C s''.heap h' → Q' .none { s'' with heap := h' }) X.xe s4) :
    wpAny (model X.prog X.w) X.A (comprehension (.ListComp elt [⟨tg, iter, ifs, 0⟩] sc pos) sc X.env (firstIterPos [⟨tg, iter, ifs, 0⟩] pos) (newList []) false (eval iter X.env) (some use)) Q' X.xe s := by
  have cf := compB_f hB
  refine wpAny_comprehension_free (use := some use) (cl := closL X.env sc.names []) rfl hs (closureFor_of (clos_has I cf)) cf.kind cf.locs ?_
  refine thn (hi pins s σ H _ I h) fun v s1 h1 => thn h1 fun itv s2 h2 => ?_
  obtain ⟨it, fp, tn, J, H2, e, I2, Tn, st2, f2, W, ⟨m0, w0⟩, turn⟩ := h2
  subst e
  have hlt : ∀ b ∈ fp, b < s2.heap.objs.size := fun b hb => let ⟨o, e, _⟩ := Tn.obj _ _ st2 b hb; Heap.lt_size e
  refine wpAny_newObj_type (wpAny_newFunctionEnv cf.nocell (by intro y hy; simp at hy) (fun h₁ hns₁ hsb₁ => ?_) cf.kind)
  dsimp only at hns₁ hsb₁ ⊢
  generalize hH2 : s2.heap.push { cls := .type "list", dict := none, data := .seq ([] : List Value).toArray } = HH at hns₁ hsb₁ ⊢
  have hC : HH.objs.size = s2.heap.objs.size + 1 := by rw [← hH2, Heap.size_push]
  have hDC : s2.heap.objs.size ≠ HH.objs.size := by rw [hC]; exact Nat.ne_of_lt (Nat.lt_succ_self _)
  have hCle : s2.heap.objs.size ≤ HH.objs.size := by rw [hC]; exact Nat.le_succ _
  have old : ∀ b o, s2.heap.get? b = some o → h₁.get? b = some o := fun b o e => hsb₁.extBut b o (by rw [hC]; exact Nat.ne_of_lt (Nat.lt_succ_of_lt (Heap.lt_size e))) (Heap.get?_push_of_some _ (hH2 ▸ Heap.get?_push_of_some _ e))
  have eD0 : h₁.get? s2.heap.objs.size = some { cls := .type "list", data := .seq ([] : List Value).toArray 0 } := hsb₁.extBut _ _ hDC (Heap.get?_push_of_some _ (hH2 ▸ Heap.get?_push_size _ rfl))
  have nD0 : H2 s2.heap.objs.size = none := I2.hok.fresh (Nat.le_refl _)
  have cD : ∀ x c, (closL X.env sc.names []).lookup x = some c → c ≠ s2.heap.objs.size := fun x c e => by
    obtain ⟨v, q⟩ := I2.cell x c (clos_look I2 cf e)
    exact Nat.ne_of_lt q.lt
  have loop : ∀ s4 : Shared, s4 = { s2 with heap := h₁, toks := s2.toks + ([] : List (Str × Value)).length } →
      codeAny (model X.prog X.w) X.A (.compLoop (.ListComp elt [⟨tg, iter, ifs, 0⟩] sc pos) 0 (.ref it) (.ref s2.heap.objs.size) (compEnvC sc (closL X.env sc.names []) HH.objs.size X.env))
        (compPost (model X.prog X.w) X.A X.xe (some use) Q' (.ref s2.heap.objs.size) HH.objs.size) s4 := by
    rintro s4 rfl
    have J0 : Inv (cxComp X sc T idx HH.objs.size s2 H2 fp) [] (T.map (fun _ => none) ++ caps σ idx) H2 { s2 with heap := h₁, toks := s2.toks + ([] : List (Str × Value)).length } :=
      cxComp_inv I2 cf hCle f2 hlt old rfl rfl hns₁
    refine compLoop_gen (fun k s' => ∃ (i : Nat) (ys : List V) (its : List Value) (n : Nat) (H' : Hp) (τ : St), Inv (cxComp X sc T idx HH.objs.size s2 H2 fp) [] (τ ++ caps σ idx) H' s' ∧ τ.length = T.length ∧ tn i s'.heap ∧ (∀ b ∈ fp, H' b = none) ∧
      s'.heap.get? s2.heap.objs.size = some { cls := .type "list", data := .seq its.toArray n } ∧ H' s2.heap.objs.size = none ∧ Vals ys its ∧ W i k ys H') ?_ m0
      ⟨0, [], [], 0, H2, T.map (fun _ => none), J0, by rw [List.length_map], Tn.keep _ _ _ st2 fun b _ o e => old b o e, fun b hb => (f2 b hb).1, eD0, nD0, .nil, w0⟩
    rintro k s3 ⟨i, ys, its, n, H3, τ, I3, hτ, st3, fr3, eD3, nD3, r3, w3⟩
    obtain ⟨hz, alt⟩ := turn i k ys H3 w3
    have hDfs : s2.heap.objs.size ∉ (cxComp X sc T idx HH.objs.size s2 H2 fp).fs := fun z => by
      obtain ⟨_, o, ho, _⟩ := I2.stack.mem (show s2.heap.objs.size ∈ frs X.stack from z)
      exact absurd (Heap.lt_size ho) (Nat.lt_irrefl _)
    have pinD : ∀ {H' : Hp} {s' : Shared}, s'.heap.get? s2.heap.objs.size = some { cls := .type "list", data := .seq its.toArray n } → H' s2.heap.objs.size = none →
        ∀ p ∈ [(s2.heap.objs.size, ({ cls := .type "list", data := .seq its.toArray n } : Obj))], s'.heap.get? p.1 = some p.2 ∧ H' p.1 = none ∧ p.1 ≠ (cxComp X sc T idx HH.objs.size s2 H2 fp).env.locals ∧ p.1 ∉ (cxComp X sc T idx HH.objs.size s2 H2 fp).fs ∧ ∀ v, p.2.data ≠ .cell v :=
      fun {H' s'} e1 e2 p hp => by
        have ep : p = (s2.heap.objs.size, { cls := .type "list", data := .seq its.toArray n }) := by simpa using hp
        subst ep
        exact ⟨e1, e2, hDC, hDfs, fun v z => by cases z⟩
    have P3 : Inv (cxComp X sc T idx HH.objs.size s2 H2 fp) [(s2.heap.objs.size, { cls := .type "list", data := .seq its.toArray n })] (τ ++ caps σ idx) H3 s3 := I3.pins_of (pinD eD3 nD3)
    have stat : ∀ {H' : Hp}, (∀ b ∈ fp, H' b = none) → ∀ b ∈ fp, FpOk (cxComp X sc T idx HH.objs.size s2 H2 fp) [(s2.heap.objs.size, { cls := .type "list", data := .seq its.toArray n })] H' b := fun {H'} hn b hb => by
      have hb2 := hlt b hb
      refine ⟨hn b hb, Nat.ne_of_lt (Nat.lt_of_lt_of_le hb2 hCle), I3.ok.exfs b hb, .inl hb, fun x c e => (f2 b hb).2.2.2.2.1 x c (clos_look I2 cf e), fun p hp => ?_⟩
      have ep : p = (s2.heap.objs.size, ({ cls := .type "list", data := .seq its.toArray n } : Obj)) := by simpa [cxComp] using hp
      subst ep
      exact Nat.ne_of_gt hb2
    rcases alt with ⟨stop, q⟩ | ⟨go, hl2, step⟩
    · refine thn (Tn.done (cxComp X sc T idx HH.objs.size s2 H2 fp) rfl rfl rfl hcalm i _ s3 _ H3 (fun _ _ => False) P3 (stat fr3) st3 stop) fun r s4 ⟨hr, I4⟩ => ?_
      subst hr
      obtain ⟨m, hn, _⟩ := id I4.loc
      have eD4 := (I4.pin (s2.heap.objs.size, { cls := .type "list", data := .seq its.toArray n }) (by simp)).1
      have J4 := cxComp_end I2 hCle f2 (I4.pins_of (fun p hp => nomatch hp)) (Heap.SameBut.refl _ _) (Nat.le_refl _) hDC eD4 nD3 r3 hz
      exact fin _ _ s4 _ J4 (I2.fpOk hCle (by rw [upd_ne (Ne.symm hDC)]; exact I4.free)) ⟨m, hn⟩ (q _ nD3)
    · refine thn (Tn.item (cxComp X sc T idx HH.objs.size s2 H2 fp) rfl rfl rfl hcalm i _ s3 _ H3 (fun _ _ => False) P3 (stat fr3) st3 go) fun r s4 ⟨u, hr, h4⟩ => ?_
      subst hr
      refine thn h4 fun _ s5 ⟨x, H5, I5, r5, y5, st5, fr5⟩ => ?_
      have I5' := I5.pinned (stat fr5) (Tn.obj _ _ st5)
      refine thn (hg HH.objs.size s2 H2 fp _ s5 _ H5 x u _ I5' r5 (step x H5 y5 τ hτ)) fun _ s6 ⟨σ6, H6, I6, ⟨τ', e6, l6⟩, q6⟩ => ?_
      subst e6
      refine thn (hc HH.objs.size s2 H2 fp _ s6 _ H6 _ I6 (q6 HH.objs.size s2 fp)) fun ok s7 ⟨H7, I7, q7⟩ => ?_
      have mD : (s2.heap.objs.size, ({ cls := .type "list", data := .seq its.toArray n } : Obj)) ∈ (cxComp X sc T idx HH.objs.size s2 H2 fp).pn ++ ([(s2.heap.objs.size, { cls := .type "list", data := .seq its.toArray n })] ++ pinsAt fp s5.heap) :=
        List.mem_append_right _ (List.mem_append_left _ (by simp))
      have mF : ∀ b ∈ fp, ∀ o, s5.heap.get? b = some o → (b, o) ∈ (cxComp X sc T idx HH.objs.size s2 H2 fp).pn ++ ([(s2.heap.objs.size, { cls := .type "list", data := .seq its.toArray n })] ++ pinsAt fp s5.heap) := fun b hb o e =>
        List.mem_append_right _ (List.mem_append_right _ (mem_pinsAt hb e))
      cases ok with
      | false =>
        rw [if_neg Bool.false_ne_true] at q7 ⊢
        obtain ⟨m', hm', w7⟩ := q7
        refine ⟨m', hm', i + 1, ys, its, n, H7, τ', I7.pins_of (fun p hp => nomatch hp), l6, Tn.keep _ _ _ st5 fun b hb o e => (I7.pin _ (mF b hb o e)).1, fun b hb => ?_, (I7.pin _ mD).1, (I7.pin _ mD).2.1, r3, w7⟩
        obtain ⟨o, e, d⟩ := Tn.obj _ _ st5 b hb
        exact (I7.pin _ (mF b hb o e)).2.1
      | true =>
        rw [if_pos rfl] at q7 ⊢
        refine thn (he HH.objs.size s2 H2 fp _ s7 _ H7 _ I7 q7) fun y s8 ⟨yv, H8, I8, r8, m', hm', w8⟩ => ?_
        have eD8 := (I8.pin _ mD).1
        have nD8 := (I8.pin _ mD).2.1
        have hl := r3.length
        have q := PySem.IsL.update eD8 (fun z => z.push y)
        rw [show its.toArray.push y = (its ++ [y]).toArray by simp] at q
        refine call_meets PySem.F.slot_list_append ⟨_, eD8, rfl⟩ PySem.F.entry_list_append (PySem.F.args_list_append_2 _ _) (PySem.list_append s2.heap.objs.size its.toArray n y (by rw [List.size_toArray]; omega)) ⟨eD8, ?_⟩
        have I9 : Inv (cxComp X sc T idx HH.objs.size s2 H2 fp) [] (τ' ++ caps σ idx) H8 s8 := I8.pins_of (fun p hp => nomatch hp)
        have up : ∀ b o, b ≠ s2.heap.objs.size → s8.heap.get? b = some o → (s8.heap.update s2.heap.objs.size (Obj.mapSeq fun z => z.push y)).get? b = some o := fun b o hb e => (Heap.get?_update_other s8.heap _ (Ne.symm hb)).trans e
        refine ⟨m', hm', i + 1, ys ++ [yv], its ++ [y], _, H8, τ', I9.turned (t' := s8.toks) up nD8 hDC (.inr (Nat.le_refl _)) cD (fun p hp => nomatch hp), l6, ?_, fun b hb => ?_, q, nD8, r3.append (.cons r8 .nil), w8⟩
        · exact Tn.keep _ _ _ st5 fun b hb o e => up b o (Nat.ne_of_lt (hlt b hb)) (I8.pin _ (mF b hb o e)).1
        · obtain ⟨o, e, d⟩ := Tn.obj _ _ st5 b hb
          exact (I8.pin _ (mF b hb o e)).2.1
  exact codeAny_compStart_list (loop _ rfl) (Tn.self X.A 0 _ _ _ (Tn.keep _ _ _ st2 fun b _ o e => old b o e) (loop _ rfl))

/-- e is a comprehension, worth t, also where its list is stored at once -/
def PU (X : Cx) (e : Expr) (t : TE) : Prop := ∀ (i : Nat) (x : Str) (pos' pos : Pos), X.N.Nodup → X.N[i]? = some x → Loc X.env.scope x → (X.fn x = true ∨ X.env.scope.names.lookup x = some .local) →
  swapsWith e (some (.Name x pos')) pos.line X.env = pure true → PS X (.Assign [.Name x pos'] e pos) (tAsg t (gName i))
theorem pu_comp {elt tg iter : Expr} {ifs : List Expr} {pos : Pos} {sc : Scope} {wi : TI} {g : TG} {tc : Addr → Shared → Hp → List Addr → TT} {te : Addr → Shared → Hp → List Addr → TE} (T : List Str) (idx : List Nat)
    (hi : PI X tg iter wi) (hcalm : X.calm = true) (hB : compB X.env.scope X.N sc idx = true)
    (hg : ∀ C s₂ H1 fp, PG (cxComp X sc T idx C s₂ H1 fp) tg g)
    (hc : ∀ C s₂ H1 fp, PIfs (cxComp X sc T idx C s₂ H1 fp) ifs (tc C s₂ H1 fp))
    (he : ∀ C s₂ H1 fp, PE (cxComp X sc T idx C s₂ H1 fp) elt (te C s₂ H1 fp))
    (hs : ∀ x, foldedSetIterable iter X.env x = pure x := by intro _; rfl) :
    PU X (.ListComp elt [⟨tg, iter, ifs, 0⟩] sc pos) (tComp wi g tc te T.length idx) := by
  intro i x pos' spos hN hix hx hf hsw pins s σ H D I h
  rw [exec_Assign_Name_used _ _ _ _ hsw]
  refine wpAny_bind (wpAny_standAt (wpAny_bind ?_))
  rw [arm_evalThenUse_ListComp]
  refine wpAny_bind (thn (comp_use T idx hi hcalm hB hg hc he hs (use := assign (.Name x pos') X.env) (Q' := fun _ s' => ∃ σ' H', Inv X pins σ' H' s' ∧ D.nx σ' H') I h fun Dd C s4 H' I4 fo hm q => ?_) fun _ s' hq => wpAny_pure (wpAny_pure hq))
  refine wpAny_assign_Name (store_ok2 I4 hN hix hx (show RelV (.ref Dd) (.ref Dd) from rfl) (fun s' I' ⟨a, hs', ha⟩ => ?_) hf)
  obtain ⟨m, hm⟩ := hm
  have hCa : C ≠ a := by
    rintro rfl
    rcases ha with ha | ha
    · exact fo.2.1 ha
    · exact fo.2.2.2.2.1 x _ ha rfl
  refine ⟨m, hm.sameBut hs' hCa, fun h' hs'' => ⟨_, H', ?_, q⟩⟩
  exact I'.turned (t' := s'.toks) (fun b o hb e => (hs''.2 b hb).trans e) fo.1 fo.2.1 fo.2.2.2.1 fo.2.2.2.2.1 fo.2.2.2.2.2
end
end L2

namespace L2
namespace M
open PySem PySem.Spec PyProof.Rows

/-! ## Data, and a store for what may be changed -/
inductive MV where
  | non | bl (b : Bool) | int (i : Int) | str (x : List Nat) | tup (ds : List MV) | scr (ds : List MV) | loc (l : Nat) | typ (n : String)
instance : Inhabited MV := ⟨.non⟩
inductive MO where
  | lst (ds : List MV) | dic (kvs : List (MV × MV)) | ins (c : Str) (fs : List (Str × MV))
abbrev Sto := List MO

/-- a list that nothing writes: the script, a module's own -/
def SqF (K : PySem.W.Frag) (H : Hp) (a : Addr) (xs : List V) : Prop :=
  (∃ o, H a = some (.frz o (.lst xs))) ∨
    ∃ (o : Obj) (its : Array Value) (n : Nat), K.lookup a = some o ∧ o.cls = .type "list" ∧ o.dict = none ∧ o.data = .seq its n ∧ its.size ≤ sizeLine ∧ Vals xs its.toList
theorem SqF.l {K : PySem.W.Frag} {H : Hp} {a : Addr} {xs : List V} (h : SqF K H a xs) : SqL K H a xs := by
  rcases h with ⟨o, h⟩ | h
  · exact .inl (.inr ⟨o, h⟩)
  · exact .inr h

mutual
def Den (K : PySem.W.Frag) (α : List Addr) (H : Hp) : MV → V → Prop
  | .non, v => v = .non
  | .bl b, v => v = .bl b
  | .int i, v => v = .int i
  | .str x, v => v = .str (mkS x)
  | .tup ds, v => ∃ a vs, v = .ref a ∧ SqT K H a vs ∧ DenL K α H ds vs
  | .scr ds, v => ∃ a vs, v = .ref a ∧ SqF K H a vs ∧ DenL K α H ds vs
  | .loc l, v => ∃ a, v = .ref a ∧ α[l]? = some a
  | .typ n, v => v = .ty n
def DenL (K : PySem.W.Frag) (α : List Addr) (H : Hp) : List MV → List V → Prop
  | [], vs => vs = []
  | d :: ds, vs => ∃ v r, vs = v :: r ∧ Den K α H d v ∧ DenL K α H ds r
end

/-- from one state to a later one: the store grows, what is outside it stays -/
structure Ex0 (α : List Addr) (H : Hp) (α' : List Addr) (H' : Hp) : Prop where
  pre : ∃ t, α' = α ++ t
  tup : ∀ b xs, H b = some (.tup xs) → H' b = some (.tup xs)
  frz : ∀ b o u, H b = some (.frz o u) → H' b = some (.frz o u)
structure Ext (α : List Addr) (H : Hp) (α' : List Addr) (H' : Hp) : Prop extends Ex0 α H α' H' where
  new : ∀ b ∈ α', b ∈ α ∨ H b = none
  keep : ∀ b o, H b = some o → b ∉ α → H' b = some o
  has : ∀ b o, H b = some o → ∃ o', H' b = some o'
section
variable {K : PySem.W.Frag} {α α' α'' : List Addr} {H H' H'' : Hp}
theorem Ext.refl (α : List Addr) (H : Hp) : Ext α H α H := ⟨⟨⟨[], by simp⟩, fun _ _ h => h, fun _ _ _ h => h⟩, fun b h => .inl h, fun _ _ h _ => h, fun _ o h => ⟨o, h⟩⟩
theorem Ex0.grow (α t : List Addr) (H : Hp) : Ex0 α H (α ++ t) H := ⟨⟨t, rfl⟩, fun _ _ h => h, fun _ _ _ h => h⟩
theorem Ext.free (x : Ext α H α' H') {b : Addr} (h : H' b = none) : H b = none := by
  cases e : H b with
  | none => rfl
  | some o => obtain ⟨o', h'⟩ := x.has b o e; rw [h] at h'; cases h'
theorem Ext.out (x : Ext α H α' H') {b : Addr} {o : HO} (h : H b = some o) (n : b ∉ α) : b ∉ α' := fun z => by
  rcases x.new b z with z | z
  · exact n z
  · rw [h] at z; cases z
theorem Ext.trans (x : Ext α H α' H') (y : Ext α' H' α'' H'') : Ext α H α'' H'' where
  pre := by
    obtain ⟨t, rfl⟩ := x.pre
    obtain ⟨u, rfl⟩ := y.pre
    exact ⟨t ++ u, by rw [List.append_assoc]⟩
  new := fun b h => (y.new b h).elim (x.new b) fun z => .inr (x.free z)
  keep := fun b o h n => y.keep b o (x.keep b o h n) (x.out h n)
  has := fun b o h => let ⟨o', h'⟩ := x.has b o h; y.has b o' h'
  tup := fun b xs h => y.tup b xs (x.tup b xs h)
  frz := fun b o u h => y.frz b o u (x.frz b o u h)
theorem Ex0.at (x : Ex0 α H α' H') {l : Nat} {a : Addr} (h : α[l]? = some a) : α'[l]? = some a := by
  obtain ⟨t, rfl⟩ := x.pre
  rw [List.getElem?_append_left (List.getElem?_eq_some_iff.mp h).1]
  exact h
theorem Ex0.sqT (x : Ex0 α H α' H') {a : Addr} {vs : List V} (q : SqT K H a vs) : SqT K H' a vs := by
  rcases q with (q | ⟨o, q⟩) | q
  · exact .inl (.inl (x.tup a vs q))
  · exact .inl (.inr ⟨o, x.frz a o _ q⟩)
  · exact .inr q
theorem Ex0.sqF (x : Ex0 α H α' H') {a : Addr} {vs : List V} (q : SqF K H a vs) : SqF K H' a vs := by
  rcases q with ⟨o, q⟩ | q
  · exact .inl ⟨o, x.frz a o _ q⟩
  · exact .inr q
mutual
theorem Den.ex0 (x : Ex0 α H α' H') : ∀ {d : MV} {v : V}, Den K α H d v → Den K α' H' d v
  | .non, _, q => by unfold Den at q ⊢; exact q
  | .bl _, _, q => by unfold Den at q ⊢; exact q
  | .int _, _, q => by unfold Den at q ⊢; exact q
  | .str _, _, q => by unfold Den at q ⊢; exact q
  | .typ _, _, q => by unfold Den at q ⊢; exact q
  | .loc _, _, q => by
    unfold Den at q ⊢
    obtain ⟨a, e, h⟩ := q
    exact ⟨a, e, x.at h⟩
  | .tup ds, _, q => by
    unfold Den at q ⊢
    obtain ⟨a, vs, e, s, l⟩ := q
    exact ⟨a, vs, e, x.sqT s, DenL.ex0 x l⟩
  | .scr ds, _, q => by
    unfold Den at q ⊢
    obtain ⟨a, vs, e, s, l⟩ := q
    exact ⟨a, vs, e, x.sqF s, DenL.ex0 x l⟩
theorem DenL.ex0 (x : Ex0 α H α' H') : ∀ {ds : List MV} {vs : List V}, DenL K α H ds vs → DenL K α' H' ds vs
  | [], _, q => by unfold DenL at q ⊢; exact q
  | d :: ds, _, q => by
    unfold DenL at q ⊢
    obtain ⟨v, r, e, a, l⟩ := q
    exact ⟨v, r, e, Den.ex0 x a, DenL.ex0 x l⟩
end
theorem Den.ext (x : Ext α H α' H') {d : MV} {v : V} (q : Den K α H d v) : Den K α' H' d v := q.ex0 x.toEx0
theorem DenL.ext (x : Ext α H α' H') {d : List MV} {v : List V} (q : DenL K α H d v) : DenL K α' H' d v := q.ex0 x.toEx0
theorem den_non : Den K α H .non .non := by unfold Den; rfl
theorem den_bl (b : Bool) : Den K α H (.bl b) (.bl b) := by unfold Den; rfl
theorem den_int (i : Int) : Den K α H (.int i) (.int i) := by unfold Den; rfl
theorem den_str (x : List Nat) : Den K α H (.str x) (.str (mkS x)) := by unfold Den; rfl
theorem den_typ (n : String) : Den K α H (.typ n) (.ty n) := by unfold Den; rfl
theorem den_tup {ds : List MV} {a : Addr} {vs : List V} (s : SqT K H a vs) (l : DenL K α H ds vs) : Den K α H (.tup ds) (.ref a) := by unfold Den; exact ⟨a, vs, rfl, s, l⟩
theorem den_scr {ds : List MV} {a : Addr} {vs : List V} (s : SqF K H a vs) (l : DenL K α H ds vs) : Den K α H (.scr ds) (.ref a) := by unfold Den; exact ⟨a, vs, rfl, s, l⟩
theorem den_loc {l : Nat} {a : Addr} (h : α[l]? = some a) : Den K α H (.loc l) (.ref a) := by unfold Den; exact ⟨a, rfl, h⟩
theorem of_non {v : V} (d : Den K α H .non v) : v = .non := by unfold Den at d; exact d
theorem of_bl {b : Bool} {v : V} (d : Den K α H (.bl b) v) : v = .bl b := by unfold Den at d; exact d
theorem of_int {i : Int} {v : V} (d : Den K α H (.int i) v) : v = .int i := by unfold Den at d; exact d
theorem of_str {x : List Nat} {v : V} (d : Den K α H (.str x) v) : v = .str (mkS x) := by unfold Den at d; exact d
theorem of_typ {n : String} {v : V} (d : Den K α H (.typ n) v) : v = .ty n := by unfold Den at d; exact d
theorem of_tup {ds : List MV} {v : V} (d : Den K α H (.tup ds) v) : ∃ a vs, v = .ref a ∧ SqT K H a vs ∧ DenL K α H ds vs := by unfold Den at d; exact d
theorem of_scr {ds : List MV} {v : V} (d : Den K α H (.scr ds) v) : ∃ a vs, v = .ref a ∧ SqF K H a vs ∧ DenL K α H ds vs := by unfold Den at d; exact d
theorem of_loc {l : Nat} {v : V} (d : Den K α H (.loc l) v) : ∃ a, v = .ref a ∧ α[l]? = some a := by unfold Den at d; exact d
theorem denl_nil : DenL K α H [] [] := by unfold DenL; rfl
theorem denl_cons {d : MV} {v : V} {ds : List MV} {vs : List V} (a : Den K α H d v) (l : DenL K α H ds vs) : DenL K α H (d :: ds) (v :: vs) := by unfold DenL; exact ⟨v, vs, rfl, a, l⟩
theorem DenL.uncons {d : MV} {ds : List MV} {vs : List V} (l : DenL K α H (d :: ds) vs) : ∃ v r, vs = v :: r ∧ Den K α H d v ∧ DenL K α H ds r := by unfold DenL at l; exact l
theorem DenL.isnil {vs : List V} (l : DenL K α H [] vs) : vs = [] := by unfold DenL at l; exact l
theorem DenL.length : ∀ {ds : List MV} {vs : List V}, DenL K α H ds vs → vs.length = ds.length
  | [], _, q => by rw [q.isnil]; rfl
  | d :: ds, _, q => by
    obtain ⟨v, r, rfl, _, l⟩ := q.uncons
    rw [List.length_cons, List.length_cons, DenL.length l]
theorem DenL.append : ∀ {ds es : List MV} {vs us : List V}, DenL K α H ds vs → DenL K α H es us → DenL K α H (ds ++ es) (vs ++ us)
  | [], _, _, _, q, l => by rw [q.isnil]; exact l
  | d :: ds, _, _, _, q, l => by
    obtain ⟨v, r, rfl, a, l'⟩ := q.uncons
    exact denl_cons a (DenL.append l' l)
theorem DenL.drop : ∀ {ds : List MV} {vs : List V} (n : Nat), DenL K α H ds vs → DenL K α H (ds.drop n) (vs.drop n)
  | _, _, 0, q => q
  | [], _, n + 1, q => by rw [q.isnil]; exact denl_nil
  | d :: ds, _, n + 1, q => by
    obtain ⟨v, r, rfl, _, l⟩ := q.uncons
    exact DenL.drop n l
theorem DenL.take : ∀ {ds : List MV} {vs : List V} (n : Nat), DenL K α H ds vs → DenL K α H (ds.take n) (vs.take n)
  | _, _, 0, q => denl_nil
  | [], _, n + 1, q => by rw [q.isnil]; exact denl_nil
  | d :: ds, _, n + 1, q => by
    obtain ⟨v, r, rfl, a, l⟩ := q.uncons
    exact denl_cons a (DenL.take n l)
theorem DenL.reverse : ∀ {ds : List MV} {vs : List V}, DenL K α H ds vs → DenL K α H ds.reverse vs.reverse
  | [], _, q => by rw [q.isnil]; exact denl_nil
  | d :: ds, _, q => by
    obtain ⟨v, r, rfl, a, l⟩ := q.uncons
    rw [List.reverse_cons, List.reverse_cons]
    exact (DenL.reverse l).append (denl_cons a denl_nil)
theorem DenL.set {d : MV} {v : V} (a : Den K α H d v) : ∀ {ds : List MV} {vs : List V} (n : Nat), DenL K α H ds vs → DenL K α H (ds.set n d) (vs.set n v)
  | [], _, _, q => by rw [q.isnil]; exact denl_nil
  | e :: ds, _, 0, q => by
    obtain ⟨v', r, rfl, a', l⟩ := q.uncons
    exact denl_cons a l
  | e :: ds, _, n + 1, q => by
    obtain ⟨v', r, rfl, a', l⟩ := q.uncons
    exact denl_cons a' (DenL.set a n l)
theorem DenL.get : ∀ {ds : List MV} {vs : List V} {i : Nat} {v : V}, DenL K α H ds vs → vs[i]? = some v → ∃ d, ds[i]? = some d ∧ Den K α H d v
  | [], _, _, _, q, e => by rw [q.isnil] at e; simp at e
  | d :: ds, _, 0, _, q, e => by
    obtain ⟨v, r, rfl, a, l⟩ := q.uncons
    simp at e; subst e
    exact ⟨d, rfl, a⟩
  | d :: ds, _, i + 1, _, q, e => by
    obtain ⟨v, r, rfl, a, l⟩ := q.uncons
    obtain ⟨d', h1, h2⟩ := DenL.get (i := i) l (by simpa using e)
    exact ⟨d', by simpa using h1, h2⟩
theorem DenL.at {ds : List MV} {vs : List V} {i : Nat} {d : MV} (q : DenL K α H ds vs) (e : ds[i]? = some d) : ∃ v, vs[i]? = some v ∧ Den K α H d v := by
  have hi : i < ds.length := (List.getElem?_eq_some_iff.mp e).1
  have hv : i < vs.length := by rw [q.length]; exact hi
  obtain ⟨d', h1, h2⟩ := q.get (List.getElem?_eq_getElem hv)
  rw [e] at h1; cases h1
  exact ⟨_, List.getElem?_eq_getElem hv, h2⟩
theorem DenL.cut {ds : List MV} {vs : List V} (q : DenL K α H ds vs) (lo hi : Option Int) : DenL K α H (cutL ds lo hi) (cutV vs lo hi) := by
  unfold cutL cutV
  rw [q.length]
  exact (q.drop _).take _
theorem denl_ints : ∀ (ns : List Int), DenL K α H (ns.map MV.int) (ns.map V.int)
  | [] => denl_nil
  | b :: bs => denl_cons (den_int b) (denl_ints bs)
end

/-! ## the store and the heap -/
structure Gm where
  K : PySem.W.Frag
  mg : Str → Option Value
  P : Program
  w : World
abbrev _root_.L2.Cx.g (X : Cx) : Gm := ⟨X.K, X.mg, X.prog, X.w⟩

inductive DenF (K : PySem.W.Frag) (α : List Addr) (H : Hp) : List (Str × MV) → List (Str × V) → Prop
  | nil : DenF K α H [] []
  | cons {x : Str} {d : MV} {v : V} {fs gs} : Den K α H d v → DenF K α H fs gs → DenF K α H ((x, d) :: fs) ((x, v) :: gs)
theorem DenF.ex0 {K : PySem.W.Frag} {α α' : List Addr} {H H' : Hp} (x : Ex0 α H α' H') : ∀ {fs gs}, DenF K α H fs gs → DenF K α' H' fs gs
  | _, _, .nil => .nil
  | _, _, .cons a l => .cons (a.ex0 x) (DenF.ex0 x l)

/-- a dict whose keys are ints and texts -/
def KeyD : MV → Key → Prop
  | .int i, k => k = .inl i
  | .str x, k => k = .inr (mkS x)
  | _, _ => False
inductive DenK (K : PySem.W.Frag) (α : List Addr) (H : Hp) : List (MV × MV) → List (Key × V) → Prop
  | nil : DenK K α H [] []
  | cons {k : MV} {k' : Key} {d : MV} {v : V} {fs gs} : KeyD k k' → Den K α H d v → DenK K α H fs gs → DenK K α H ((k, d) :: fs) ((k', v) :: gs)
theorem DenK.ex0 {K : PySem.W.Frag} {α α' : List Addr} {H H' : Hp} (x : Ex0 α H α' H') : ∀ {fs gs}, DenK K α H fs gs → DenK K α' H' fs gs
  | _, _, .nil => .nil
  | _, _, .cons k a l => .cons k (a.ex0 x) (DenK.ex0 x l)

def ObD (g : Gm) (α : List Addr) (H : Hp) (a : Addr) : MO → Prop
  | .lst ds => ∃ vs, H a = some (.lst vs) ∧ DenL g.K α H ds vs
  | .dic kvs => ∃ ks, H a = some (.dK ks) ∧ DenK g.K α H kvs ks
  | .ins c fs => ∃ C dx gs, g.mg c = some (.ref C) ∧ H a = some (.ins C dx gs) ∧ DenF g.K α H fs gs
theorem ObD.there {g : Gm} {α : List Addr} {H : Hp} {a : Addr} {o : MO} (h : ObD g α H a o) : ∃ ho, H a = some ho ∧ (∀ xs, ho ≠ .tup xs) ∧ ∀ ob u, ho ≠ .frz ob u := by
  cases o with
  | lst ds => obtain ⟨vs, h, _⟩ := h; exact ⟨_, h, (fun xs z => by cases z), fun _ _ z => by cases z⟩
  | dic ds => obtain ⟨vs, h, _⟩ := h; exact ⟨_, h, (fun xs z => by cases z), fun _ _ z => by cases z⟩
  | ins c ds => obtain ⟨_, _, _, _, h, _⟩ := h; exact ⟨_, h, (fun xs z => by cases z), fun _ _ z => by cases z⟩
theorem ObD.move {g : Gm} {α α' : List Addr} {H H' : Hp} {a : Addr} {o : MO} (h : ObD g α H a o) (x : Ex0 α H α' H') (e : H' a = H a) : ObD g α' H' a o := by
  cases o with
  | lst ds => obtain ⟨vs, h, l⟩ := h; exact ⟨vs, e.trans h, l.ex0 x⟩
  | dic ds => obtain ⟨vs, h, l⟩ := h; exact ⟨vs, e.trans h, l.ex0 x⟩
  | ins c ds => obtain ⟨C, dx, gs, m, h, l⟩ := h; exact ⟨C, dx, gs, m, e.trans h, l.ex0 x⟩

structure Wd (g : Gm) (α : List Addr) (S : Sto) (H : Hp) : Prop where
  len : α.length = S.length
  nd : α.Nodup
  obj : ∀ (l : Nat) (a : Addr) (o : MO), α[l]? = some a → S[l]? = some o → ObD g α H a o
section
variable {g : Gm} {α α' : List Addr} {S S' : Sto} {H H' : Hp}
theorem Wd.at (w : Wd g α S H) {l : Nat} {o : MO} (h : S[l]? = some o) : ∃ a, α[l]? = some a ∧ ObD g α H a o := by
  have hl : l < α.length := by rw [w.len]; exact (List.getElem?_eq_some_iff.mp h).1
  exact ⟨α[l], List.getElem?_eq_getElem hl, w.obj l _ o (List.getElem?_eq_getElem hl) h⟩
theorem Wd.of (w : Wd g α S H) {l : Nat} {a : Addr} (h : α[l]? = some a) : ∃ o, S[l]? = some o ∧ ObD g α H a o := by
  have hl : l < S.length := by rw [← w.len]; exact (List.getElem?_eq_some_iff.mp h).1
  exact ⟨S[l], List.getElem?_eq_getElem hl, w.obj l a _ h (List.getElem?_eq_getElem hl)⟩
theorem Wd.mem (w : Wd g α S H) {a : Addr} (h : a ∈ α) : ∃ ho, H a = some ho ∧ (∀ xs, ho ≠ .tup xs) ∧ ∀ ob u, ho ≠ .frz ob u := by
  obtain ⟨l, hl⟩ := List.getElem?_of_mem h
  obtain ⟨o, _, q⟩ := w.of hl
  exact q.there
/-- outside the store something new stands at p -/
theorem Wd.newx (w : Wd g α S H) {p : Addr} {o : HO} (hp : H p = none) : Ext α H α (upd H p o) where
  pre := ⟨[], by simp⟩
  new := fun b h => .inl h
  keep := fun b o h _ => by rw [upd_ne (ne_of_none h hp)]; exact h
  has := fun b o h => ⟨o, by rw [upd_ne (ne_of_none h hp)]; exact h⟩
  tup := fun b o h => by rw [upd_ne (ne_of_none h hp)]; exact h
  frz := fun b o u h => by rw [upd_ne (ne_of_none h hp)]; exact h
theorem Wd.fresh (w : Wd g α S H) {p : Addr} (hp : H p = none) : p ∉ α := fun z => by
  obtain ⟨_, h, _⟩ := w.mem z; rw [hp] at h; cases h
theorem Wd.new (w : Wd g α S H) {p : Addr} {o : HO} (hp : H p = none) : Wd g α S (upd H p o) :=
  ⟨w.len, w.nd, fun l a ob h1 h2 => (w.obj l a ob h1 h2).move (w.newx hp).toEx0 (upd_ne fun z => w.fresh hp (by rw [← z]; exact List.mem_of_getElem? h1))⟩
/-- the store's object at l is written -/
theorem Wd.writex (w : Wd g α S H) {l : Nat} {a : Addr} {o : HO} (h : α[l]? = some a) : Ext α H α (upd H a o) where
  pre := ⟨[], by simp⟩
  new := fun b h => .inl h
  keep := fun b o e n => by rw [upd_ne fun z => n (by rw [z]; exact List.mem_of_getElem? h)]; exact e
  has := fun b o e => by
    by_cases z : b = a
    · subst z; exact ⟨_, upd_same⟩
    · exact ⟨o, by rw [upd_ne z]; exact e⟩
  tup := fun b xs e => by
    obtain ⟨ho, h1, h2, _⟩ := w.mem (List.mem_of_getElem? h)
    rw [upd_ne fun z => h2 xs (by subst z; rw [e] at h1; exact (Option.some.inj h1).symm)]; exact e
  frz := fun b ob u e => by
    obtain ⟨ho, h1, _, h2⟩ := w.mem (List.mem_of_getElem? h)
    rw [upd_ne fun z => h2 ob u (by subst z; rw [e] at h1; exact (Option.some.inj h1).symm)]; exact e
theorem Wd.ne (w : Wd g α S H) {l m : Nat} {a b : Addr} (h : α[l]? = some a) (h' : α[m]? = some b) (n : l ≠ m) : a ≠ b := by
  rintro rfl
  obtain ⟨h1, e1⟩ := List.getElem?_eq_some_iff.mp h
  obtain ⟨h2, e2⟩ := List.getElem?_eq_some_iff.mp h'
  exact n ((List.getElem_inj w.nd).mp (e1.trans e2.symm))
theorem Wd.write (w : Wd g α S H) {l : Nat} {a : Addr} {o : HO} {ob : MO} (h : α[l]? = some a) (q : ObD g α (upd H a o) a ob) : Wd g α (S.set l ob) (upd H a o) where
  len := by rw [List.length_set]; exact w.len
  nd := w.nd
  obj := fun m b ob' h1 h2 => by
    by_cases e : l = m
    · subst e
      rw [h] at h1
      have hl : l < S.length := by rw [← w.len]; exact (List.getElem?_eq_some_iff.mp h).1
      rw [List.getElem?_set_self hl] at h2
      rw [← Option.some.inj h1, ← Option.some.inj h2]
      exact q
    · rw [List.getElem?_set_ne e] at h2
      exact (w.obj m b ob' h1 h2).move (w.writex h).toEx0 (upd_ne (w.ne h1 h fun z => e z.symm))
/-- a list outside the store enters it -/
theorem Wd.enterx (w : Wd g α S H) {H0 : Hp} {α0 : List Addr} (x : Ext α0 H0 α H) {b : Addr} (h0 : H0 b = none) (n : b ∉ α) : Ext α0 H0 (α ++ [b]) H where
  pre := let ⟨t, e⟩ := x.pre; ⟨t ++ [b], by rw [e, List.append_assoc]⟩
  new := fun c hc => (List.mem_append.mp hc).elim (x.new c) fun z => .inr (by rw [List.mem_singleton.mp z]; exact h0)
  keep := x.keep
  has := x.has
  tup := x.tup
  frz := x.frz
theorem Wd.enter (w : Wd g α S H) {b : Addr} {ds : List MV} {vs : List V} (h : H b = some (.lst vs)) (n : b ∉ α) (l : DenL g.K α H ds vs) : Wd g (α ++ [b]) (S ++ [.lst ds]) H where
  len := by rw [List.length_append, List.length_append, w.len]; rfl
  nd := List.nodup_append.mpr ⟨w.nd, by simp, fun a ha c hc => by rw [List.mem_singleton.mp hc]; rintro rfl; exact n ha⟩
  obj := fun m a o h1 h2 => by
    by_cases hm : m < α.length
    · rw [List.getElem?_append_left hm] at h1
      rw [List.getElem?_append_left (by rw [← w.len]; exact hm)] at h2
      exact (w.obj m a o h1 h2).move (Ex0.grow α [b] H) rfl
    · have hm' : m = α.length := by
        have := (List.getElem?_eq_some_iff.mp h1).1
        rw [List.length_append, List.length_singleton] at this
        omega
      subst hm'
      rw [List.getElem?_append_right (Nat.le_refl _), Nat.sub_self] at h1
      rw [List.getElem?_append_right (by rw [w.len]; exact Nat.le_refl _), w.len, Nat.sub_self] at h2
      cases h1; cases h2
      exact ⟨vs, h, l.ex0 (Ex0.grow α [b] H)⟩
end
end M
end L2

namespace L2
namespace M
open PySem PySem.Spec PyProof.Rows

/-! ## results -/
inductive R (β : Type) where
  | ok (b : β) (S : Sto) | exc (c : Str) (fs : List (Str × MV)) (S : Sto) | no
def R.bind {β γ : Type} : R β → (β → Sto → R γ) → R γ
  | .ok b S, k => k b S
  | .exc c fs S, _ => .exc c fs S
  | .no, _ => .no
theorem R.bind_ok {β γ : Type} (b : β) (S : Sto) (k : β → Sto → R γ) : (R.ok b S).bind k = k b S := rfl
theorem R.bind_no {β γ : Type} (k : β → Sto → R γ) : (R.no : R β).bind k = .no := rfl
/-- what an expression leaves: data; a list just made, outside the store -/
inductive Er where
  | val (d : MV) | new (ds : List MV)
instance : Inhabited Er := ⟨.val .non⟩

def DenX (K : PySem.W.Frag) (α : List Addr) (H : Hp) : Er → V → Prop
  | .val d, v => Den K α H d v
  | .new ds, v => ∃ b vs, v = .ref b ∧ H b = some (.lst vs) ∧ b ∉ α ∧ DenL K α H ds vs
def DenE (K : PySem.W.Frag) (H : Hp) (α' : List Addr) (H' : Hp) (r : Er) (v : V) : Prop := DenX K α' H' r v ∧ match r with | .new _ => ∀ a, v = .ref a → H a = none | _ => True
section
variable {K : PySem.W.Frag} {α α' : List Addr} {H H0 H' : Hp}
theorem DenX.ext (x : Ext α H α' H') : ∀ {r : Er} {v : V}, DenX K α H r v → DenX K α' H' r v
  | .val d, _, q => Den.ext x q
  | .new ds, _, ⟨b, vs, e, h, n, l⟩ => ⟨b, vs, e, x.keep b _ h n, x.out h n, l.ext x⟩
theorem DenE.val {d : MV} {v : V} (q : Den K α' H' d v) : DenE K H α' H' (.val d) v := ⟨q, trivial⟩
theorem DenE.back (hf : ∀ b, H b = none → H0 b = none) {r : Er} {v : V} (q : DenE K H α' H' r v) : DenE K H0 α' H' r v := by
  refine ⟨q.1, ?_⟩
  cases r with
  | new ds => exact fun a e => hf a (q.2 a e)
  | _ => trivial
theorem DenE.ext {α'' : List Addr} {H'' : Hp} (x : Ext α' H' α'' H'') {r : Er} {v : V} (q : DenE K H α' H' r v) : DenE K H α'' H'' r v := ⟨q.1.ext x, q.2⟩
end
section
variable {K : PySem.W.Frag} {α : List Addr} {H : Hp} {v : V}
theorem xe_non (d : DenX K α H (.val .non) v) : v = .non := of_non (K := K) (α := α) (H := H) d
theorem xe_bl {b : Bool} (d : DenX K α H (.val (.bl b)) v) : v = .bl b := of_bl (K := K) (α := α) (H := H) d
theorem xe_int {b : Int} (d : DenX K α H (.val (.int b)) v) : v = .int b := of_int (K := K) (α := α) (H := H) d
theorem xe_str {b : List Nat} (d : DenX K α H (.val (.str b)) v) : v = .str (mkS b) := of_str (K := K) (α := α) (H := H) d
theorem xe_typ {b : String} (d : DenX K α H (.val (.typ b)) v) : v = .ty b := of_typ (K := K) (α := α) (H := H) d
theorem xe_tup {ds : List MV} (d : DenX K α H (.val (.tup ds)) v) : ∃ a vs, v = .ref a ∧ SqT K H a vs ∧ DenL K α H ds vs := of_tup (K := K) (α := α) (H := H) d
theorem xe_scr {ds : List MV} (d : DenX K α H (.val (.scr ds)) v) : ∃ a vs, v = .ref a ∧ SqF K H a vs ∧ DenL K α H ds vs := of_scr (K := K) (α := α) (H := H) d
theorem xe_loc {l : Nat} (d : DenX K α H (.val (.loc l)) v) : ∃ a, v = .ref a ∧ α[l]? = some a := of_loc (K := K) (α := α) (H := H) d
end
/-- the addresses of the lists just made -/
def newsA : List Er → List V → List Addr
  | .new _ :: rs, .ref b :: vs => b :: newsA rs vs
  | _ :: rs, _ :: vs => newsA rs vs
  | _, _ => []
inductive ArgsE (K : PySem.W.Frag) (H : Hp) (α' : List Addr) (H' : Hp) : List Er → List V → Prop
  | nil : ArgsE K H α' H' [] []
  | cons {r v rs vs} : DenE K H α' H' r v → (∀ ds b, r = .new ds → v = .ref b → b ∉ newsA rs vs) → ArgsE K H α' H' rs vs → ArgsE K H α' H' (r :: rs) (v :: vs)
theorem ArgsE.nones {K : PySem.W.Frag} {H : Hp} {α' : List Addr} {H' : Hp} : ∀ {rs vs}, ArgsE K H α' H' rs vs → ∀ b ∈ newsA rs vs, H b = none
  | _, _, .nil => fun b h => by simp [newsA] at h
  | .val d :: _, v :: _, .cons a n l => fun b h => ArgsE.nones l b (by simpa [newsA] using h)
  | .new ds :: _, v :: _, .cons a n l => fun b h => by
    obtain ⟨c, vs, rfl, _⟩ := a.1
    rcases List.mem_cons.mp (show b ∈ c :: newsA _ _ from h) with rfl | h
    · exact a.2 _ rfl
    · exact ArgsE.nones l b h
theorem ArgsE.ext {K : PySem.W.Frag} {H : Hp} {α' α'' : List Addr} {H' H'' : Hp} (x : Ext α' H' α'' H'') : ∀ {rs vs}, ArgsE K H α' H' rs vs → ArgsE K H α'' H'' rs vs
  | _, _, .nil => .nil
  | _, _, .cons a n l => .cons (a.ext x) n (ArgsE.ext x l)
theorem ArgsE.back {K : PySem.W.Frag} {H H0 : Hp} {α' : List Addr} {H' : Hp} (hf : ∀ b, H b = none → H0 b = none) : ∀ {rs vs}, ArgsE K H α' H' rs vs → ArgsE K H0 α' H' rs vs
  | _, _, .nil => .nil
  | _, _, .cons a n l => .cons (a.back hf) n (ArgsE.back hf l)
theorem ArgsE.length {K : PySem.W.Frag} {H : Hp} {α' : List Addr} {H' : Hp} : ∀ {rs vs}, ArgsE K H α' H' rs vs → vs.length = rs.length
  | _, _, .nil => rfl
  | _, _, .cons _ _ l => by rw [List.length_cons, List.length_cons, ArgsE.length l]

/-- how results stand for what the model hands on -/
class Dn (β : Type) (τ : outParam Type) where
  d : Gm → Hp → List Addr → Sto → Hp → β → τ → Prop
  back : ∀ {g : Gm} {H H0 : Hp} {α' : List Addr} {S' : Sto} {H' : Hp} {b : β} {u : τ}, (∀ b, H b = none → H0 b = none) → d g H α' S' H' b u → d g H0 α' S' H' b u
instance : Dn Er V := ⟨fun g H α' _ H' r v => DenE g.K H α' H' r v, fun hf q => q.back hf⟩
instance : Dn Bool Bool := ⟨fun _ _ _ _ _ b u => u = b, fun _ q => q⟩
instance : Dn (List Er) (List V) := ⟨fun g H α' _ H' r v => ArgsE g.K H α' H' r v, fun hf q => q.back hf⟩
instance : Dn (Option Int) (Option Int) := ⟨fun _ _ _ _ _ b u => u = b, fun _ q => q⟩

/-- what is wanted of an exception -/
abbrev XW := Str → List (Str × MV) → Sto → List Addr → Hp → Prop
abbrev W0 : XW := fun _ _ _ _ _ => False
def Post {β τ : Type} [Dn β τ] (g : Gm) (W : XW) (α : List Addr) (H : Hp) : R β → (τ → Hp → Prop) → Prop
  | .ok b S, Q => ∀ u α' H', Ext α H α' H' → Wd g α' S H' → Dn.d g H α' S H' b u → Q u H'
  | .exc c fs S, _ => ∀ α' H', Ext α H α' H' → Wd g α' S H' → W c fs S α' H'
  | .no, _ => False
section
variable {β τ γ υ : Type} [Dn β τ] [Dn γ υ] {g : Gm} {W : XW} {α α' : List Addr} {H H' : Hp}
theorem Post.shift (x : Ext α H α' H') : ∀ {m : R β} {Q : τ → Hp → Prop}, Post g W α H m Q → Post g W α' H' m Q
  | .ok b S, Q, q => fun u α2 H2 x2 w2 d2 => q u α2 H2 (x.trans x2) w2 (Dn.back (fun b h => x.free h) d2)
  | .exc c fs S, _, q => fun α2 H2 x2 w2 => q α2 H2 (x.trans x2) w2
  | .no, _, q => q
theorem Post.bind {m : R β} {k : β → Sto → R γ} {Q : υ → Hp → Prop} {Q' : τ → Hp → Prop} (q : Post g W α H (m.bind k) Q)
    (f : ∀ u b S1 α1 H1, m = .ok b S1 → Ext α H α1 H1 → Wd g α1 S1 H1 → Dn.d g H α1 S1 H1 b u → Post g W α H (k b S1) Q → Q' u H1) : Post g W α H m Q' := by
  cases m with
  | ok b S => exact fun u α1 H1 x w d => f u b S α1 H1 rfl x w d q
  | exc c fs S => exact q
  | no => exact q
theorem Post.here {b : β} {S : Sto} {Q : τ → Hp → Prop} {u : τ} (q : Post g W α H (.ok b S) Q) (w : Wd g α S H) (d : Dn.d g H α S H b u) : Q u H := q u α H (Ext.refl α H) w d
end
theorem Post.val {g : Gm} {W : XW} {α : List Addr} {H : Hp} {d : MV} {S : Sto} {Q : VK} {v : V} (q : Post g W α H (.ok (Er.val d) S) Q) (w : Wd g α S H) (k : Den g.K α H d v) : Q v H := q.here w (DenE.val k)
/-- a new list outside the store -/
theorem Post.newl {g : Gm} {W : XW} {α : List Addr} {H : Hp} {ds : List MV} {S : Sto} {Q : VK} {vs : List V} {p : Addr} (q : Post g W α H (.ok (Er.new ds) S) Q) (w : Wd g α S H) (hp : H p = none) (l : DenL g.K α H ds vs) : Q (.ref p) (upd H p (.lst vs)) :=
  q (.ref p) α _ (w.newx hp) (w.new hp) ⟨⟨p, vs, rfl, upd_same, w.fresh hp, l.ext (w.newx hp)⟩, fun a e => by cases e; exact hp⟩
theorem Post.newt {g : Gm} {W : XW} {α : List Addr} {H : Hp} {ds : List MV} {S : Sto} {Q : VK} {vs : List V} {p : Addr} (q : Post g W α H (.ok (Er.val (.tup ds)) S) Q) (w : Wd g α S H) (hp : H p = none) (l : DenL g.K α H ds vs) : Q (.ref p) (upd H p (.tup vs)) :=
  q (.ref p) α _ (w.newx hp) (w.new hp) (.val (den_tup (.of upd_same) (l.ext (w.newx hp))))

/-! ## the names of a body -/
abbrev Rho := List (Option MV)
structure Slots (K : PySem.W.Frag) (α : List Addr) (H : Hp) (ρ : Rho) (σ : St) : Prop where
  len : σ.length = ρ.length
  slot : ∀ (i : Nat) (d : MV), ρ[i]? = some (some d) → ∃ v, σ[i]? = some (some v) ∧ Den K α H d v
section
variable {K : PySem.W.Frag} {α α' : List Addr} {H H' : Hp} {ρ : Rho} {σ : St}
theorem Slots.ex0 (q : Slots K α H ρ σ) (x : Ex0 α H α' H') : Slots K α' H' ρ σ := ⟨q.len, fun i d e => let ⟨v, h1, h2⟩ := q.slot i d e; ⟨v, h1, h2.ex0 x⟩⟩
theorem Slots.ext (q : Slots K α H ρ σ) (x : Ext α H α' H') : Slots K α' H' ρ σ := q.ex0 x.toEx0
theorem set_get {α : Type} {l : List α} {i j : Nat} {x y : α} (h : (l.set i x)[j]? = some y) : (j = i ∧ y = x ∧ i < l.length) ∨ (j ≠ i ∧ l[j]? = some y) := by
  by_cases hj : i = j
  · subst hj
    by_cases hl : i < l.length
    · rw [List.getElem?_set_self hl] at h
      exact .inl ⟨rfl, (Option.some.inj h).symm, hl⟩
    · rw [List.getElem?_eq_none (by rw [List.length_set]; omega)] at h; cases h
  · rw [List.getElem?_set_ne hj] at h
    exact .inr ⟨fun z => hj z.symm, h⟩
theorem Slots.set (q : Slots K α H ρ σ) {i : Nat} {d : MV} {v : V} (h : Den K α H d v) : Slots K α H (ρ.set i (some d)) (σ.set i (some v)) := by
  refine ⟨by rw [List.length_set, List.length_set]; exact q.len, fun j e z => ?_⟩
  rcases set_get z with ⟨rfl, e', hl⟩ | ⟨hj, e'⟩
  · cases e'
    exact ⟨v, by rw [List.getElem?_set_self (by rw [q.len]; exact hl)], h⟩
  · obtain ⟨u, h1, h2⟩ := q.slot j e e'
    exact ⟨u, by rw [List.getElem?_set_ne (Ne.symm hj)]; exact h1, h2⟩
end

/-! ## the judgements -/
def Jd (X : Cx) (W : XW) {β τ : Type} [Dn β τ] (P : (St → Hp → (τ → Hp → Prop) → Prop) → Prop) (f : Rho → Sto → R β) : Prop :=
  ∃ t, P t ∧ ∀ α ρ S σ H Q, Wd X.g α S H → Slots X.K α H ρ σ → Post X.g W α H (f ρ S) Q → t σ H Q
abbrev PEm (X : Cx) (W : XW) (e : Expr) (f : Rho → Sto → R Er) : Prop := Jd X W (PE X e) f
abbrev PTm (X : Cx) (W : XW) (e : Expr) (f : Rho → Sto → R Bool) : Prop := Jd X W (PT X e) f
abbrev PWm (X : Cx) (W : XW) (e : Expr) (f : Rho → Sto → R Bool) : Prop := Jd X W (PW X e) f
abbrev PAm (X : Cx) (W : XW) (es : List Expr) (f : Rho → Sto → R (List Er)) : Prop := Jd X W (PA X es) f
abbrev POm (X : Cx) (W : XW) (e : Option Expr) (f : Rho → Sto → R (Option Int)) : Prop := Jd X W (PO X e) f

section
variable {X : Cx} {W : XW} {a b c e : Expr} {es : List Expr} {f g h : Rho → Sto → R Er} {tf tg : Rho → Sto → R Bool} {af : Rho → Sto → R (List Er)} {pos : Pos}

/-! ### names, constants -/
def rdSl : Option (Option MV) → Sto → R Er
  | some (some d), S => .ok (.val d) S
  | _, _ => .no
theorem pm_var (i : Nat) {x : Str} (hN : X.N[i]? = some x := by rfl) (hv : Vis X.env.scope x := by first | exact Or.inl rfl | exact Or.inr (Or.inl rfl) | exact Or.inr (Or.inr rfl)) (hd : (x == ("__debug__" : Str)) = false := by decide)
    (hcd : (x == ("__classdict__" : Str)) = false := by decide) : PEm X W (.Name x pos) (fun ρ S => rdSl (ρ[i]?) S) := by
  refine ⟨_, pv i hN hv hd hcd, fun α ρ S σ H Q wd sl q => ?_⟩
  dsimp only at q
  cases z : ρ[i]? with
  | none => rw [z] at q; exact q.elim
  | some o =>
    cases o with
    | none => rw [z] at q; exact q.elim
    | some d =>
      rw [z] at q
      obtain ⟨v, h1, h2⟩ := sl.slot i d z
      exact ⟨v, h1, Post.val q wd h2⟩
theorem pm_int {i : Int} {j : Nat} : PEm X W (.Constant (.int i) j pos) (fun _ S => .ok (.val (.int i)) S) := ⟨_, pe_int, fun α ρ S σ H Q wd sl q => Post.val q wd (den_int i)⟩
theorem pm_bl {i : Bool} {j : Nat} : PEm X W (.Constant (.bool i) j pos) (fun _ S => .ok (.val (.bl i)) S) := ⟨_, pe_bl, fun α ρ S σ H Q wd sl q => Post.val q wd (den_bl i)⟩
theorem pm_non {j : Nat} : PEm X W (.Constant .none j pos) (fun _ S => .ok (.val .non) S) := ⟨_, pe_non, fun α ρ S σ H Q wd sl q => Post.val q wd den_non⟩
theorem pm_str {x : Str} {j : Nat} (cs : List Nat) (hx : x = mkS cs := by rfl) : PEm X W (.Constant (.str x) j pos) (fun _ S => .ok (.val (.str cs)) S) :=
  ⟨_, pe_str, fun α ρ S σ H Q wd sl q => Post.val q wd (by rw [hx]; exact den_str cs)⟩
theorem pm_gint {x : Str} {i : Int} {t : Tok} (hg : Gl X x) (hm : X.mg x = some (.int i t)) (hd : (x == ("__debug__" : Str)) = false := by decide) : PEm X W (.Name x pos) (fun _ S => .ok (.val (.int i)) S) :=
  ⟨_, pe_glob (v := .int i) hg hm ⟨t, rfl⟩ hd, fun α ρ S σ H Q wd sl q => Post.val q wd (den_int i)⟩
theorem pm_gstr {x : Str} {y : List Nat} {t : Tok} (hg : Gl X x) (hm : X.mg x = some (.str (mkS y) t)) (hd : (x == ("__debug__" : Str)) = false := by decide) : PEm X W (.Name x pos) (fun _ S => .ok (.val (.str y)) S) :=
  ⟨_, pe_glob (v := .str (mkS y)) hg hm ⟨t, rfl⟩ hd, fun α ρ S σ H Q wd sl q => Post.val q wd (den_str y)⟩
theorem pm_ty {x : Str} {T : String} (hg : Gl X x) (hm : X.mg x = none) (hv : bootBuiltins x = some (.type T)) (hn : x ≠ "__name__" := by decide) (hd : (x == ("__debug__" : Str)) = false := by decide) : PEm X W (.Name x pos) (fun _ S => .ok (.val (.typ T)) S) :=
  ⟨_, pe_bltn (v := .ty T) hg hm hv rfl hn hd, fun α ρ S σ H Q wd sl q => Post.val q wd (den_typ T)⟩
theorem pm_neg {i : Int} {j : Nat} {p3 : Pos} : PEm X W (.UnaryOp .USub (.Constant (.int i) j p3) pos) (fun _ S => .ok (.val (.int (-i))) S) :=
  ⟨_, pe_un un_neg pe_int, fun α ρ S σ H Q wd sl q => ⟨i, rfl, Post.val q wd (den_int (-i))⟩⟩

/-! ### two-place operations -/
/-- r does what F tells -/
def Op2 (X : Cx) (W : XW) (r : R2) (F : Er → Er → Sto → R Er) : Prop := ∀ p q x y α S H Q, Wd X.g α S H → DenX X.K α H p x → DenX X.K α H q y → Post X.g W α H (F p q S) Q → r x y H Q
theorem two {r : R2} {F : Er → Er → Sto → R Er} (hF : Op2 X W r F) {ta tb : TE} (fa : ∀ α ρ S σ H Q, Wd X.g α S H → Slots X.K α H ρ σ → Post X.g W α H (f ρ S) Q → ta σ H Q)
    (fb : ∀ α ρ S σ H Q, Wd X.g α S H → Slots X.K α H ρ σ → Post X.g W α H (g ρ S) Q → tb σ H Q) {α : List Addr} {ρ : Rho} {S : Sto} {σ : St} {H : Hp} {Q : VK} (wd : Wd X.g α S H) (sl : Slots X.K α H ρ σ)
    (q : Post X.g W α H ((f ρ S).bind fun p S1 => (g ρ S1).bind fun q S2 => F p q S2) Q) : ta σ H fun x H1 => tb σ H1 fun y H2 => r x y H2 Q :=
  fa α ρ S σ H _ wd sl (q.bind fun u p S1 α1 H1 e1 x1 w1 d1 q1 => fb α1 ρ S1 σ H1 _ w1 (sl.ext x1) ((q1.shift x1).bind fun u2 p2 S2 α2 H2 e2 x2 w2 d2 q2 =>
    hF p p2 u u2 α2 S2 H2 Q w2 (d1.1.ext x2) d2.1 (q2.shift x2)))
theorem pm_op {op : Operator} {r : R2} {F : Er → Er → Sto → R Er} (ho : OpR X (binaryOp op) r) (hF : Op2 X W r F) (ha : PEm X W a f) (hb : PEm X W b g) : PEm X W (.BinOp a op b pos) (fun ρ S => (f ρ S).bind fun p S1 => (g ρ S1).bind fun q S2 => F p q S2) := by
  obtain ⟨ta, ha, fa⟩ := ha
  obtain ⟨tb, hb, fb⟩ := hb
  exact ⟨_, pe_op ho ha hb, fun α ρ S σ H Q wd sl q => two hF fa fb wd sl q⟩
theorem pm_cmp {op : CmpOp} {r : R2} {F : Er → Er → Sto → R Er} (ho : OpR X (compareOp op) r) (hF : Op2 X W r F) (ha : PEm X W a f) (hb : PEm X W b g) (hm : behindInMarks op b = false := by first | exact nomark _ | with_unfolding_all rfl) :
    PEm X W (.Compare a [op] [b] pos) (fun ρ S => (f ρ S).bind fun p S1 => (g ρ S1).bind fun q S2 => F p q S2) := by
  obtain ⟨ta, ha, fa⟩ := ha
  obtain ⟨tb, hb, fb⟩ := hb
  exact ⟨_, pe_cmpR ho ha hb hm, fun α ρ S σ H Q wd sl q => two hF fa fb wd sl q⟩
theorem pm_ix {r : R2} {F : Er → Er → Sto → R Er} (ho : IxR X r) (hF : Op2 X W r F) (ha : PEm X W a f) (hb : PEm X W b g) (hs : PlainIx b := by exact fun _ _ => rfl) :
    PEm X W (.Subscript a b pos) (fun ρ S => (f ρ S).bind fun p S1 => (g ρ S1).bind fun q S2 => F p q S2) := by
  obtain ⟨ta, ha, fa⟩ := ha
  obtain ⟨tb, hb, fb⟩ := hb
  exact ⟨_, pe_ix ho ha hb hs, fun α ρ S σ H Q wd sl q => two hF fa fb wd sl q⟩
def asB : Er → Sto → R Bool
  | .val (.bl b), S => .ok b S
  | _, _ => .no
theorem asB_post {p : Er} {S : Sto} {α : List Addr} {H : Hp} {Q : Bool → Hp → Prop} (q : Post X.g W α H (asB p S) Q) : ∃ k, p = .val (.bl k) ∧ Post X.g W α H (.ok k S) Q := by
  unfold asB at q
  split at q
  · exact ⟨_, rfl, q⟩
  · exact q.elim
theorem asB_bind {β τ : Type} [Dn β τ] {p : Er} {S : Sto} {α : List Addr} {H : Hp} {k : Bool → Sto → R β} {Q : τ → Hp → Prop} (q : Post X.g W α H ((asB p S).bind k) Q) : ∃ c, p = .val (.bl c) ∧ Post X.g W α H (k c S) Q := by
  unfold asB at q
  split at q
  · exact ⟨_, rfl, q⟩
  · exact q.elim
theorem tm_cmp {op : CmpOp} {r : R2} {F : Er → Er → Sto → R Er} (ho : OpR X (compareOp op) r) (hF : Op2 X W r F) (ha : PEm X W a f) (hb : PEm X W b g) (hm : behindInMarks op b = false := by first | exact nomark _ | with_unfolding_all rfl) :
    PTm X W (.Compare a [op] [b] pos) (fun ρ S => ((f ρ S).bind fun p S1 => (g ρ S1).bind fun q S2 => F p q S2).bind asB) := by
  obtain ⟨ta, ha, fa⟩ := ha
  obtain ⟨tb, hb, fb⟩ := hb
  refine ⟨_, pt_cmpR ho ha hb hm, fun α ρ S σ H Q wd sl q => ?_⟩
  refine two hF fa fb wd sl (Q := fun x H' => ∃ k, x = .bl k ∧ Q k H') (q.bind fun u p S1 α1 H1 e1 x1 w1 d1 q1 => ?_)
  obtain ⟨k, rfl, q2⟩ := asB_post (q1.shift x1)
  exact ⟨k, xe_bl d1.1, q2.here w1 rfl⟩
/-- a op1 b op2 c -/
def chF (F G : Er → Er → Sto → R Er) (p q : Er) (S : Sto) (k : Sto → R Er) : R Er := (F p q S).bind fun z S1 => (asB z S1).bind fun c S2 => if c = true then (k S2).bind fun r S3 => G q r S3 else .ok (.val (.bl false)) S2
theorem chain {r r' : R2} {F G : Er → Er → Sto → R Er} (hF : Op2 X W r F) (hG : Op2 X W r' G) {ta tb tc : TE} (fa : ∀ α ρ S σ H Q, Wd X.g α S H → Slots X.K α H ρ σ → Post X.g W α H (f ρ S) Q → ta σ H Q)
    (fb : ∀ α ρ S σ H Q, Wd X.g α S H → Slots X.K α H ρ σ → Post X.g W α H (g ρ S) Q → tb σ H Q) (fc : ∀ α ρ S σ H Q, Wd X.g α S H → Slots X.K α H ρ σ → Post X.g W α H (h ρ S) Q → tc σ H Q) {α : List Addr} {ρ : Rho} {S : Sto} {σ : St} {H : Hp} {Q : VK} (wd : Wd X.g α S H) (sl : Slots X.K α H ρ σ)
    (q : Post X.g W α H ((f ρ S).bind fun p S1 => (g ρ S1).bind fun q S2 => chF F G p q S2 fun S3 => h ρ S3) Q) : tChain r r' ta tb tc σ H Q :=
  fa α ρ S σ H _ wd sl (q.bind fun u p S1 α1 H1 e1 x1 w1 d1 q1 => fb α1 ρ S1 σ H1 _ w1 (sl.ext x1) ((q1.shift x1).bind fun u2 p2 S2 α2 H2 e2 x2 w2 d2 q2 => by
    refine hF p p2 u u2 α2 S2 H2 _ w2 (d1.1.ext x2) d2.1 (Post.bind (q2.shift x2) fun u3 p3 S3 α3 H3 e3 x3 w3 d3 q3 => ?_)
    obtain ⟨k, rfl, q4⟩ := asB_bind (q3.shift x3)
    refine ⟨k, xe_bl d3.1, ?_⟩
    cases k with
    | true =>
      rw [if_pos rfl] at q4 ⊢
      exact fc α3 ρ S3 σ H3 _ w3 (((sl.ext x1).ext x2).ext x3) (q4.bind fun u5 p5 S5 α5 H5 e5 x5 w5 d5 q5 => hG p2 p5 u2 u5 α5 S5 H5 Q w5 ((d2.1.ext x3).ext x5) d5.1 (q5.shift x5))
    | false =>
      rw [if_neg Bool.false_ne_true] at q4 ⊢
      exact Post.val q4 w3 (den_bl false)))
theorem pm_chain {op op' : CmpOp} {r r' : R2} {F G : Er → Er → Sto → R Er} (ho : OpR X (compareOp op) r) (ho' : OpR X (compareOp op') r') (hF : Op2 X W r F) (hG : Op2 X W r' G) (ha : PEm X W a f) (hb : PEm X W b g) (hc : PEm X W c h)
    (hm : lastMarks [op, op'] [b, c] = false := by with_unfolding_all rfl) :
    PEm X W (.Compare a [op, op'] [b, c] pos) (fun ρ S => (f ρ S).bind fun p S1 => (g ρ S1).bind fun q S2 => chF F G p q S2 fun S3 => h ρ S3) := by
  obtain ⟨ta, ha, fa⟩ := ha
  obtain ⟨tb, hb, fb⟩ := hb
  obtain ⟨tc, hc, fc⟩ := hc
  exact ⟨_, pe_chain ho ho' ha hb hc hm, fun α ρ S σ H Q wd sl q => chain hF hG fa fb fc wd sl q⟩
theorem tm_chain {op op' : CmpOp} {r r' : R2} {F G : Er → Er → Sto → R Er} (ho : OpR X (compareOp op) r) (ho' : OpR X (compareOp op') r') (hF : Op2 X W r F) (hG : Op2 X W r' G) (ha : PEm X W a f) (hb : PEm X W b g) (hc : PEm X W c h)
    (hm : lastMarks [op, op'] [b, c] = false := by with_unfolding_all rfl) :
    PTm X W (.Compare a [op, op'] [b, c] pos) (fun ρ S => ((f ρ S).bind fun p S1 => (g ρ S1).bind fun q S2 => chF F G p q S2 fun S3 => h ρ S3).bind asB) := by
  obtain ⟨ta, ha, fa⟩ := ha
  obtain ⟨tb, hb, fb⟩ := hb
  obtain ⟨tc, hc, fc⟩ := hc
  refine ⟨_, pt_chain ho ho' ha hb hc hm, fun α ρ S σ H Q wd sl q => ?_⟩
  refine chain hF hG fa fb fc wd sl (Q := fun x H' => ∃ k, x = .bl k ∧ Q k H') (q.bind fun u p S1 α1 H1 e1 x1 w1 d1 q1 => ?_)
  obtain ⟨k, rfl, q2⟩ := asB_post (q1.shift x1)
  exact ⟨k, xe_bl d1.1, q2.here w1 rfl⟩

/-! ### truth, and, or, not, if -/
def truF : Er → Sto → R Bool
  | .val .non, S => .ok false S
  | .val (.bl b), S => .ok b S
  | .val (.int i), S => .ok (i != 0) S
  | .val (.str x), S => if x.length ≤ sizeLine then .ok (!x.isEmpty) S else .no
  | .val (.tup ds), S => .ok (!ds.isEmpty) S
  | .val (.scr ds), S => .ok (!ds.isEmpty) S
  | .val (.loc l), S => match S[l]? with
    | some (.lst ds) => .ok (!ds.isEmpty) S
    | some (.dic ds) => .ok (!ds.isEmpty) S
    | _ => .no
  | .val (.typ _), _ => .no
  | .new ds, S => .ok (!ds.isEmpty) S
theorem empty_len {ds : List MV} {vs : List V} {K : PySem.W.Frag} {α : List Addr} {H : Hp} (l : DenL K α H ds vs) : (!vs.isEmpty) = !ds.isEmpty := by
  have := l.length
  cases ds <;> cases vs <;> simp_all
theorem empty_lenK {ds : List (MV × MV)} {vs : List (Key × V)} {K : PySem.W.Frag} {α : List Addr} {H : Hp} (l : DenK K α H ds vs) : (!vs.isEmpty) = !ds.isEmpty := by cases l <;> rfl
theorem tru_post {p : Er} {x : V} {S : Sto} {α : List Addr} {H : Hp} {Q : Bool → Hp → Prop} (wd : Wd X.g α S H) (d : DenX X.K α H p x) (q : Post X.g W α H (truF p S) Q) : ∃ k, TruV X.K x H k ∧ Q k H := by
  match p, d, q with
  | .val .non, d, q => cases xe_non d; exact ⟨_, rfl, q.here wd rfl⟩
  | .val (.bl b), d, q => cases xe_bl d; exact ⟨_, rfl, q.here wd rfl⟩
  | .val (.int i), d, q => cases xe_int d; exact ⟨_, rfl, q.here wd rfl⟩
  | .val (.typ n), d, q => exact q.elim
  | .val (.str z), d, q =>
    cases xe_str d
    have q' : Post X.g W α H (if z.length ≤ sizeLine then R.ok (!z.isEmpty) S else R.no) Q := q
    split at q'
    · rename_i hz
      refine ⟨_, ⟨by rw [mkS_len]; exact hz, ?_⟩, q'.here wd rfl⟩
      rw [mkS_len]
      cases z with
      | nil => rfl
      | cons c r =>
        have h0 : ((r.length : Int) + 1) ≠ 0 := by omega
        simp [h0]
    · exact q'.elim
  | .val (.tup ds), d, q =>
    obtain ⟨a, vs, rfl, s, l⟩ := xe_tup d
    exact ⟨_, .inr (.inl ⟨vs, s, (empty_len l).symm⟩), q.here wd rfl⟩
  | .val (.scr ds), d, q =>
    obtain ⟨a, vs, rfl, s, l⟩ := xe_scr d
    exact ⟨_, .inl ⟨vs, s.l, (empty_len l).symm⟩, q.here wd rfl⟩
  | .val (.loc n), d, q =>
    obtain ⟨a, rfl, h⟩ := xe_loc d
    obtain ⟨o, h1, h2⟩ := wd.of h
    have q' : Post X.g W α H (match S[n]? with | some (.lst ds) => R.ok (!ds.isEmpty) S | some (.dic ds) => R.ok (!ds.isEmpty) S | _ => R.no) Q := q
    rw [h1] at q'
    cases o with
    | lst ds =>
      obtain ⟨vs, h3, l⟩ := h2
      exact ⟨_, .inl ⟨vs, .of h3, (empty_len l).symm⟩, q'.here wd rfl⟩
    | dic ds =>
      obtain ⟨vs, h3, l⟩ := h2
      exact ⟨_, .inr (.inr ⟨vs, h3, (empty_lenK l).symm⟩), q'.here wd rfl⟩
    | ins c fs => exact q'.elim
  | .new ds, ⟨a, vs, ex, s, n, l⟩, q => subst ex; exact ⟨_, .inl ⟨vs, .of s, (empty_len l).symm⟩, q.here wd rfl⟩
/-- a name, a call, a subscript .. as a test -/
theorem tm_plain (ha : PEm X W a f) (he : ∀ whole, isTrue a X.env whole = (do let v ← whole; standAt a.pos; holding [v] (truthy v)) := by intro _; rfl) : PTm X W a (fun ρ S => (f ρ S).bind truF) := by
  obtain ⟨ta, ha, fa⟩ := ha
  exact ⟨_, pt_truth ha he, fun α ρ S σ H Q wd sl q => fa α ρ S σ H _ wd sl (q.bind fun u p S1 α1 H1 e1 x1 w1 d1 q1 => tru_post w1 d1.1 (q1.shift x1))⟩
end
end M
end L2

namespace L2
namespace M
open PySem PySem.Spec PyProof.Rows
section
variable {X : Cx} {W : XW} {a b c e : Expr} {es : List Expr} {f g h : Rho → Sto → R Er} {tf tg : Rho → Sto → R Bool} {af : Rho → Sto → R (List Er)} {pos : Pos}

/-! ### and, or, not, if -/
def andF (p : Er) (S : Sto) (k : Sto → R Er) : R Er := (asB p S).bind fun c S1 => if c = true then k S1 else .ok (.val (.bl false)) S1
def orF (p : Er) (S : Sto) (k : Sto → R Er) : R Er := (asB p S).bind fun c S1 => if c = true then .ok (.val (.bl true)) S1 else k S1
theorem pm_one {op} (ha : PEm X W a f) : PEm X W (.BoolOp op [a] pos) f := let ⟨t, h, k⟩ := ha; ⟨t, pe_one h, k⟩
theorem pm_and (ha : PEm X W a f) (hb : PEm X W (.BoolOp .And (b :: es) pos) g) : PEm X W (.BoolOp .And (a :: b :: es) pos) (fun ρ S => (f ρ S).bind fun p S1 => andF p S1 fun S2 => g ρ S2) := by
  obtain ⟨ta, ha, fa⟩ := ha
  obtain ⟨tb, hb, fb⟩ := hb
  refine ⟨_, pe_and ha hb, fun α ρ S σ H Q wd sl q => fa α ρ S σ H _ wd sl (q.bind fun u p S1 α1 H1 e1 x1 w1 d1 q1 => ?_)⟩
  obtain ⟨k, rfl, q2⟩ := asB_bind (q1.shift x1)
  refine ⟨k, xe_bl d1.1, ?_⟩
  cases k with
  | true => rw [if_pos rfl] at q2 ⊢; exact fb α1 ρ S1 σ H1 _ w1 (sl.ext x1) q2
  | false => rw [if_neg Bool.false_ne_true] at q2 ⊢; exact Post.val q2 w1 (den_bl false)
theorem pm_or (ha : PEm X W a f) (hb : PEm X W (.BoolOp .Or (b :: es) pos) g) : PEm X W (.BoolOp .Or (a :: b :: es) pos) (fun ρ S => (f ρ S).bind fun p S1 => orF p S1 fun S2 => g ρ S2) := by
  obtain ⟨ta, ha, fa⟩ := ha
  obtain ⟨tb, hb, fb⟩ := hb
  refine ⟨_, pe_or ha hb, fun α ρ S σ H Q wd sl q => fa α ρ S σ H _ wd sl (q.bind fun u p S1 α1 H1 e1 x1 w1 d1 q1 => ?_)⟩
  obtain ⟨k, rfl, q2⟩ := asB_bind (q1.shift x1)
  refine ⟨k, xe_bl d1.1, ?_⟩
  cases k with
  | true => rw [if_pos rfl] at q2 ⊢; exact Post.val q2 w1 (den_bl true)
  | false => rw [if_neg Bool.false_ne_true] at q2 ⊢; exact fb α1 ρ S1 σ H1 _ w1 (sl.ext x1) q2
theorem pm_not (ha : PEm X W a f) : PEm X W (.UnaryOp .Not a pos) (fun ρ S => (f ρ S).bind fun p S1 => (asB p S1).bind fun k S2 => .ok (.val (.bl !k)) S2) := by
  obtain ⟨ta, ha, fa⟩ := ha
  refine ⟨_, pe_not ha, fun α ρ S σ H Q wd sl q => fa α ρ S σ H _ wd sl (q.bind fun u p S1 α1 H1 e1 x1 w1 d1 q1 => ?_)⟩
  obtain ⟨k, rfl, q2⟩ := asB_bind (q1.shift x1)
  exact ⟨k, xe_bl d1.1, Post.val q2 w1 (den_bl _)⟩
theorem pm_if (hc : PTm X W c tf) (ha : PEm X W a f) (hb : PEm X W b g) : PEm X W (.IfExp c a b pos) (fun ρ S => (tf ρ S).bind fun k S1 => if k = true then f ρ S1 else g ρ S1) := by
  obtain ⟨tc, hc, fc⟩ := hc
  obtain ⟨ta, ha, fa⟩ := ha
  obtain ⟨tb, hb, fb⟩ := hb
  refine ⟨_, pe_ifExp hc ha hb, fun α ρ S σ H Q wd sl q => fc α ρ S σ H _ wd sl (q.bind fun u p S1 α1 H1 e1 x1 w1 d1 q1 => ?_)⟩
  cases d1
  cases u with
  | true => rw [if_pos rfl] at q1 ⊢; exact fa α1 ρ S1 σ H1 _ w1 (sl.ext x1) (q1.shift x1)
  | false => rw [if_neg Bool.false_ne_true] at q1 ⊢; exact fb α1 ρ S1 σ H1 _ w1 (sl.ext x1) (q1.shift x1)
/-! tests -/
theorem wm_and1 (ha : PTm X W a tf) : PWm X W (.BoolOp .And [a] pos) tf := let ⟨t, h, k⟩ := ha; ⟨t, pw_and1 h, k⟩
theorem wm_or1 (ha : PTm X W a tf) : PWm X W (.BoolOp .Or [a] pos) tf := let ⟨t, h, k⟩ := ha; ⟨t, pw_or1 h, k⟩
theorem wm_and (ha : PTm X W a tf) (hb : PWm X W (.BoolOp .And (b :: es) pos) tg) : PWm X W (.BoolOp .And (a :: b :: es) pos) (fun ρ S => (tf ρ S).bind fun k S1 => if k = true then tg ρ S1 else .ok false S1) := by
  obtain ⟨ta, ha, fa⟩ := ha
  obtain ⟨tb, hb, fb⟩ := hb
  refine ⟨_, pw_and ha hb, fun α ρ S σ H Q wd sl q => fa α ρ S σ H _ wd sl (q.bind fun u p S1 α1 H1 e1 x1 w1 d1 q1 => ?_)⟩
  cases d1
  cases u with
  | true => rw [if_pos rfl] at q1 ⊢; exact fb α1 ρ S1 σ H1 _ w1 (sl.ext x1) (q1.shift x1)
  | false => rw [if_neg Bool.false_ne_true] at q1 ⊢; exact (q1.shift x1).here w1 rfl
theorem wm_or (ha : PTm X W a tf) (hb : PWm X W (.BoolOp .Or (b :: es) pos) tg) : PWm X W (.BoolOp .Or (a :: b :: es) pos) (fun ρ S => (tf ρ S).bind fun k S1 => if k = true then .ok true S1 else tg ρ S1) := by
  obtain ⟨ta, ha, fa⟩ := ha
  obtain ⟨tb, hb, fb⟩ := hb
  refine ⟨_, pw_or ha hb, fun α ρ S σ H Q wd sl q => fa α ρ S σ H _ wd sl (q.bind fun u p S1 α1 H1 e1 x1 w1 d1 q1 => ?_)⟩
  cases d1
  cases u with
  | true => rw [if_pos rfl] at q1 ⊢; exact (q1.shift x1).here w1 rfl
  | false => rw [if_neg Bool.false_ne_true] at q1 ⊢; exact fb α1 ρ S1 σ H1 _ w1 (sl.ext x1) (q1.shift x1)
theorem wm_pt (h : PWm X W a tf) : PTm X W a tf := let ⟨t, h, k⟩ := h; ⟨t, h.pt, k⟩
theorem tm_not (ha : PTm X W a tf) : PTm X W (.UnaryOp .Not a pos) (fun ρ S => (tf ρ S).bind fun k S1 => .ok (!k) S1) := by
  obtain ⟨ta, ha, fa⟩ := ha
  refine ⟨_, pt_not ha, fun α ρ S σ H Q wd sl q => fa α ρ S σ H _ wd sl (q.bind fun u p S1 α1 H1 e1 x1 w1 d1 q1 => ?_)⟩
  cases d1
  exact (q1.shift x1).here w1 rfl
end

/-! ### arguments -/
section
variable {K : PySem.W.Frag} {H0 : Hp}
/-- lists just made enter the store -/
def enterA : List Er → Sto → List MV × Sto
  | [], S => ([], S)
  | .val d :: rs, S => ((d :: (enterA rs S).1), (enterA rs S).2)
  | .new xs :: rs, S => ((.loc S.length :: (enterA rs (S ++ [.lst xs])).1), (enterA rs (S ++ [.lst xs])).2)
theorem ArgsE.grow {H0 : Hp} {α : List Addr} {H : Hp} {b : Addr} {rs : List Er} {vs : List V} (q : ArgsE K H0 α H rs vs) (n : b ∉ newsA rs vs) : ArgsE K H0 (α ++ [b]) H rs vs := by
  induction q with
  | nil => exact .nil
  | @cons r v rs vs a m l ih =>
    cases r with
    | val d => exact .cons ⟨Den.ex0 (Ex0.grow α [b] H) a.1, trivial⟩ m (ih (by simpa [newsA] using n))
    | new ds =>
      obtain ⟨⟨c, us, rfl, h1, h2, h3⟩, h4⟩ := a
      have n' : b ∉ c :: newsA rs vs := n
      refine .cons ⟨⟨c, us, rfl, h1, fun z => ?_, h3.ex0 (Ex0.grow α [b] H)⟩, h4⟩ m (ih fun z => n' (List.mem_cons_of_mem _ z))
      rcases List.mem_append.mp z with z | z
      · exact h2 z
      · exact n' (by rw [List.mem_singleton.mp z]; exact List.mem_cons_self)
theorem enter_ok {g : Gm} {H0 : Hp} {α0 : List Addr} {H : Hp} : ∀ {rs : List Er} {vs : List V} {α : List Addr} {S : Sto}, Wd g α S H → Ext α0 H0 α H → ArgsE g.K H0 α H rs vs →
    ∃ α', Ext α0 H0 α' H ∧ Ex0 α H α' H ∧ Wd g α' (enterA rs S).2 H ∧ DenL g.K α' H (enterA rs S).1 vs
  | _, _, α, S, w, x, .nil => ⟨α, x, ⟨⟨[], by simp⟩, fun _ _ h => h, fun _ _ _ h => h⟩, w, denl_nil⟩
  | .val d :: rs, v :: vs, α, S, w, x, .cons a n l => by
    obtain ⟨α', x', y', w', l'⟩ := enter_ok w x l
    exact ⟨α', x', y', w', denl_cons (Den.ex0 y' a.1) l'⟩
  | .new ds :: rs, v :: vs, α, S, w, x, .cons a n l => by
    obtain ⟨⟨c, us, rfl, h1, h2, h3⟩, h4⟩ := a
    obtain ⟨α', x', y', w', l'⟩ := enter_ok (w.enter h1 h2 h3) (w.enterx x (h4 c rfl) h2) (l.grow (n ds c rfl rfl))
    refine ⟨α', x', ⟨?_, y'.tup, y'.frz⟩, w', denl_cons (den_loc (y'.at ?_)) l'⟩
    · obtain ⟨t, e⟩ := y'.pre
      exact ⟨[c] ++ t, by rw [e, List.append_assoc]⟩
    · rw [← w.len, List.getElem?_append_right (Nat.le_refl _), Nat.sub_self]; rfl
theorem enter_len : ∀ (rs : List Er) (S : Sto), (enterA rs S).1.length = rs.length
  | [], S => rfl
  | .val d :: rs, S => by show (d :: (enterA rs S).1).length = _; rw [List.length_cons, enter_len rs S]; rfl
  | .new ds :: rs, S => by show (_ :: (enterA rs _).1).length = _; rw [List.length_cons, enter_len rs _]; rfl
end
section
variable {X : Cx} {W : XW} {a b c e : Expr} {es : List Expr} {f g h : Rho → Sto → R Er} {tf tg : Rho → Sto → R Bool} {af : Rho → Sto → R (List Er)} {pos : Pos}
theorem am_nil : PAm X W [] (fun _ S => .ok [] S) := ⟨_, pa_nil, fun α ρ S σ H Q wd sl q => q.here wd .nil⟩
theorem am_cons (ha : PEm X W a f) (hr : PAm X W es af) (hs : starEach (a :: es) X.env = (false, eval a X.env) :: starEach es X.env := by rfl) : PAm X W (a :: es) (fun ρ S => (f ρ S).bind fun p S1 => (af ρ S1).bind fun ps S2 => .ok (p :: ps) S2) := by
  obtain ⟨ta, ha, fa⟩ := ha
  obtain ⟨tr, hr, fr⟩ := hr
  refine ⟨_, pa_cons ha hr hs, fun α ρ S σ H Q wd sl q => fa α ρ S σ H _ wd sl (q.bind fun u p S1 α1 H1 e1 x1 w1 d1 q1 => fr α1 ρ S1 σ H1 _ w1 (sl.ext x1) ?_)⟩
  have q1' : Post X.g W α H ((af ρ S1).bind fun ps S2 => .ok (p :: ps) S2) Q := q1
  cases z : af ρ S1 with
  | ok ps S2 =>
    rw [z] at q1'
    intro vs α2 H2 x2 w2 d2
    refine q1' (u :: vs) α2 H2 (x1.trans x2) w2 (ArgsE.cons (DenE.ext x2 d1) (fun ds b er eu hb => ?_) (ArgsE.back (fun b h => x1.free h) d2))
    subst er eu
    obtain ⟨⟨c, us, ec, h1, _⟩, _⟩ := d1
    cases ec
    have := ArgsE.nones d2 _ hb
    rw [h1] at this; cases this
  | exc c fs S2 => rw [z] at q1'; exact fun α2 H2 x2 w2 => q1' α2 H2 (x1.trans x2) w2
  | no => rw [z] at q1'; exact q1'
def tupF (rs : List Er) (S : Sto) : R Er := if rs.length ≤ sizeLine then .ok (.val (.tup (enterA rs S).1)) (enterA rs S).2 else .no
def lstF (rs : List Er) (S : Sto) : R Er := if rs.length ≤ sizeLine then .ok (.new (enterA rs S).1) (enterA rs S).2 else .no
theorem pm_tup {x1} (h : PAm X W es af) : PEm X W (.Tuple es x1 pos) (fun ρ S => (af ρ S).bind tupF) := by
  obtain ⟨t, h, k⟩ := h
  refine ⟨_, pe_tup h, fun α ρ S σ H Q wd sl q => k α ρ S σ H _ wd sl (q.bind fun vs rs S1 α1 H1 e1 x1 w1 d1 q1 => ?_)⟩
  have q1' : Post X.g W α H (if rs.length ≤ sizeLine then R.ok (Er.val (.tup (enterA rs S1).1)) (enterA rs S1).2 else R.no) Q := q1
  split at q1'
  · rename_i hz
    obtain ⟨α2, x2, y2, w2, l2⟩ := enter_ok w1 x1 d1
    exact ⟨by rw [ArgsE.length d1]; exact hz, fun p hp => (q1'.shift x2).newt w2 hp l2⟩
  · exact q1'.elim
theorem pm_lst (h : PAm X W es af) : PEm X W (.List es pos) (fun ρ S => (af ρ S).bind lstF) := by
  obtain ⟨t, h, k⟩ := h
  refine ⟨_, pe_lst h, fun α ρ S σ H Q wd sl q => k α ρ S σ H _ wd sl (q.bind fun vs rs S1 α1 H1 e1 x1 w1 d1 q1 => ?_)⟩
  have q1' : Post X.g W α H (if rs.length ≤ sizeLine then R.ok (Er.new (enterA rs S1).1) (enterA rs S1).2 else R.no) Q := q1
  split at q1'
  · rename_i hz
    obtain ⟨α2, x2, y2, w2, l2⟩ := enter_ok w1 x1 d1
    exact ⟨by rw [ArgsE.length d1]; exact hz, fun p hp => (q1'.shift x2).newl w2 hp l2⟩
  · exact q1'.elim

/-! ### calls of builtins, methods -/
inductive ArgsX (K : PySem.W.Frag) (α : List Addr) (H : Hp) : List Er → List V → Prop
  | nil : ArgsX K α H [] []
  | cons {r v rs vs} : DenX K α H r v → ArgsX K α H rs vs → ArgsX K α H (r :: rs) (v :: vs)
theorem ArgsE.x {K : PySem.W.Frag} {H0 : Hp} {α : List Addr} {H : Hp} : ∀ {rs vs}, ArgsE K H0 α H rs vs → ArgsX K α H rs vs
  | _, _, .nil => .nil
  | _, _, .cons a _ l => .cons a.1 (ArgsE.x l)
def CallM (X : Cx) (W : XW) (r : List V → Hp → VK → Prop) (F : List Er → Sto → R Er) : Prop := ∀ rs vs α S H Q, Wd X.g α S H → ArgsX X.K α H rs vs → Post X.g W α H (F rs S) Q → r vs H Q
theorem pm_callB {id : String} {r : List V → Hp → VK → Prop} {F : List Er → Sto → R Er} {x : Str} {p : Pos} (hc : CallR X (.builtin id) r) (hF : CallM X W r F) (hg : Gl X x) (hm : X.mg x = none) (hv : bootBuiltins x = some (.builtin id)) (ha : PAm X W (e :: es) af)
    (hn : x ≠ "__name__" := by decide) (hdb : (x == ("__debug__" : Str)) = false := by decide)
    (he : starEach (e :: es) X.env = (false, eval e X.env) :: starEach es X.env := by rfl) (hpl : (backTo pos (starEach es X.env)).any (·.1) = false := by rfl) : PEm X W (.Call (.Name x p) (e :: es) [] pos) (fun ρ S => (af ρ S).bind F) := by
  obtain ⟨t, ha, k⟩ := ha
  exact ⟨_, pe_callB hc hg hm hv ha hn hdb he hpl, fun α ρ S σ H Q wd sl q => k α ρ S σ H _ wd sl (q.bind fun vs rs S1 α1 H1 e1 x1 w1 d1 q1 => hF rs vs α1 S1 H1 Q w1 (ArgsE.x d1) (q1.shift x1))⟩
theorem pm_callTy {T : String} {r : List V → Hp → VK → Prop} {F : List Er → Sto → R Er} {x : Str} {p : Pos} (hc : CallR X (.type T) r) (hF : CallM X W r F) (hg : Gl X x) (hm : X.mg x = none) (hv : bootBuiltins x = some (.type T)) (ha : PAm X W (e :: es) af)
    (hn : x ≠ "__name__" := by decide) (hdb : (x == ("__debug__" : Str)) = false := by decide)
    (he : starEach (e :: es) X.env = (false, eval e X.env) :: starEach es X.env := by rfl) (hpl : (backTo pos (starEach es X.env)).any (·.1) = false := by rfl) : PEm X W (.Call (.Name x p) (e :: es) [] pos) (fun ρ S => (af ρ S).bind F) := by
  obtain ⟨t, ha, k⟩ := ha
  exact ⟨_, pe_callTy hc hg hm hv ha hn hdb he hpl, fun α ρ S σ H Q wd sl q => k α ρ S σ H _ wd sl (q.bind fun vs rs S1 α1 H1 e1 x1 w1 d1 q1 => hF rs vs α1 S1 H1 Q w1 (ArgsE.x d1) (q1.shift x1))⟩
/-- o.m(..) of a builtin's: tyF tells the receiver's type -/
def MtdM (X : Cx) (W : XW) (r : V → List V → Hp → VK → Prop) (F : Er → List Er → Sto → R Er) : Prop := ∀ p rs x vs α S H0 H Q α0, Wd X.g α S H → Ext α0 H0 α H → DenX X.K α H p x → ArgsE X.K H0 α H rs vs → Post X.g W α0 H0 (F p rs S) Q → r x vs H Q
def TyM (X : Cx) (T : String) (ty : Er → Sto → Bool) : Prop := ∀ p x α S H, Wd X.g α S H → DenX X.K α H p x → ty p S = true → tyV X.K T x H
theorem pm_meth {T : String} {name : Str} {id : String} {r : V → List V → Hp → VK → Prop} {F : Er → List Er → Sto → R Er} {ty : Er → Sto → Bool} {apos : Pos} (pa : PlainAttrs T) (slot : Slot T name id) (hty : typeOf (.builtin id) = pure (.type "method_descriptor")) (hm : MtR X id r) (hF : MtdM X W r F) (hT : TyM X T ty)
    (ho : PEm X W a f) (ha : PAm X W (e :: es) af)
    (hbase : attributeBase a name X.env (eval a X.env) = eval a X.env := by rfl)
    (hfew : ((backTo pos (starEach (e :: es) X.env)).all (fun x => !x.1) && (backToKw pos (keywordEach [] X.env)).all (fun x => x.1.isSome)
      && decide ((e :: es).length + ([] : List Keyword).length + (if ([] : List Keyword).isEmpty then 0 else 1) < 30)) = true := by rfl)
    (hline : (apos.endLine == pos.line) = true := by rfl) (hs : starEach (e :: es) X.env = (false, eval e X.env) :: starEach es X.env := by rfl) (hplain : (backTo pos (starEach es X.env)).any (·.1) = false := by rfl) :
    PEm X W (.Call (.Attribute a name apos) (e :: es) [] pos) (fun ρ S => (f ρ S).bind fun p S1 => if ty p S1 = true then (af ρ S1).bind fun rs S2 => F p rs S2 else .no) := by
  obtain ⟨to, ho, fo⟩ := ho
  obtain ⟨t, ha, k⟩ := ha
  refine ⟨_, pe_bm pa slot hty hm ho ha hbase hfew hline hs hplain, fun α ρ S σ H Q wd sl q => fo α ρ S σ H _ wd sl (q.bind fun u p S1 α1 H1 e1 x1 w1 d1 q1 => ?_)⟩
  split at q1
  · rename_i hz
    exact ⟨hT p u α1 S1 H1 w1 d1.1 hz, k α1 ρ S1 σ H1 _ w1 (sl.ext x1) ((q1.shift x1).bind fun vs rs S2 α2 H2 e2 x2 w2 d2 q2 => hF p rs u vs α2 S2 H1 H2 Q α1 w2 x2 (d1.1.ext x2) d2 q2)⟩
  · exact q1.elim
theorem pm_meth0 {T : String} {name : Str} {id : String} {r : V → List V → Hp → VK → Prop} {F : Er → List Er → Sto → R Er} {ty : Er → Sto → Bool} {apos : Pos} (pa : PlainAttrs T) (slot : Slot T name id) (hty : typeOf (.builtin id) = pure (.type "method_descriptor")) (hm : MtR X id r) (hF : MtdM X W r F) (hT : TyM X T ty)
    (ho : PEm X W a f) (hbase : attributeBase a name X.env (eval a X.env) = eval a X.env := by rfl) (hline : (apos.endLine == pos.line) = true := by rfl) :
    PEm X W (.Call (.Attribute a name apos) [] [] pos) (fun ρ S => (f ρ S).bind fun p S1 => if ty p S1 = true then F p [] S1 else .no) := by
  obtain ⟨to, ho, fo⟩ := ho
  refine ⟨_, pe_bm0 pa slot hty hm ho hbase hline, fun α ρ S σ H Q wd sl q => fo α ρ S σ H _ wd sl (q.bind fun u p S1 α1 H1 e1 x1 w1 d1 q1 => ?_)⟩
  split at q1
  · rename_i hz
    exact ⟨hT p u α1 S1 H1 w1 d1.1 hz, hF p [] u [] α1 S1 H1 H1 Q α1 w1 (Ext.refl _ _) d1.1 .nil (q1.shift x1)⟩
  · exact q1.elim

/-! ### slices -/
theorem om_none : POm X W none (fun _ S => .ok none S) := ⟨_, po_none, fun α ρ S σ H Q wd sl q => q.here wd rfl⟩
def asI : Er → Sto → R (Option Int)
  | .val (.int i), S => .ok (some i) S
  | _, _ => .no
theorem om_some (ha : PEm X W a f) : POm X W (some a) (fun ρ S => (f ρ S).bind asI) := by
  obtain ⟨ta, ha, fa⟩ := ha
  refine ⟨_, po_some ha, fun α ρ S σ H Q wd sl q => fa α ρ S σ H _ wd sl (q.bind fun u p S1 α1 H1 e1 x1 w1 d1 q1 => ?_)⟩
  unfold asI at q1
  split at q1
  · exact ⟨_, xe_int d1.1, (q1.shift x1).here w1 rfl⟩
  · exact q1.elim
def Sl3 (X : Cx) (W : XW) (r : V → Option Int → Option Int → Hp → VK → Prop) (F : Er → Option Int → Option Int → Sto → R Er) : Prop := ∀ p lo hi x α S H Q, Wd X.g α S H → DenX X.K α H p x → Post X.g W α H (F p lo hi S) Q → r x lo hi H Q
theorem pm_slice {lo hi : Option Expr} {r : V → Option Int → Option Int → Hp → VK → Prop} {F : Er → Option Int → Option Int → Sto → R Er} {lf hf : Rho → Sto → R (Option Int)} {p2 : Pos} (hr : SlR X r) (hF : Sl3 X W r F) (ha : PEm X W a f) (hl : POm X W lo lf) (hh : POm X W hi hf) :
    PEm X W (.Subscript a (.Slice lo hi none p2) pos) (fun ρ S => (f ρ S).bind fun p S1 => (lf ρ S1).bind fun l S2 => (hf ρ S2).bind fun u S3 => F p l u S3) := by
  obtain ⟨ta, ha, fa⟩ := ha
  obtain ⟨tl, hl, fl⟩ := hl
  obtain ⟨th, hh, fh⟩ := hh
  refine ⟨_, pe_slice hr ha hl hh, fun α ρ S σ H Q wd sl q => fa α ρ S σ H _ wd sl (q.bind fun u p S1 α1 H1 e1 x1 w1 d1 q1 => fl α1 ρ S1 σ H1 _ w1 (sl.ext x1) ((q1.shift x1).bind fun u2 l S2 α2 H2 e2 x2 w2 d2 q2 =>
    fh α2 ρ S2 σ H2 _ w2 ((sl.ext x1).ext x2) ((q2.shift x2).bind fun u3 m S3 α3 H3 e3 x3 w3 d3 q3 => ?_)))⟩
  cases d2
  cases d3
  exact hF p u2 u3 u α3 S3 H3 Q w3 ((d1.1.ext x2).ext x3) (q3.shift x3)
end
end M
end L2

namespace L2
namespace M
open PySem PySem.Spec PyProof.Rows

/-! ## statements -/
inductive Fl where
  | next (ρ : Rho) | ret (r : Er) | brk (ρ : Rho) | cont (ρ : Rho)
def PostS (g : Gm) (W : XW) (α : List Addr) (H : Hp) (D : Ends) : R Fl → Prop
  | .ok (.next ρ) S => ∀ σ α' H', Ext α H α' H' → Wd g α' S H' → Slots g.K α' H' ρ σ → D.nx σ H'
  | .ok (.ret r) S => ∀ v α' H', Ext α H α' H' → Wd g α' S H' → DenE g.K H α' H' r v → D.rt v H'
  | .ok (.brk ρ) S => ∀ σ α' H', Ext α H α' H' → Wd g α' S H' → Slots g.K α' H' ρ σ → D.bk σ H'
  | .ok (.cont ρ) S => ∀ σ α' H', Ext α H α' H' → Wd g α' S H' → Slots g.K α' H' ρ σ → D.ct σ H'
  | .exc c fs S => ∀ α' H', Ext α H α' H' → Wd g α' S H' → W c fs S α' H'
  | .no => False
section
variable {g : Gm} {W : XW} {α α' : List Addr} {H H' : Hp} {D D' : Ends}
theorem PostS.shift (x : Ext α H α' H') : ∀ {m : R Fl}, PostS g W α H D m → PostS g W α' H' D m
  | .ok (.next ρ) S, q => fun σ α2 H2 x2 w2 s2 => q σ α2 H2 (x.trans x2) w2 s2
  | .ok (.ret r) S, q => fun v α2 H2 x2 w2 d2 => q v α2 H2 (x.trans x2) w2 (d2.back fun b h => x.free h)
  | .ok (.brk ρ) S, q => fun σ α2 H2 x2 w2 s2 => q σ α2 H2 (x.trans x2) w2 s2
  | .ok (.cont ρ) S, q => fun σ α2 H2 x2 w2 s2 => q σ α2 H2 (x.trans x2) w2 s2
  | .exc c fs S, q => fun α2 H2 x2 w2 => q α2 H2 (x.trans x2) w2
  | .no, q => q
/-- an expression first -/
theorem PostS.expr {β τ : Type} [Dn β τ] {m : R β} {k : β → Sto → R Fl} {Q' : τ → Hp → Prop} (q : PostS g W α H D (m.bind k))
    (f : ∀ u b S1 α1 H1, m = .ok b S1 → Ext α H α1 H1 → Wd g α1 S1 H1 → Dn.d g H α1 S1 H1 b u → PostS g W α H D (k b S1) → Q' u H1) : Post g W α H m Q' := by
  cases m with
  | ok b S => exact fun u α1 H1 x w d => f u b S α1 H1 rfl x w d q
  | exc c fs S => exact q
  | no => exact q
/-- a statement first: what the body hands on -/
theorem PostS.stmt {m : R Fl} {k : Fl → Sto → R Fl} (q : PostS g W α H D (m.bind k))
    (hn : ∀ ρ S σ α1 H1, m = .ok (.next ρ) S → Ext α H α1 H1 → Wd g α1 S H1 → Slots g.K α1 H1 ρ σ → PostS g W α H D (k (.next ρ) S) → D'.nx σ H1)
    (hr : ∀ r S v α1 H1, m = .ok (.ret r) S → Ext α H α1 H1 → Wd g α1 S H1 → DenE g.K H α1 H1 r v → PostS g W α H D (k (.ret r) S) → D'.rt v H1)
    (hb : ∀ ρ S σ α1 H1, m = .ok (.brk ρ) S → Ext α H α1 H1 → Wd g α1 S H1 → Slots g.K α1 H1 ρ σ → PostS g W α H D (k (.brk ρ) S) → D'.bk σ H1)
    (hc : ∀ ρ S σ α1 H1, m = .ok (.cont ρ) S → Ext α H α1 H1 → Wd g α1 S H1 → Slots g.K α1 H1 ρ σ → PostS g W α H D (k (.cont ρ) S) → D'.ct σ H1) : PostS g W α H D' m := by
  cases m with
  | ok fl S =>
    cases fl with
    | next ρ => exact fun σ α1 H1 x w s => hn ρ S σ α1 H1 rfl x w s q
    | ret r => exact fun v α1 H1 x w d => hr r S v α1 H1 rfl x w d q
    | brk ρ => exact fun σ α1 H1 x w s => hb ρ S σ α1 H1 rfl x w s q
    | cont ρ => exact fun σ α1 H1 x w s => hc ρ S σ α1 H1 rfl x w s q
  | exc c fs S => exact q
  | no => exact q
end
def PSm (X : Cx) (W : XW) (st : Stmt) (F : Rho → Sto → R Fl) : Prop :=
  ∃ t, PS X st t ∧ ∀ α ρ S σ H D, Wd X.g α S H → Slots X.K α H ρ σ → PostS X.g W α H D (F ρ S) → t D σ H
def PSsm (X : Cx) (W : XW) (st : List Stmt) (F : Rho → Sto → R Fl) : Prop :=
  ∃ t, PSs X st t ∧ ∀ α ρ S σ H D, Wd X.g α S H → Slots X.K α H ρ σ → PostS X.g W α H D (F ρ S) → t D σ H
def seqF (F G : Rho → Sto → R Fl) : Rho → Sto → R Fl := fun ρ S => (F ρ S).bind fun fl S1 => match fl with
  | .next ρ' => G ρ' S1
  | .ret r => .ok (.ret r) S1
  | .brk ρ' => .ok (.brk ρ') S1
  | .cont ρ' => .ok (.cont ρ') S1

section
variable {X : Cx} {W : XW} {st : Stmt} {sts as bs : List Stmt} {F G : Rho → Sto → R Fl} {f g : Rho → Sto → R Er} {tf : Rho → Sto → R Bool} {e c : Expr} {pos : Pos}
theorem sm_nil : PSsm X W [] (fun ρ S => .ok (.next ρ) S) := ⟨_, pss_nil, fun α ρ S σ H D wd sl q => q σ α H (Ext.refl α H) wd sl⟩
theorem sm_one (h : PSm X W st F) : PSsm X W [st] F := let ⟨t, h, k⟩ := h; ⟨t, pss_one h, k⟩
theorem sm_cons (h1 : PSm X W st F) (h2 : PSsm X W sts G) : PSsm X W (st :: sts) (seqF F G) := by
  obtain ⟨t, h1, k1⟩ := h1
  obtain ⟨u, h2, k2⟩ := h2
  refine ⟨_, pss_cons h1 h2, fun α ρ S σ H D wd sl q => k1 α ρ S σ H _ wd sl (q.stmt ?_ ?_ ?_ ?_)⟩
  · intro ρ1 S1 σ1 α1 H1 e x1 w1 s1 q1
    exact k2 α1 ρ1 S1 σ1 H1 D w1 s1 (PostS.shift x1 q1)
  · intro r S1 v α1 H1 e x1 w1 d1 q1
    exact q1 v α1 H1 x1 w1 d1
  · intro ρ1 S1 σ1 α1 H1 e x1 w1 s1 q1
    exact q1 σ1 α1 H1 x1 w1 s1
  · intro ρ1 S1 σ1 α1 H1 e x1 w1 s1 q1
    exact q1 σ1 α1 H1 x1 w1 s1
theorem sm_ret (he : PEm X W e f) : PSm X W (.Return (some e) pos) (fun ρ S => (f ρ S).bind fun r S1 => .ok (.ret r) S1) := by
  obtain ⟨t, he, k⟩ := he
  exact ⟨_, ps_ret he, fun α ρ S σ H D wd sl q => k α ρ S σ H _ wd sl (q.expr fun u r S1 α1 H1 e x1 w1 d1 q1 => q1 u α1 H1 x1 w1 d1)⟩
theorem sm_retN : PSm X W (.Return none pos) (fun ρ S => .ok (.ret (.val .non)) S) := ⟨_, ps_retN, fun α ρ S σ H D wd sl q => q .non α H (Ext.refl α H) wd (DenE.val den_non)⟩
theorem sm_pass : PSm X W (.Pass pos) (fun ρ S => .ok (.next ρ) S) := ⟨_, ps_pass, fun α ρ S σ H D wd sl q => q σ α H (Ext.refl α H) wd sl⟩
theorem sm_break : PSm X W (.Break pos) (fun ρ S => .ok (.brk ρ) S) := ⟨_, ps_break, fun α ρ S σ H D wd sl q => q σ α H (Ext.refl α H) wd sl⟩
theorem sm_cont : PSm X W (.Continue pos) (fun ρ S => .ok (.cont ρ) S) := ⟨_, ps_continue, fun α ρ S σ H D wd sl q => q σ α H (Ext.refl α H) wd sl⟩
theorem sm_never : PSm X W st (fun _ _ => .no) := ⟨_, ps_never, fun α ρ S σ H D wd sl q => q.elim⟩
theorem sm_expr (he : PEm X W e f) (hs : swapsWith e none pos.line X.env = pure false := by rfl) : PSm X W (.Expr e pos) (fun ρ S => (f ρ S).bind fun _ S1 => .ok (.next ρ) S1) := by
  obtain ⟨t, he, k⟩ := he
  exact ⟨_, ps_expr he hs, fun α ρ S σ H D wd sl q => k α ρ S σ H _ wd sl (q.expr fun u r S1 α1 H1 e x1 w1 d1 q1 => q1 σ α1 H1 x1 w1 (sl.ext x1))⟩
theorem sm_if (hc : PTm X W c tf) (ha : PSsm X W as F) (hb : PSsm X W bs G) : PSm X W (.If c as bs pos) (fun ρ S => (tf ρ S).bind fun k S1 => if k = true then F ρ S1 else G ρ S1) := by
  obtain ⟨tc, hc, kc⟩ := hc
  obtain ⟨ta, ha, ka⟩ := ha
  obtain ⟨tb, hb, kb⟩ := hb
  refine ⟨_, ps_if hc ha hb, fun α ρ S σ H D wd sl q => kc α ρ S σ H _ wd sl (q.expr fun u p S1 α1 H1 e x1 w1 d1 q1 => ?_)⟩
  cases d1
  cases u with
  | true => rw [if_pos rfl] at q1 ⊢; exact ka α1 ρ S1 σ H1 D w1 (sl.ext x1) (PostS.shift x1 q1)
  | false => rw [if_neg Bool.false_ne_true] at q1 ⊢; exact kb α1 ρ S1 σ H1 D w1 (sl.ext x1) (PostS.shift x1 q1)

/-! ### targets -/
instance : Dn Rho St := ⟨fun g _ α' _ H' ρ σ => Slots g.K α' H' ρ σ, fun _ q => q⟩
def PGm (X : Cx) (W : XW) (tg : Expr) (gf : MV → Rho → Sto → R Rho) : Prop :=
  ∃ t, PG X tg t ∧ ∀ α ρ S σ H d v Q, Wd X.g α S H → Slots X.K α H ρ σ → Den X.K α H d v → Post X.g W α H (gf d ρ S) Q → t v σ H Q
def PGsm (X : Cx) (W : XW) (tgs : List Expr) (gf : List MV → Rho → Sto → R Rho) : Prop :=
  ∃ t, PGs X tgs t ∧ ∀ α ρ S σ H ds vs Q, Wd X.g α S H → Slots X.K α H ρ σ → DenL X.K α H ds vs → Post X.g W α H (gf ds ρ S) Q → t vs σ H Q
def gNm (i : Nat) : MV → Rho → Sto → R Rho := fun d ρ S => .ok (ρ.set i (some d)) S
theorem gm_name (i : Nat) {x : Str} (hN : X.N.Nodup) (hi : X.N[i]? = some x := by rfl) (hx : Loc X.env.scope x := by first | exact Or.inl rfl | exact Or.inr rfl) (hf : X.fn x = true ∨ X.env.scope.names.lookup x = some .local := by first | exact .inl rfl | exact .inr rfl | assumption) :
    PGm X W (.Name x pos) (gNm i) := ⟨_, pg_name hN hi hx hf, fun α ρ S σ H d v Q wd sl de q => Post.here (b := ρ.set i (some d)) q wd (sl.set de)⟩
def gsNil : List MV → Rho → Sto → R Rho
  | [], ρ, S => .ok ρ S
  | _, _, _ => .no
def gsCons (g1 : MV → Rho → Sto → R Rho) (g2 : List MV → Rho → Sto → R Rho) : List MV → Rho → Sto → R Rho
  | d :: ds, ρ, S => (g1 d ρ S).bind fun ρ1 S1 => g2 ds ρ1 S1
  | _, _, _ => .no
theorem gm_nil : PGsm X W [] gsNil := ⟨_, pgs_nil, fun α ρ S σ H ds vs Q wd sl de q => by
  cases ds with
  | nil => exact ⟨de.isnil, Post.here (b := ρ) q wd sl⟩
  | cons d ds => exact q.elim⟩
theorem gm_cons {es : List Expr} {g1 : MV → Rho → Sto → R Rho} {g2 : List MV → Rho → Sto → R Rho} (h1 : PGm X W e g1) (h2 : PGsm X W es g2) (hs : (assignEach (e :: es) X.env).map (·.2) = assign e X.env :: (assignEach es X.env).map (·.2) := by rfl) : PGsm X W (e :: es) (gsCons g1 g2) := by
  obtain ⟨t1, h1, k1⟩ := h1
  obtain ⟨t2, h2, k2⟩ := h2
  refine ⟨_, pgs_cons h1 h2 hs, fun α ρ S σ H ds vs Q wd sl de q => ?_⟩
  cases ds with
  | nil => exact q.elim
  | cons d ds =>
    obtain ⟨v, r, rfl, a, l⟩ := de.uncons
    refine ⟨v, r, rfl, k1 α ρ S σ H d v _ wd sl a (Post.bind q fun u p S1 α1 H1 e x1 w1 d1 q1 => k2 α1 p S1 u H1 ds r Q w1 d1 (l.ext x1) (q1.shift x1))⟩
def gTp (n : Nat) (g2 : List MV → Rho → Sto → R Rho) : MV → Rho → Sto → R Rho
  | .tup ds, ρ, S => if ds.length = n then g2 ds ρ S else .no
  | _, _, _ => .no
theorem gm_tup {es : List Expr} {k n : Nat} {g2 : List MV → Rho → Sto → R Rho} (hc : X.calm = true) (h : PGsm X W es g2)
    (hn : (assignEach es X.env).length = n := by rfl) (hst : (assignEach es X.env).findIdx? (·.1) = none := by rfl) : PGm X W (.Tuple es k pos) (gTp n g2) := by
  obtain ⟨t, h, k⟩ := h
  refine ⟨_, pg_tup hc h hn hst, fun α ρ S σ H d v Q wd sl de q => ?_⟩
  unfold gTp at q
  split at q
  · split at q
    · rename_i hl
      obtain ⟨a, vs, rfl, s, l⟩ := of_tup de
      exact ⟨a, vs, rfl, s, by rw [l.length]; exact hl, k α ρ S σ H _ vs Q wd sl l q⟩
    · exact q.elim
  · exact q.elim
/-- what is stored enters the store of lists, if it was just made -/
def enter1 (r : Er) (S : Sto) : R MV := match r with
  | .val d => .ok d S
  | .new ds => .ok (.loc S.length) (S ++ [.lst ds])
theorem enter1_ok {g : Gm} {H0 : Hp} {α0 α : List Addr} {H : Hp} {S : Sto} {r : Er} {v : V} (w : Wd g α S H) (x : Ext α0 H0 α H) (d : DenE g.K H0 α H r v) :
    ∃ d' S' α', enter1 r S = .ok d' S' ∧ Ext α0 H0 α' H ∧ Ex0 α H α' H ∧ Wd g α' S' H ∧ Den g.K α' H d' v := by
  cases r with
  | val d' => exact ⟨d', S, α, rfl, x, ⟨⟨[], by simp⟩, fun _ _ h => h, fun _ _ _ h => h⟩, w, d.1⟩
  | new ds =>
    obtain ⟨⟨c, us, rfl, h1, h2, h3⟩, h4⟩ := d
    exact ⟨.loc S.length, S ++ [.lst ds], α ++ [c], rfl, w.enterx x (h4 c rfl) h2, Ex0.grow α [c] H, w.enter h1 h2 h3, den_loc (by rw [← w.len, List.getElem?_append_right (Nat.le_refl _), Nat.sub_self]; rfl)⟩
def setF (ρ : Rho) (i : Nat) (r : Er) (S : Sto) : R Fl := (enter1 r S).bind fun d S1 => .ok (.next (ρ.set i (some d))) S1
theorem sm_set (i : Nat) {x : Str} {pos' : Pos} (hN : X.N.Nodup) (he : PEm X W e f) (hi : X.N[i]? = some x := by rfl) (hx : Loc X.env.scope x := by first | exact Or.inl rfl | exact Or.inr rfl)
    (hs : swapsWith e (some (.Name x pos')) pos.line X.env = pure false := by rfl) (hf : X.fn x = true ∨ X.env.scope.names.lookup x = some .local := by first | exact .inl rfl | exact .inr rfl | assumption) :
    PSm X W (.Assign [.Name x pos'] e pos) (fun ρ S => (f ρ S).bind (setF ρ i)) := by
  obtain ⟨t, he, k⟩ := he
  refine ⟨_, ps_set hN hi hx he hs hf, fun α ρ S σ H D wd sl q => k α ρ S σ H _ wd sl (q.expr fun u r S1 α1 H1 e x1 w1 d1 q1 => ?_)⟩
  obtain ⟨d', S', α', e1, x', y', w', de⟩ := enter1_ok w1 x1 d1
  unfold setF at q1
  rw [e1] at q1
  exact q1 _ α' H1 x' w' (((sl.ext x1).ex0 y').set de)
def asgF (gf : MV → Rho → Sto → R Rho) (ρ : Rho) (r : Er) (S : Sto) : R Fl := (enter1 r S).bind fun d S1 => (gf d ρ S1).bind fun ρ' S2 => .ok (.next ρ') S2
theorem sm_asg {tg : Expr} {gf : MV → Rho → Sto → R Rho} (he : PEm X W e f) (hg : PGm X W tg gf) (hs : swapsWithSole [tg] e pos.line X.env = pure false := by rfl) (hw : swappedStores [tg] e X.env = pure none := by rfl)
    (h1 : (assignEach [tg] X.env).map (·.2) = [assign tg X.env] := by rfl) : PSm X W (.Assign [tg] e pos) (fun ρ S => (f ρ S).bind (asgF gf ρ)) := by
  obtain ⟨t, he, k⟩ := he
  obtain ⟨tg', hg, kg⟩ := hg
  refine ⟨_, ps_asg he hg hs hw h1, fun α ρ S σ H D wd sl q => k α ρ S σ H _ wd sl (q.expr fun u r S1 α1 H1 e x1 w1 d1 q1 => ?_)⟩
  obtain ⟨d', S', α', e1, x', y', w', de⟩ := enter1_ok w1 x1 d1
  unfold asgF at q1
  rw [e1] at q1
  have q1 : PostS X.g W α H D ((gf d' ρ S').bind fun ρ' S2 => .ok (.next ρ') S2) := q1
  exact kg α' ρ S' σ H1 d' u _ w' ((sl.ext x1).ex0 y') de ((PostS.shift x' q1).expr fun σ2 ρ2 S2 α2 H2 e2 x2 w2 s2 q2 => q2 σ2 α2 H2 x2 w2 s2)

/-! ### what a loop walks -/
/-- what a walk gives: the items, and the lists of the store that must stay meanwhile -/
structure Wk where
  ds : List MV
  gs : List (Nat × List MV)
def stay (gs : List (Nat × List MV)) (S : Sto) : Prop := ∀ p ∈ gs, S[p.1]? = some (.lst p.2)
def ItM (g : Gm) (J : It) (P : List Addr → Sto → Hp → Prop) (ds : List MV) : Prop := ∀ i α S H, P α S H → Wd g α S H → (i < ds.length → J.go i H ∧ ∀ x H', J.yld i H x H' → Ext α H α H' ∧ Wd g α S H' ∧ P α S H' ∧ ∃ d, ds[i]? = some d ∧ Den g.K α H' d x) ∧ (ds.length ≤ i → J.stop i H)
structure WkD (g : Gm) (α : List Addr) (S : Sto) (H : Hp) (k : Wk) (J : It) (P : List Addr → Sto → Hp → Prop) : Prop where
  it : ItM g J P k.ds
  here : P α S H
  stays : ∀ α1 S1 H1 α2 S2 H2, P α1 S1 H1 → Ext α1 H1 α2 H2 → Wd g α2 S2 H2 → stay k.gs S2 → P α2 S2 H2
  st : stay k.gs S
instance : Dn Wk It := ⟨fun g _ α S H k J => ∃ P, WkD g α S H k J P, fun _ q => q⟩
abbrev PIm (X : Cx) (W : XW) (tg iter : Expr) (f : Rho → Sto → R Wk) : Prop := Jd X W (PI X tg iter) f
variable {tg iter : Expr}
theorem itm_list {a : Addr} {ds : List MV} : ItM X.g (Itl X.K a) (fun α S H => ∃ vs, SqL X.K H a vs ∧ DenL X.K α H ds vs) ds := by
  intro i α S H ⟨vs, s, l⟩ w
  have hl := l.length
  refine ⟨fun hi => ?_, fun hi => ⟨vs, s, by omega⟩⟩
  have hv : i < vs.length := by omega
  refine ⟨⟨vs, vs[i], s, List.getElem?_eq_getElem hv⟩, fun x H' y => ?_⟩
  obtain ⟨rfl, y⟩ := y
  obtain ⟨d, h1, h2⟩ := l.get (y vs s)
  exact ⟨Ext.refl _ _, w, ⟨vs, s, l⟩, d, h1, h2⟩
theorem itm_tup {a : Addr} {ds : List MV} : ItM X.g (Itt X.K a) (fun α S H => ∃ vs, SqT X.K H a vs ∧ DenL X.K α H ds vs) ds := by
  intro i α S H ⟨vs, s, l⟩ w
  have hl := l.length
  refine ⟨fun hi => ?_, fun hi => ⟨vs, s, by omega⟩⟩
  have hv : i < vs.length := by omega
  refine ⟨⟨vs, vs[i], s, List.getElem?_eq_getElem hv⟩, fun x H' y => ?_⟩
  obtain ⟨rfl, y⟩ := y
  obtain ⟨d, h1, h2⟩ := l.get (y vs s)
  exact ⟨Ext.refl _ _, w, ⟨vs, s, l⟩, d, h1, h2⟩
theorem itm_str {x : List Nat} : ItM X.g (Its x) (fun _ _ _ => True) (x.map fun c => .str [c]) := by
  intro i α S H _ w
  refine ⟨fun hi => ⟨show i < x.length by simpa using hi, fun v H' y => ?_⟩, fun hi => by show x.length ≤ i; simpa using hi⟩
  obtain ⟨rfl, c, h1, h2⟩ := y
  refine ⟨Ext.refl _ _, w, trivial, .str [c], by rw [List.getElem?_map, h1]; rfl, ?_⟩
  rw [h2]
  exact den_str [c]
theorem itm_range {lo : Int} {n : Nat} : ItM X.g (Itr lo n) (fun _ _ _ => True) ((List.range n).map fun k => .int (lo + (k : Nat))) := by
  intro i α S H _ w
  refine ⟨fun hi => ⟨show i < n by simpa using hi, fun v H' y => ?_⟩, fun hi => by show n ≤ i; simpa using hi⟩
  obtain ⟨rfl, y⟩ := y
  have hi' : i < n := by simpa using hi
  refine ⟨Ext.refl _ _, w, trivial, .int (lo + i), by rw [List.getElem?_map, List.getElem?_range hi']; rfl, ?_⟩
  rw [y]
  exact den_int _
def itL : Er → Sto → R Wk
  | .new ds, S => .ok ⟨ds, []⟩ S
  | .val (.scr ds), S => .ok ⟨ds, []⟩ S
  | .val (.loc l), S => match S[l]? with
    | some (.lst ds) => .ok ⟨ds, [(l, ds)]⟩ S
    | _ => .no
  | _, _ => .no
theorem stay_nil {S : Sto} : stay [] S := fun p h => by simp at h
/-- a list -/
theorem im_list (he : PEm X W iter f) : PIm X W tg iter (fun ρ S => (f ρ S).bind itL) := by
  obtain ⟨t, he, k⟩ := he
  refine ⟨_, pi_list he, fun α ρ S σ H Rc wd sl q => k α ρ S σ H _ wd sl (q.bind fun u p S1 α1 H1 e x1 w1 d1 q1 => ?_)⟩
  replace q1 := q1.shift x1
  unfold itL at q1
  split at q1
  · rename_i S0 ds
    obtain ⟨⟨b, vs, rfl, h1, h2, h3⟩, h4⟩ := d1
    refine ⟨b, rfl, ⟨vs, .of h1⟩, q1.here (u := Itl X.K b) w1 ⟨fun α2 S2 H2 => ∃ vs, SqL X.K H2 b vs ∧ DenL X.K α2 H2 ds vs ∧ H2 b = some (.lst vs) ∧ b ∉ α2, ?_, ⟨vs, .of h1, h3, h1, h2⟩, ?_, stay_nil⟩⟩
    · intro i α2 S2 H2 ⟨vs2, a1, a2, a3, a4⟩ w2
      obtain ⟨i1, i2⟩ := itm_list (X := X) (a := b) (ds := ds) i α2 S2 H2 ⟨vs2, a1, a2⟩ w2
      refine ⟨fun hi => ⟨(i1 hi).1, fun x H' y => ?_⟩, i2⟩
      obtain ⟨j1, j2, j3, j4⟩ := (i1 hi).2 x H' y
      obtain ⟨rfl, _⟩ := y
      exact ⟨j1, j2, ⟨vs2, a1, a2, a3, a4⟩, j4⟩
    · intro α2 S2 H2 α3 S3 H3 ⟨vs2, a1, a2, a3, a4⟩ x w3 _
      exact ⟨vs2, .of (x.keep b _ a3 a4), a2.ext x, x.keep b _ a3 a4, x.out a3 a4⟩
  · rename_i S0 ds
    obtain ⟨a, vs, rfl, s, l⟩ := xe_scr d1.1
    refine ⟨a, rfl, ⟨vs, s.l⟩, q1.here (u := Itl X.K a) w1 ⟨fun α2 S2 H2 => ∃ vs, SqL X.K H2 a vs ∧ DenL X.K α2 H2 ds vs ∧ SqF X.K H2 a vs, ?_, ⟨vs, s.l, l, s⟩, ?_, stay_nil⟩⟩
    · intro i α2 S2 H2 ⟨vs2, a1, a2, a3⟩ w2
      obtain ⟨i1, i2⟩ := itm_list (X := X) (a := a) (ds := ds) i α2 S2 H2 ⟨vs2, a1, a2⟩ w2
      refine ⟨fun hi => ⟨(i1 hi).1, fun x H' y => ?_⟩, i2⟩
      obtain ⟨j1, j2, j3, j4⟩ := (i1 hi).2 x H' y
      obtain ⟨rfl, _⟩ := y
      exact ⟨j1, j2, ⟨vs2, a1, a2, a3⟩, j4⟩
    · intro α2 S2 H2 α3 S3 H3 ⟨vs2, a1, a2, a3⟩ x w3 _
      exact ⟨vs2, (x.sqF a3).l, a2.ext x, x.sqF a3⟩
  · rename_i S0 n
    obtain ⟨a, rfl, h⟩ := xe_loc d1.1
    obtain ⟨o, h1, h2⟩ := w1.of h
    rw [h1] at q1
    cases o with
    | lst ds =>
      obtain ⟨vs, h3, l⟩ := h2
      refine ⟨a, rfl, ⟨vs, .of h3⟩, Post.here (b := (⟨ds, [(n, ds)]⟩ : Wk)) q1 (u := Itl X.K a) w1 ⟨fun α2 S2 H2 => ∃ vs, SqL X.K H2 a vs ∧ DenL X.K α2 H2 ds vs ∧ α2[n]? = some a, ?_, ⟨vs, .of h3, l, h⟩, ?_, ?_⟩⟩
      · intro i α2 S2 H2 ⟨vs2, a1, a2, a3⟩ w2
        obtain ⟨i1, i2⟩ := itm_list (X := X) (a := a) (ds := ds) i α2 S2 H2 ⟨vs2, a1, a2⟩ w2
        refine ⟨fun hi => ⟨(i1 hi).1, fun x H' y => ?_⟩, i2⟩
        obtain ⟨j1, j2, j3, j4⟩ := (i1 hi).2 x H' y
        obtain ⟨rfl, _⟩ := y
        exact ⟨j1, j2, ⟨vs2, a1, a2, a3⟩, j4⟩
      · intro α2 S2 H2 α3 S3 H3 ⟨vs2, a1, a2, a3⟩ x w3 hs
        have a3' := x.at a3
        have := w3.obj n a _ a3' (hs (n, ds) (by simp))
        obtain ⟨vs3, b1, b2⟩ := this
        exact ⟨vs3, .of b1, b2, a3'⟩
      · intro p hp
        have : p = (n, ds) := by simpa using hp
        subst this
        exact h1
    | dic ds => exact q1.elim
    | ins c fs => exact q1.elim
  · exact q1.elim
def itT : Er → Sto → R Wk
  | .val (.tup ds), S => .ok ⟨ds, []⟩ S
  | _, _ => .no
theorem im_tup (he : PEm X W iter f) : PIm X W tg iter (fun ρ S => (f ρ S).bind itT) := by
  obtain ⟨t, he, k⟩ := he
  refine ⟨_, pi_tup he, fun α ρ S σ H Rc wd sl q => k α ρ S σ H _ wd sl (q.bind fun u p S1 α1 H1 e x1 w1 d1 q1 => ?_)⟩
  replace q1 := q1.shift x1
  unfold itT at q1
  split at q1
  · rename_i S0 ds
    obtain ⟨a, vs, rfl, s, l⟩ := xe_tup d1.1
    exact ⟨a, rfl, ⟨vs, s⟩, q1.here (u := Itt X.K a) w1 ⟨_, itm_tup, ⟨vs, s, l⟩, fun α2 S2 H2 α3 S3 H3 ⟨vs2, a1, a2⟩ x w3 _ => ⟨vs2, x.sqT a1, a2.ext x⟩, stay_nil⟩⟩
  · exact q1.elim
def itS : Er → Sto → R Wk
  | .val (.str x), S => .ok ⟨x.map fun c => .str [c], []⟩ S
  | _, _ => .no
theorem im_str (he : PEm X W iter f) : PIm X W tg iter (fun ρ S => (f ρ S).bind itS) := by
  obtain ⟨t, he, k⟩ := he
  refine ⟨_, pi_str he, fun α ρ S σ H Rc wd sl q => k α ρ S σ H _ wd sl (q.bind fun u p S1 α1 H1 e x1 w1 d1 q1 => ?_)⟩
  replace q1 := q1.shift x1
  unfold itS at q1
  split at q1
  · rename_i S0 x
    exact ⟨x, xe_str d1.1, q1.here (u := Its x) w1 ⟨_, itm_str, trivial, fun _ _ _ _ _ _ _ _ _ _ => trivial, stay_nil⟩⟩
  · exact q1.elim
def rng1F : List Er → Sto → R Wk
  | [.val (.int j)], S => if -(2 ^ 62) ≤ j ∧ j < 2 ^ 62 then .ok ⟨(List.range j.toNat).map fun k => .int (k : Nat), []⟩ S else .no
  | _, _ => .no
def rng2F : List Er → Sto → R Wk
  | [.val (.int i), .val (.int j)], S => if -(2 ^ 62) ≤ i ∧ i < 2 ^ 62 ∧ -(2 ^ 62) ≤ j ∧ j < 2 ^ 62 then .ok ⟨(List.range (j - i).toNat).map fun k => .int (i + (k : Nat)), []⟩ S else .no
  | _, _ => .no
variable {af : Rho → Sto → R (List Er)} {p : Pos} {a b : Expr}
theorem args1 {K : PySem.W.Frag} {H0 : Hp} {α : List Addr} {H : Hp} {r : Er} {vs : List V} (d : ArgsE K H0 α H [r] vs) : ∃ v, vs = [v] ∧ DenX K α H r v := by
  cases d with
  | cons a n l => cases l; exact ⟨_, rfl, a.1⟩
theorem args2 {K : PySem.W.Frag} {H0 : Hp} {α : List Addr} {H : Hp} {r r' : Er} {vs : List V} (d : ArgsE K H0 α H [r, r'] vs) : ∃ v u, vs = [v, u] ∧ DenX K α H r v ∧ DenX K α H r' u := by
  cases d with
  | cons a n l => obtain ⟨u, rfl, l'⟩ := args1 l; exact ⟨_, u, rfl, a.1, l'⟩
theorem im_range1 (hg : Gl X "range") (hm : X.mg "range" = none) (ha : PAm X W [a] af) (hs : starEach [a] X.env = [(false, eval a X.env)] := by rfl) : PIm X W tg (.Call (.Name "range" p) [a] [] pos) (fun ρ S => (af ρ S).bind rng1F) := by
  obtain ⟨t, ha, k⟩ := ha
  refine ⟨_, pi_range1 hg hm ha hs, fun α ρ S σ H Rc wd sl q => k α ρ S σ H _ wd sl (q.bind fun vs rs S1 α1 H1 e x1 w1 d1 q1 => ?_)⟩
  replace q1 := q1.shift x1
  unfold rng1F at q1
  split at q1
  · split at q1
    · rename_i S0 j hj
      obtain ⟨v, rfl, dv⟩ := args1 d1
      cases xe_int dv
      have := itm_range (X := X) (lo := 0) (n := j.toNat)
      simp only [Int.zero_add] at this
      exact ⟨j, rfl, hj.1, hj.2, q1.here (u := Itr 0 j.toNat) w1 ⟨_, this, trivial, fun _ _ _ _ _ _ _ _ _ _ => trivial, stay_nil⟩⟩
    · exact q1.elim
  · exact q1.elim
theorem im_range2 (hg : Gl X "range") (hm : X.mg "range" = none) (ha : PAm X W [a, b] af) (hs : starEach [a, b] X.env = [(false, eval a X.env), (false, eval b X.env)] := by rfl) (hs2 : starEach [b] X.env = [(false, eval b X.env)] := by rfl) : PIm X W tg (.Call (.Name "range" p) [a, b] [] pos) (fun ρ S => (af ρ S).bind rng2F) := by
  obtain ⟨t, ha, k⟩ := ha
  refine ⟨_, pi_range2 hg hm ha hs hs2, fun α ρ S σ H Rc wd sl q => k α ρ S σ H _ wd sl (q.bind fun vs rs S1 α1 H1 e x1 w1 d1 q1 => ?_)⟩
  replace q1 := q1.shift x1
  unfold rng2F at q1
  split at q1
  · split at q1
    · rename_i S0 i j hj
      obtain ⟨v, u, rfl, dv, du⟩ := args2 d1
      cases xe_int dv
      cases xe_int du
      exact ⟨i, j, rfl, hj, q1.here (u := Itr i (j - i).toNat) w1 ⟨_, itm_range, trivial, fun _ _ _ _ _ _ _ _ _ _ => trivial, stay_nil⟩⟩
    · exact q1.elim
  · exact q1.elim

/-! ### for -/
open Classical in
noncomputable def forF (gf : MV → Rho → Sto → R Rho) (body : Rho → Sto → R Fl) (gs : List (Nat × List MV)) : List MV → Rho → Sto → R Fl
  | [], ρ, S => .ok (.next ρ) S
  | d :: ds, ρ, S => (gf d ρ S).bind fun ρ0 S0 => (body ρ0 S0).bind fun fl S1 => match fl with
    | .next ρ' => if stay gs S1 then forF gf body gs ds ρ' S1 else .no
    | .cont ρ' => if stay gs S1 then forF gf body gs ds ρ' S1 else .no
    | .brk ρ' => .ok (.next ρ') S1
    | .ret r => .ok (.ret r) S1
open Classical in
theorem sm_for {itf : Rho → Sto → R Wk} {gf : MV → Rho → Sto → R Rho} (hp : PassesOwn (model X.prog X.w) X.A X.env X.xe) (hc : X.calm = true) (hi : PIm X W tg iter itf) (hg : PGm X W tg gf) (hb : PSsm X W as F)
    (hs : ∀ y, foldedSetIterable iter X.env y = pure y := by intro _; rfl) : PSm X W (.For tg iter as [] pos) (fun ρ S => (itf ρ S).bind fun k S1 => forF gf F k.gs k.ds ρ S1) := by
  obtain ⟨wi, hi, ki⟩ := hi
  obtain ⟨tg', hg, kg⟩ := hg
  obtain ⟨tb, hb, kb⟩ := hb
  refine ⟨_, ps_for hp hc hi hg hb hs, fun α ρ S σ H D wd sl q => ki α ρ S σ H _ wd sl (q.expr fun J k S1 α1 H1 e x1 w1 d1 q1 => ?_)⟩
  obtain ⟨P, hP⟩ := d1
  have sl1 := sl.ext x1
  replace q1 := PostS.shift x1 q1
  refine ⟨fun n m σ2 H2 => m = k.ds.length - n ∧ n ≤ k.ds.length ∧ ∃ α2 ρ2 S2, Wd X.g α2 S2 H2 ∧ Slots X.K α2 H2 ρ2 σ2 ∧ P α2 S2 H2 ∧ PostS X.g W α2 H2 D (forF gf F k.gs (k.ds.drop n) ρ2 S2), ⟨_, rfl, Nat.zero_le _, α1, ρ, S1, w1, sl1, hP.here, by simpa using q1⟩, ?_⟩
  rintro n m σ2 H2 ⟨rfl, hn, α2, ρ2, S2, w2, sl2, p2, q2⟩
  obtain ⟨i1, i2⟩ := hP.it n α2 S2 H2 p2 w2
  by_cases hlt : n < k.ds.length
  · obtain ⟨go, yl⟩ := i1 hlt
    refine .inr ⟨go, fun σ3 H3 => ∃ α3 ρ3 S3, Wd X.g α3 S3 H3 ∧ Slots X.K α3 H3 ρ3 σ3 ∧ P α3 S3 H3 ∧ PostS X.g W α3 H3 D (forF gf F k.gs (k.ds.drop (n + 1)) ρ3 S3), fun σ3 H3 ⟨α3, ρ3, S3, h3⟩ => ⟨k.ds.length - (n + 1), by omega, rfl, hlt, α3, ρ3, S3, h3⟩, fun v H3 y => ?_⟩
    obtain ⟨x3, w3, p3, d, hd, dv⟩ := yl v H3 y
    have hdrop : k.ds.drop n = d :: k.ds.drop (n + 1) := by
      rw [List.drop_eq_getElem_cons hlt]
      have := List.getElem?_eq_getElem hlt
      rw [hd] at this
      rw [← Option.some.inj this]
    rw [hdrop] at q2
    unfold forF at q2
    replace q2 := PostS.shift x3 q2
    refine kg α2 ρ2 S2 σ2 H3 d v _ w3 (sl2.ext x3) dv (q2.expr fun σ4 ρ4 S4 α4 H4 e4 x4 w4 s4 q4 => ?_)
    have p4 : ∀ α5 S5 H5, Ext α4 H4 α5 H5 → Wd X.g α5 S5 H5 → stay k.gs S5 → P α5 S5 H5 := fun α5 S5 H5 x5 w5 s5 => hP.stays α2 S2 H3 α5 S5 H5 p3 (x4.trans x5) w5 s5
    refine kb α4 ρ4 S4 σ4 H4 _ w4 s4 ((PostS.shift x4 q4).stmt ?_ ?_ ?_ ?_)
    · intro ρ5 S5 σ5 α5 H5 e5 x5 w5 s5 q5
      have q5' : PostS X.g W α4 H4 D (if stay k.gs S5 then forF gf F k.gs (k.ds.drop (n + 1)) ρ5 S5 else .no) := q5
      split at q5'
      · rename_i hst
        exact ⟨α5, ρ5, S5, w5, s5, p4 α5 S5 H5 x5 w5 hst, PostS.shift x5 q5'⟩
      · exact q5'.elim
    · intro r S5 v5 α5 H5 e5 x5 w5 d5 q5
      exact q5 v5 α5 H5 x5 w5 d5
    · intro ρ5 S5 σ5 α5 H5 e5 x5 w5 s5 q5
      exact q5 σ5 α5 H5 x5 w5 s5
    · intro ρ5 S5 σ5 α5 H5 e5 x5 w5 s5 q5
      have q5' : PostS X.g W α4 H4 D (if stay k.gs S5 then forF gf F k.gs (k.ds.drop (n + 1)) ρ5 S5 else .no) := q5
      split at q5'
      · rename_i hst
        exact ⟨α5, ρ5, S5, w5, s5, p4 α5 S5 H5 x5 w5 hst, PostS.shift x5 q5'⟩
      · exact q5'.elim
  · have e : n = k.ds.length := by omega
    subst e
    refine .inl ⟨i2 (Nat.le_refl _), ?_⟩
    rw [List.drop_length] at q2
    exact q2 σ2 α2 H2 (Ext.refl _ _) w2 sl2

/-! ### while -/
def whileF (t : Rho → Sto → R Bool) (b : Rho → Sto → R Fl) : Nat → Rho → Sto → R Fl
  | 0, _, _ => .no
  | n + 1, ρ, S => (t ρ S).bind fun k S1 => if k = true then (b ρ S1).bind fun fl S2 => match fl with
      | .next ρ' => whileF t b n ρ' S2
      | .cont ρ' => whileF t b n ρ' S2
      | .brk ρ' => .ok (.next ρ') S2
      | .ret r => .ok (.ret r) S2
    else .ok (.next ρ) S1
theorem sm_while (N : Nat) (hp : PassesOwn (model X.prog X.w) X.A X.env X.xe) (hc : PTm X W c tf) (hb : PSsm X W as F) : PSm X W (.While c as [] pos) (fun ρ S => whileF tf F N ρ S) := by
  obtain ⟨tc, hc, kc⟩ := hc
  obtain ⟨tb, hb, kb⟩ := hb
  refine ⟨_, ps_while hp hc hb, fun α ρ S σ H D wd sl q => ⟨fun m σ1 H1 => ∃ α1 ρ1 S1, Wd X.g α1 S1 H1 ∧ Slots X.K α1 H1 ρ1 σ1 ∧ PostS X.g W α1 H1 D (whileF tf F m ρ1 S1), ⟨N, α, ρ, S, wd, sl, q⟩, ?_⟩⟩
  rintro m σ1 H1 ⟨α1, ρ1, S1, w1, sl1, q1⟩
  cases m with
  | zero => exact q1.elim
  | succ n =>
    unfold whileF at q1
    refine kc α1 ρ1 S1 σ1 H1 _ w1 sl1 (q1.expr fun u p S2 α2 H2 e2 x2 w2 d2 q2 => ?_)
    cases d2
    replace q2 := PostS.shift x2 q2
    cases u with
    | false => rw [if_neg Bool.false_ne_true] at q2 ⊢; exact q2 σ1 α2 H2 (Ext.refl _ _) w2 (sl1.ext x2)
    | true =>
      rw [if_pos rfl] at q2 ⊢
      refine ⟨fun σ3 H3 => ∃ α3 ρ3 S3, Wd X.g α3 S3 H3 ∧ Slots X.K α3 H3 ρ3 σ3 ∧ PostS X.g W α3 H3 D (whileF tf F n ρ3 S3), fun σ' H' h => ⟨n, Nat.lt_succ_self n, h⟩, kb α2 ρ1 S2 σ1 H2 _ w2 (sl1.ext x2) (q2.stmt ?_ ?_ ?_ ?_)⟩
      · intro ρ5 S5 σ5 α5 H5 e5 x5 w5 s5 q5
        exact ⟨α5, ρ5, S5, w5, s5, PostS.shift x5 q5⟩
      · intro r S5 v5 α5 H5 e5 x5 w5 d5 q5
        exact q5 v5 α5 H5 x5 w5 d5
      · intro ρ5 S5 σ5 α5 H5 e5 x5 w5 s5 q5
        exact q5 σ5 α5 H5 x5 w5 s5
      · intro ρ5 S5 σ5 α5 H5 e5 x5 w5 s5 q5
        exact ⟨α5, ρ5, S5, w5, s5, PostS.shift x5 q5⟩
end
end M
end L2

namespace L2
namespace M
open PySem PySem.Spec PyProof.Rows

/-! ## where nothing may raise -/
def noX {β : Type} : R β → R β
  | .ok b S => .ok b S
  | _ => .no
theorem noX_ok {β : Type} (b : β) (S : Sto) : noX (R.ok b S) = .ok b S := rfl
theorem Post.bindX {β τ γ υ : Type} [Dn β τ] [Dn γ υ] {g : Gm} {W : XW} {α : List Addr} {H : Hp} {m : R β} {k : β → Sto → R γ} {Q : υ → Hp → Prop} {Q' : τ → Hp → Prop} (q : Post g W α H ((noX m).bind k) Q)
    (f : ∀ u b S1 α1 H1, m = .ok b S1 → Ext α H α1 H1 → Wd g α1 S1 H1 → Dn.d g H α1 S1 H1 b u → Post g W α H (k b S1) Q → Q' u H1) : Post g W0 α H m Q' := by
  cases m with
  | ok b S => exact fun u α1 H1 x w d => f u b S α1 H1 rfl x w d q
  | exc c fs S => exact q.elim
  | no => exact q

theorem Post.bindY {β τ γ υ : Type} [Dn β τ] [Dn γ υ] {g : Gm} {W : XW} {α α' : List Addr} {H H' : Hp} (x : Ext α H α' H') {m : R β} {k : β → Sto → R γ} {Q : υ → Hp → Prop} {Q' : τ → Hp → Prop} (q : Post g W α H ((noX m).bind k) Q)
    (f : ∀ u b S1 α1 H1, m = .ok b S1 → Ext α' H' α1 H1 → Wd g α1 S1 H1 → Dn.d g H' α1 S1 H1 b u → Post g W α H (k b S1) Q → Q' u H1) : Post g W0 α' H' m Q' := by
  cases m with
  | ok b S => exact fun u α1 H1 x w d => f u b S α1 H1 rfl x w d q
  | exc c fs S => exact q.elim
  | no => exact q
theorem R.bind_assoc {β γ δ : Type} (m : R β) (k1 : β → Sto → R γ) (k2 : γ → Sto → R δ) : (m.bind k1).bind k2 = m.bind fun b S => (k1 b S).bind k2 := by cases m <;> rfl

/-! ## comprehensions -/
def blk (nt : Nat) (idx : List Nat) (ρ : Rho) : Rho := List.replicate nt none ++ idx.map fun i => (ρ[i]?).join
open Classical in
noncomputable def compF (gf : MV → Rho → Sto → R Rho) (cf : Rho → Sto → R Bool) (ef : Rho → Sto → R Er) (ρb : Rho) (gs : List (Nat × List MV)) : List MV → Sto → R (List MV)
  | [], S => .ok [] S
  | d :: ds, S => (noX (gf d ρb S)).bind fun ρ1 S0 => (noX (cf ρ1 S0)).bind fun k S1 =>
    if k = true then (noX (ef ρ1 S1)).bind fun r S2 => (enter1 r S2).bind fun y S3 => if stay gs S3 then (compF gf cf ef ρb gs ds S3).bind fun out S4 => .ok (y :: out) S4 else .no
    else if stay gs S1 then compF gf cf ef ρb gs ds S1 else .no
theorem slots_blk {K : PySem.W.Frag} {α : List Addr} {H : Hp} {ρ : Rho} {σ : St} (q : Slots K α H ρ σ) (nt : Nat) (idx : List Nat) (τ : St) (hτ : τ.length = nt) : Slots K α H (blk nt idx ρ) (τ ++ caps σ idx) := by
  refine ⟨by unfold blk; rw [List.length_append, List.length_append, caps_length, List.length_map, List.length_replicate, hτ], fun i d e => ?_⟩
  unfold blk at e
  by_cases hi : i < nt
  · rw [List.getElem?_append_left (by rw [List.length_replicate]; exact hi), List.getElem?_replicate] at e
    split at e <;> cases e
  · rw [List.getElem?_append_right (by rw [List.length_replicate]; omega), List.length_replicate, List.getElem?_map] at e
    cases z : idx[i - nt]? with
    | none => rw [z] at e; cases e
    | some k =>
      rw [z] at e
      have e2 : (ρ[k]?).join = some d := Option.some.inj e
      cases z2 : ρ[k]? with
      | none => rw [z2] at e2; cases e2
      | some o =>
        rw [z2] at e2
        have e3 : o = some d := e2
        subst e3
        obtain ⟨v, h1, h2⟩ := q.slot k d z2
        refine ⟨v, ?_, h2⟩
        rw [List.getElem?_append_right (by omega), hτ]
        unfold caps
        rw [List.getElem?_map, z]
        show some (σ[k]?).join = some (some v)
        rw [h1]; rfl
/-- targets that are names of the block's own -/
def Keeps (nt : Nat) (σ : St) (Q : St → Hp → Prop) : St → Hp → Prop := fun σ' H' => σ'.length = σ.length → (∀ j, nt ≤ j → σ'[j]? = σ[j]?) → Q σ' H'
def PGn (nt : Nat) (X : Cx) (W : XW) (tg : Expr) (gf : MV → Rho → Sto → R Rho) : Prop :=
  ∃ t, PG X tg t ∧ ∀ α ρ S σ H d v Q, Wd X.g α S H → Slots X.K α H ρ σ → Den X.K α H d v → Post X.g W α H (gf d ρ S) (Keeps nt σ Q) → t v σ H Q
def PGsn (nt : Nat) (X : Cx) (W : XW) (tgs : List Expr) (gf : List MV → Rho → Sto → R Rho) : Prop :=
  ∃ t, PGs X tgs t ∧ ∀ α ρ S σ H ds vs Q, Wd X.g α S H → Slots X.K α H ρ σ → DenL X.K α H ds vs → Post X.g W α H (gf ds ρ S) (Keeps nt σ Q) → t vs σ H Q
section
variable {X : Cx} {W : XW} {e : Expr} {pos : Pos} {nt : Nat}
theorem gn_name (i : Nat) {x : Str} (hN : X.N.Nodup) (hi : X.N[i]? = some x := by rfl) (hx : Loc X.env.scope x := by first | exact Or.inl rfl | exact Or.inr rfl) (hf : X.fn x = true ∨ X.env.scope.names.lookup x = some .local := by first | exact .inl rfl | exact .inr rfl | assumption) (hlt : i < nt := by decide) :
    PGn nt X W (.Name x pos) (gNm i) := ⟨_, pg_name hN hi hx hf, fun α ρ S σ H d v Q wd sl de q => Post.here (b := ρ.set i (some d)) q wd (sl.set de) (by rw [List.length_set]) fun j hj => by rw [List.getElem?_set_ne (by omega)]⟩
theorem gn_nil : PGsn nt X W [] gsNil := ⟨_, pgs_nil, fun α ρ S σ H ds vs Q wd sl de q => by
  cases ds with
  | nil => exact ⟨de.isnil, Post.here (b := ρ) q wd sl rfl fun _ _ => rfl⟩
  | cons d ds => exact q.elim⟩
theorem Post.keeps {g : Gm} {W : XW} {α : List Addr} {H : Hp} {m : R Rho} {σ σ1 : St} {Q : St → Hp → Prop} (h1 : σ1.length = σ.length) (h2 : ∀ j, nt ≤ j → σ1[j]? = σ[j]?) (q : Post g W α H m (Keeps nt σ Q)) : Post g W α H m (Keeps nt σ1 Q) := by
  cases m with
  | ok b S => exact fun u α1 H1 x w d k1 k2 => q u α1 H1 x w d (k1.trans h1) fun j hj => (k2 j hj).trans (h2 j hj)
  | exc c fs S => exact q
  | no => exact q
theorem gn_cons {es : List Expr} {g1 : MV → Rho → Sto → R Rho} {g2 : List MV → Rho → Sto → R Rho} (h1 : PGn nt X W e g1) (h2 : PGsn nt X W es g2) (hs : (assignEach (e :: es) X.env).map (·.2) = assign e X.env :: (assignEach es X.env).map (·.2) := by rfl) : PGsn nt X W (e :: es) (gsCons g1 g2) := by
  obtain ⟨t1, h1, k1⟩ := h1
  obtain ⟨t2, h2, k2⟩ := h2
  refine ⟨_, pgs_cons h1 h2 hs, fun α ρ S σ H ds vs Q wd sl de q => ?_⟩
  cases ds with
  | nil => exact q.elim
  | cons d ds =>
    obtain ⟨v, r, rfl, a, l⟩ := de.uncons
    refine ⟨v, r, rfl, k1 α ρ S σ H d v _ wd sl a (Post.bind q fun u p S1 α1 H1 e x1 w1 d1 q1 k1 k2' => k2 α1 p S1 u H1 ds r Q w1 d1 (l.ext x1) (Post.keeps k1 k2' (q1.shift x1)))⟩
theorem gn_tup {es : List Expr} {k n : Nat} {g2 : List MV → Rho → Sto → R Rho} (hc : X.calm = true) (h : PGsn nt X W es g2)
    (hn : (assignEach es X.env).length = n := by rfl) (hst : (assignEach es X.env).findIdx? (·.1) = none := by rfl) : PGn nt X W (.Tuple es k pos) (gTp n g2) := by
  obtain ⟨t, h, k⟩ := h
  refine ⟨_, pg_tup hc h hn hst, fun α ρ S σ H d v Q wd sl de q => ?_⟩
  unfold gTp at q
  split at q
  · split at q
    · rename_i hl
      obtain ⟨a, vs, rfl, s, l⟩ := of_tup de
      exact ⟨a, vs, rfl, s, by rw [l.length]; exact hl, k α ρ S σ H _ vs Q wd sl l q⟩
    · exact q.elim
  · exact q.elim
end
abbrev PIfm (X : Cx) (W : XW) (ifs : List Expr) (f : Rho → Sto → R Bool) : Prop := Jd X W (PIfs X ifs) f
section
variable {X : Cx} {W : XW} {iter : Expr} {c : Expr} {tf : Rho → Sto → R Bool} {pos : Pos}
theorem ifm_nil : PIfm X W [] (fun _ S => .ok true S) := ⟨_, pifs_nil, fun α ρ S σ H Q wd sl q => q.here wd rfl⟩
theorem ifm_one (h : PTm X W c tf) : PIfm X W [c] tf := let ⟨t, h, k⟩ := h; ⟨t, pifs_one h, k⟩
open Classical in
theorem cu_comp {elt tg : Expr} {ifs : List Expr} {sc : Scope} {itf : Rho → Sto → R Wk} {cf : Rho → Sto → R Bool} {ef : Rho → Sto → R Er} {gf : MV → Rho → Sto → R Rho} (osc : Scope) (N : List Str) (T : List Str) (idx : List Nat)
    (hi : PIm X W tg iter itf) (hcalm : X.calm = true)
    (hg : ∀ C s₂ H1 fp, ([] ++ T ++ idx.map fun i => (N[i]?).getD Str.empty).Nodup → PGn T.length (cxComp X sc T idx C s₂ H1 fp) W0 tg gf)
    (hc : ∀ C s₂ H1 fp, PIfm (cxComp X sc T idx C s₂ H1 fp) W0 ifs cf) (he : ∀ C s₂ H1 fp, PEm (cxComp X sc T idx C s₂ H1 fp) W0 elt ef)
    (e1 : X.env.scope = osc := by rfl) (e2 : X.N = N := by rfl) (hB : compB osc N sc idx = true := by decide +kernel) (hN : ([] ++ T ++ idx.map fun i => (N[i]?).getD Str.empty).Nodup := by decide +kernel)
    (hs : ∀ y, foldedSetIterable iter X.env y = pure y := by intro _; rfl) :
    Jd (β := Er) (τ := V) X W (fun t => PE X (.ListComp elt [⟨tg, iter, ifs, 0⟩] sc pos) t ∧ PU X (.ListComp elt [⟨tg, iter, ifs, 0⟩] sc pos) t) (fun ρ S => (itf ρ S).bind fun k S1 => if k.ds.length < 1000000 then (compF gf cf ef (blk T.length idx ρ) k.gs k.ds S1).bind fun out S2 => .ok (.new out) S2 else .no) := by
  obtain ⟨wi, hi, ki⟩ := hi
  subst e1 e2
  have big : (1000000 : Nat) < sizeLine := by rw [sizeLine_eq]; decide
  -- one reading of the target for all blocks: its reading may hang on the block, so the end is asked for each
  have hg' : ∃ t, (∀ C s₂ H1 fp, PG (cxComp X sc T idx C s₂ H1 fp) tg t) ∧ ∀ α ρ S σ H d v Q, Wd X.g α S H → Slots X.K α H ρ σ → Den X.K α H d v → Post X.g W0 α H (gf d ρ S) (Keeps T.length σ Q) → t v σ H Q := by
    refine ⟨fun v σ H Q => ∃ α ρ S d, Wd X.g α S H ∧ Slots X.K α H ρ σ ∧ Den X.K α H d v ∧ Post X.g W0 α H (gf d ρ S) (Keeps T.length σ Q), fun C s₂ H1 fp pins s σ H v u Q I r ⟨α, ρ, S, d, h1, h2, h3, h4⟩ => ?_, fun α ρ S σ H d v Q h1 h2 h3 h4 => ⟨α, ρ, S, d, h1, h2, h3, h4⟩⟩
    obtain ⟨t, ht, kt⟩ := hg C s₂ H1 fp hN
    exact ht pins s σ H v u Q I r (kt α ρ S σ H d v Q h1 h2 h3 h4)
  obtain ⟨tg', hg1, kg⟩ := hg'
  refine ⟨_, ⟨pe_comp T idx hi hcalm hB hg1 (fun C s₂ H1 fp => (Classical.choose_spec (hc C s₂ H1 fp)).1) (fun C s₂ H1 fp => (Classical.choose_spec (he C s₂ H1 fp)).1) hs, pu_comp T idx hi hcalm hB hg1 (fun C s₂ H1 fp => (Classical.choose_spec (hc C s₂ H1 fp)).1) (fun C s₂ H1 fp => (Classical.choose_spec (he C s₂ H1 fp)).1) hs⟩, fun α ρ S σ H Q wd sl q => ki α ρ S σ H _ wd sl (q.bind fun J k S1 α1 H1 e1 x1 w1 d1 q1 => ?_)⟩
  obtain ⟨P, hP⟩ := d1
  split at q1
  · rename_i hlen
    refine ⟨fun n m ys H2 => m = k.ds.length - n ∧ n ≤ k.ds.length ∧ ys.length ≤ n ∧ ∃ α2 S2, Ext α H α2 H2 ∧ Wd X.g α2 S2 H2 ∧ P α2 S2 H2 ∧ ∃ outs, DenL X.K α2 H2 outs ys ∧ Post X.g W α H ((compF gf cf ef (blk T.length idx ρ) k.gs (k.ds.drop n) S2).bind fun o S' => .ok (Er.new (outs ++ o)) S') Q,
      ⟨_, rfl, Nat.zero_le _, Nat.le_refl _, α1, S1, x1, w1, hP.here, [], denl_nil, by simpa using q1⟩, ?_⟩
    rintro n m ys H2 ⟨rfl, hn, hy, α2, S2, x2, w2, p2, outs, l, q2⟩
    obtain ⟨i1, i2⟩ := hP.it n α2 S2 H2 p2 w2
    refine ⟨by omega, ?_⟩
    by_cases hlt : n < k.ds.length
    · obtain ⟨go, yl⟩ := i1 hlt
      refine .inr ⟨go, by omega, fun v H3 y τ hτ => ?_⟩
      obtain ⟨x3, w3, p3, d, hd, dv⟩ := yl v H3 y
      have hdrop : k.ds.drop n = d :: k.ds.drop (n + 1) := by
        rw [List.drop_eq_getElem_cons hlt]
        have := List.getElem?_eq_getElem hlt
        rw [hd] at this
        rw [← Option.some.inj this]
      rw [hdrop] at q2
      unfold compF at q2
      have slb := slots_blk (sl.ext (x2.trans x3)) T.length idx τ hτ
      refine kg α2 (blk T.length idx ρ) S2 _ H3 d v _ w3 slb dv ?_
      rw [R.bind_assoc] at q2
      refine q2.bindY (x2.trans x3) fun σ4 ρ4 S4 α4 H4 e4 x4 w4 s4 q4 len4 kp4 => ⟨⟨σ4.take T.length, ?_, ?_⟩, fun C s₂ fp => ?_⟩
      · refine List.ext_getElem? fun j => ?_
        have hl4 : σ4.length = T.length + idx.length := by rw [len4, List.length_append, caps_length, hτ]
        by_cases hj : j < T.length
        · rw [List.getElem?_append_left (by rw [List.length_take]; omega), List.getElem?_take_of_lt hj]
        · rw [kp4 j (by omega), List.getElem?_append_right (by omega), List.getElem?_append_right (by rw [List.length_take]; omega), hτ, List.length_take, Nat.min_eq_left (by omega)]
      · rw [List.length_take, len4, List.length_append, caps_length, hτ]; omega
      have x34 : Ext α H α4 H4 := (x2.trans x3).trans x4
      have p4 : ∀ α5 S5 H5, Ext α4 H4 α5 H5 → Wd X.g α5 S5 H5 → stay k.gs S5 → P α5 S5 H5 := fun α5 S5 H5 x5 w5 s5 => hP.stays α2 S2 H3 α5 S5 H5 p3 (x4.trans x5) w5 s5
      rw [R.bind_assoc] at q4
      refine (Classical.choose_spec (hc C s₂ H1 fp)).2 α4 ρ4 S4 σ4 H4 _ w4 s4 (q4.bindY x34 fun b5 b5' S5 α5 H5 e5 x5 w5 d5 q5 => ?_)
      cases d5
      cases b5 with
      | false =>
        rw [if_neg Bool.false_ne_true] at q5 ⊢
        split at q5
        · rename_i hst
          exact ⟨k.ds.length - (n + 1), by omega, rfl, hlt, by omega, α5, S5, x34.trans x5, w5, p4 α5 S5 H5 x5 w5 hst, outs, (l.ext (x3.trans x4)).ext x5, q5⟩
        · exact q5.elim
      | true =>
        rw [if_pos rfl, R.bind_assoc] at q5
        rw [if_pos rfl]
        refine (Classical.choose_spec (he C s₂ H1 fp)).2 α5 ρ4 S5 σ4 H5 _ w5 (s4.ext x5) (q5.bindY (x34.trans x5) fun y6 r6 S6 α6 H6 e6 x6 w6 d6 q6 => ?_)
        obtain ⟨d', S', α', e7, x7, y7, w7, de⟩ := enter1_ok w6 x6 d6
        rw [e7] at q6
        have q6 : Post X.g W α H ((if stay k.gs S' then (compF gf cf ef (blk T.length idx ρ) k.gs (k.ds.drop (n + 1)) S').bind fun out S4 => .ok (d' :: out) S4 else .no).bind fun o S' => .ok (Er.new (outs ++ o)) S') Q := q6
        split at q6
        · rename_i hst
          refine ⟨k.ds.length - (n + 1), by omega, rfl, hlt, by rw [List.length_append, List.length_singleton]; omega, α', S', (x34.trans x5).trans x7, w7, p4 α' S' H6 (x5.trans x7) w7 hst, outs ++ [d'], ((l.ext (x3.trans x4)).ext (x5.trans x7)).append (denl_cons de denl_nil), ?_⟩
          rw [R.bind_assoc] at q6
          have e8 : (fun (o : List MV) (S' : Sto) => R.ok (Er.new ((outs ++ [d']) ++ o)) S') = (fun (b : List MV) S => (R.ok (d' :: b) S).bind fun o S' => .ok (Er.new (outs ++ o)) S') := by
            funext o S'
            show _ = R.ok (Er.new (outs ++ (d' :: o))) S'
            rw [List.append_assoc]; rfl
          rw [e8]
          exact q6
        · exact q6.elim
    · have e : n = k.ds.length := by omega
      subst e
      rw [List.drop_length] at q2
      have q3 : Post X.g W α H (.ok (Er.new (outs ++ [])) S2) Q := q2
      rw [List.append_nil] at q3
      exact .inl ⟨i2 (Nat.le_refl _), fun D hD => (q3.shift x2).newl w2 hD l⟩
  · exact q1.elim
open Classical in
theorem pm_comp {elt tg : Expr} {ifs : List Expr} {sc : Scope} {itf : Rho → Sto → R Wk} {cf : Rho → Sto → R Bool} {ef : Rho → Sto → R Er} {gf : MV → Rho → Sto → R Rho} (osc : Scope) (N : List Str) (T : List Str) (idx : List Nat)
    (hi : PIm X W tg iter itf) (hcalm : X.calm = true)
    (hg : ∀ C s₂ H1 fp, ([] ++ T ++ idx.map fun i => (N[i]?).getD Str.empty).Nodup → PGn T.length (cxComp X sc T idx C s₂ H1 fp) W0 tg gf)
    (hc : ∀ C s₂ H1 fp, PIfm (cxComp X sc T idx C s₂ H1 fp) W0 ifs cf) (he : ∀ C s₂ H1 fp, PEm (cxComp X sc T idx C s₂ H1 fp) W0 elt ef)
    (e1 : X.env.scope = osc := by rfl) (e2 : X.N = N := by rfl) (hB : compB osc N sc idx = true := by decide +kernel) (hN : ([] ++ T ++ idx.map fun i => (N[i]?).getD Str.empty).Nodup := by decide +kernel)
    (hs : ∀ y, foldedSetIterable iter X.env y = pure y := by intro _; rfl) :
    PEm X W (.ListComp elt [⟨tg, iter, ifs, 0⟩] sc pos) (fun ρ S => (itf ρ S).bind fun k S1 => if k.ds.length < 1000000 then (compF gf cf ef (blk T.length idx ρ) k.gs k.ds S1).bind fun out S2 => .ok (.new out) S2 else .no) := let ⟨t, h, k⟩ := (cu_comp osc N T idx hi hcalm hg hc he e1 e2 hB hN hs); ⟨t, h.1, k⟩
open Classical in
/-- x = [..] on one row: the name is stored before the block's names go -/
theorem sm_setC {x : Str} {pos' spos : Pos} (i : Nat) (hNN : X.N.Nodup) {elt tg : Expr} {ifs : List Expr} {sc : Scope} {itf : Rho → Sto → R Wk} {cf : Rho → Sto → R Bool} {ef : Rho → Sto → R Er} {gf : MV → Rho → Sto → R Rho} (osc : Scope) (N : List Str) (T : List Str) (idx : List Nat)
    (hi : PIm X W tg iter itf) (hcalm : X.calm = true)
    (hg : ∀ C s₂ H1 fp, ([] ++ T ++ idx.map fun i => (N[i]?).getD Str.empty).Nodup → PGn T.length (cxComp X sc T idx C s₂ H1 fp) W0 tg gf)
    (hc : ∀ C s₂ H1 fp, PIfm (cxComp X sc T idx C s₂ H1 fp) W0 ifs cf) (he : ∀ C s₂ H1 fp, PEm (cxComp X sc T idx C s₂ H1 fp) W0 elt ef)
    (e1 : X.env.scope = osc := by rfl) (e2 : X.N = N := by rfl) (hB : compB osc N sc idx = true := by decide +kernel) (hN : ([] ++ T ++ idx.map fun i => (N[i]?).getD Str.empty).Nodup := by decide +kernel)
    (hs : ∀ y, foldedSetIterable iter X.env y = pure y := by intro _; rfl)
    (hi2 : X.N[i]? = some x := by rfl) (hx : Loc X.env.scope x := by first | exact Or.inl rfl | exact Or.inr rfl)
    (hsw : swapsWith (.ListComp elt [⟨tg, iter, ifs, 0⟩] sc pos) (some (.Name x pos')) spos.line X.env = pure true := by with_unfolding_all rfl) (hf : X.fn x = true ∨ X.env.scope.names.lookup x = some .local := by first | exact .inl rfl | exact .inr rfl | assumption) :
    PSm X W (.Assign [.Name x pos'] (.ListComp elt [⟨tg, iter, ifs, 0⟩] sc pos) spos) (fun ρ S => ((itf ρ S).bind fun k S1 => if k.ds.length < 1000000 then (compF gf cf ef (blk T.length idx ρ) k.gs k.ds S1).bind fun out S2 => .ok (.new out) S2 else .no).bind (setF ρ i)) := by
  obtain ⟨t, h, k⟩ := (cu_comp osc N T idx hi hcalm hg hc he e1 e2 hB hN hs)
  refine ⟨_, h.2 i x pos' spos hNN hi2 hx hf hsw, fun α ρ S σ H D wd sl q => k α ρ S σ H _ wd sl (q.expr fun u r S1 α1 H1 e x1 w1 d1 q1 => ?_)⟩
  obtain ⟨d', S', α', e1, x', y', w', de⟩ := enter1_ok w1 x1 d1
  unfold setF at q1
  rw [e1] at q1
  exact q1 _ α' H1 x' w' (((sl.ext x1).ex0 y').set de)
end
end M
end L2

namespace L2
namespace M
open PySem PySem.Spec PyProof.Rows

/-! ## what a call leaves: the store is cut back -/
mutual
def lo (n : Nat) : MV → Prop
  | .loc l => l < n
  | .tup ds => loL n ds
  | .scr ds => loL n ds
  | _ => True
def loL (n : Nat) : List MV → Prop
  | [] => True
  | d :: ds => lo n d ∧ loL n ds
end
def loO (n : Nat) : MO → Prop
  | .lst ds => loL n ds
  | .dic kvs => ∀ p ∈ kvs, lo n p.1 ∧ lo n p.2
  | .ins _ fs => ∀ p ∈ fs, lo n p.2
section
variable {K : PySem.W.Frag} {α t : List Addr} {H : Hp}
mutual
theorem Den.back : ∀ {d : MV} {v : V}, Den K (α ++ t) H d v → lo α.length d → Den K α H d v
  | .non, _, q, _ => by cases of_non q; exact den_non
  | .bl _, _, q, _ => by cases of_bl q; exact den_bl _
  | .int _, _, q, _ => by cases of_int q; exact den_int _
  | .str _, _, q, _ => by cases of_str q; exact den_str _
  | .typ _, _, q, _ => by cases of_typ q; exact den_typ _
  | .loc l, _, q, h => by
    obtain ⟨a, rfl, e⟩ := of_loc q
    have hl : l < α.length := by unfold lo at h; exact h
    rw [List.getElem?_append_left hl] at e
    exact den_loc e
  | .tup ds, _, q, h => by
    obtain ⟨a, vs, rfl, s, l⟩ := of_tup q
    exact den_tup s (DenL.back l (by unfold lo at h; exact h))
  | .scr ds, _, q, h => by
    obtain ⟨a, vs, rfl, s, l⟩ := of_scr q
    exact den_scr s (DenL.back l (by unfold lo at h; exact h))
theorem DenL.back : ∀ {ds : List MV} {vs : List V}, DenL K (α ++ t) H ds vs → loL α.length ds → DenL K α H ds vs
  | [], _, q, _ => by rw [q.isnil]; exact denl_nil
  | d :: ds, _, q, h => by
    obtain ⟨v, r, rfl, a, l⟩ := q.uncons
    unfold loL at h
    exact denl_cons (Den.back a h.1) (DenL.back l h.2)
end
mutual
theorem Den.lo : ∀ {d : MV} {v : V}, Den K α H d v → lo α.length d
  | .non, _, q => by unfold M.lo; trivial
  | .bl _, _, q => by unfold M.lo; trivial
  | .int _, _, q => by unfold M.lo; trivial
  | .str _, _, q => by unfold M.lo; trivial
  | .typ _, _, q => by unfold M.lo; trivial
  | .loc l, _, q => by
    obtain ⟨a, rfl, e⟩ := of_loc q
    unfold M.lo
    exact (List.getElem?_eq_some_iff.mp e).1
  | .tup ds, _, q => by
    obtain ⟨a, vs, rfl, s, l⟩ := of_tup q
    unfold M.lo
    exact DenL.lo l
  | .scr ds, _, q => by
    obtain ⟨a, vs, rfl, s, l⟩ := of_scr q
    unfold M.lo
    exact DenL.lo l
theorem DenL.lo : ∀ {ds : List MV} {vs : List V}, DenL K α H ds vs → loL α.length ds
  | [], _, q => by unfold loL; trivial
  | d :: ds, _, q => by
    obtain ⟨v, r, rfl, a, l⟩ := q.uncons
    unfold loL
    exact ⟨Den.lo a, DenL.lo l⟩
end
theorem DenK.back : ∀ {fs gs}, DenK K (α ++ t) H fs gs → (∀ p ∈ fs, M.lo α.length p.1 ∧ M.lo α.length p.2) → DenK K α H fs gs
  | _, _, .nil, _ => .nil
  | _, _, .cons k a l, h => .cons k (a.back (h _ List.mem_cons_self).2) (DenK.back l fun p hp => h p (List.mem_cons_of_mem _ hp))
theorem KeyD.lo {n : Nat} {k : MV} {k' : Key} (h : KeyD k k') : M.lo n k := by
  unfold KeyD at h
  split at h
  · unfold M.lo; trivial
  · unfold M.lo; trivial
  · exact h.elim
theorem DenK.lo : ∀ {fs gs}, DenK K α H fs gs → ∀ p ∈ fs, M.lo α.length p.1 ∧ M.lo α.length p.2
  | _, _, .nil => fun p h => by simp at h
  | _, _, .cons k a l => fun p h => (List.mem_cons.mp h).elim (fun e => by subst e; exact ⟨k.lo, a.lo⟩) (DenK.lo l p)
theorem DenF.back : ∀ {fs gs}, DenF K (α ++ t) H fs gs → (∀ p ∈ fs, M.lo α.length p.2) → DenF K α H fs gs
  | _, _, .nil, _ => .nil
  | _, _, .cons a l, h => .cons (a.back (h _ List.mem_cons_self)) (DenF.back l fun p hp => h p (List.mem_cons_of_mem _ hp))
theorem DenF.lo : ∀ {fs gs}, DenF K α H fs gs → ∀ p ∈ fs, M.lo α.length p.2
  | _, _, .nil => fun p h => by simp at h
  | _, _, .cons a l => fun p h => (List.mem_cons.mp h).elim (fun e => by subst e; exact a.lo) (DenF.lo l p)
theorem ObD.back {g : Gm} {a : Addr} {o : MO} (q : ObD g (α ++ t) H a o) (h : loO α.length o) : ObD g α H a o := by
  cases o with
  | lst ds => obtain ⟨vs, h1, l⟩ := q; exact ⟨vs, h1, l.back h⟩
  | dic ds => obtain ⟨vs, h1, l⟩ := q; exact ⟨vs, h1, l.back h⟩
  | ins c fs => obtain ⟨C, dx, gs, m, h1, l⟩ := q; exact ⟨C, dx, gs, m, h1, l.back h⟩
theorem ObD.lo {g : Gm} {a : Addr} {o : MO} (q : ObD g α H a o) : loO α.length o := by
  cases o with
  | lst ds => obtain ⟨vs, h1, l⟩ := q; exact l.lo
  | dic ds => obtain ⟨vs, h1, l⟩ := q; exact l.lo
  | ins c fs => obtain ⟨C, dx, gs, m, h1, l⟩ := q; exact l.lo
end

/-- the old part of the store tells nothing of the new one -/
def cutOk (S S2 : Sto) : Prop := S.length ≤ S2.length ∧ ∀ l, l < S.length → S2[l]? = S[l]? ∨ ∃ o, S2[l]? = some o ∧ loO S.length o
open Classical in
noncomputable def trimF (S : Sto) (r : Er) (S2 : Sto) : R Er :=
  if cutOk S S2 then match r with
    | .val (.loc l) => if l < S.length then .ok r (S2.take S.length) else match S2[l]? with
      | some (.lst ds) => if loL S.length ds then .ok (.new ds) (S2.take S.length) else .ok r S2
      | _ => .ok r S2
    | .val d => if lo S.length d then .ok r (S2.take S.length) else .ok r S2
    | .new ds => if loL S.length ds then .ok r (S2.take S.length) else .ok r S2
  else .ok r S2
theorem trim_ok {g : Gm} {α α1 α2 α3 : List Addr} {H H1 H3 : Hp} {S1 S3 : Sto} {r : Er} {v : V} (x1 : Ext α H α1 H1) (w1 : Wd g α1 S1 H1) (h12 : ∃ t, α2 = α1 ++ t) (x2 : Ext α H α2 H1) (x3 : Ext α2 H1 α3 H3) (w3 : Wd g α3 S3 H3) (d : DenE g.K H1 α3 H3 r v) :
    ∃ r' S' α', trimF S1 r S3 = .ok r' S' ∧ Ext α H α' H3 ∧ Wd g α' S' H3 ∧ DenE g.K H α' H3 r' v := by
  have x23 := x2.trans x3
  have dfull : DenE g.K H α3 H3 r v := d.back fun b h => x1.free h
  unfold trimF
  by_cases hc : cutOk S1 S3
  · rw [if_pos hc]
    obtain ⟨t, ht⟩ : ∃ t, α3 = α1 ++ t := by
      obtain ⟨t, e⟩ := h12
      obtain ⟨u, e'⟩ := x3.pre
      exact ⟨t ++ u, by rw [e', e, List.append_assoc]⟩
    have hn : α1.length = S1.length := w1.len
    have xc : Ext α H α1 H3 := ⟨⟨x1.pre, x23.tup, x23.frz⟩, x1.new, x23.keep, x23.has⟩
    have wc : Wd g α1 (S3.take S1.length) H3 := by
      refine ⟨by rw [List.length_take, hn, Nat.min_eq_left hc.1], w1.nd, fun l a o h1 h2 => ?_⟩
      have hl : l < S1.length := by rw [← hn]; exact (List.getElem?_eq_some_iff.mp h1).1
      rw [List.getElem?_take_of_lt hl] at h2
      have h1' : α3[l]? = some a := by rw [ht, List.getElem?_append_left (by rw [hn]; exact hl)]; exact h1
      have q := w3.obj l a o h1' h2
      rw [ht] at q
      refine q.back ?_
      rcases hc.2 l hl with e | ⟨o', e, lo'⟩
      · rw [e] at h2
        exact (w1.obj l a o h1 h2).lo
      · rw [h2] at e
        cases e
        rw [hn]; exact lo'
    have dlo : ∀ d, lo S1.length d → Den g.K α3 H3 d v → DenE g.K H α1 H3 (.val d) v := fun d hd q => .val ((ht ▸ q : Den g.K (α1 ++ t) H3 d v).back (by rw [hn]; exact hd))
    cases r with
    | new ds =>
      dsimp only
      split
      · rename_i hl
        obtain ⟨⟨b, vs, rfl, h1, h2, h3⟩, h4⟩ := dfull
        exact ⟨_, _, α1, rfl, xc, wc, ⟨b, vs, rfl, h1, fun z => h2 (by rw [ht]; exact List.mem_append_left _ z), (ht ▸ h3 : DenL g.K (α1 ++ t) H3 ds vs).back (by rw [hn]; exact hl)⟩, h4⟩
      · exact ⟨_, _, α3, rfl, x23, w3, dfull⟩
    | val mv =>
      have dd : Den g.K α3 H3 mv v := dfull.1
      cases mv with
      | loc l =>
        dsimp only
        split
        · rename_i hl
          exact ⟨_, _, α1, rfl, xc, wc, dlo _ (by unfold lo; exact hl) dd⟩
        · rename_i hl
          obtain ⟨a, rfl, ha⟩ := of_loc dd
          split
          · rename_i ds hS
            split
            · rename_i hlo
              obtain ⟨vs, h1, h2⟩ := w3.obj l a _ ha hS
              have hna : a ∉ α1 := fun z => by
                obtain ⟨m, hm⟩ := List.getElem?_of_mem z
                have hml : m < α1.length := (List.getElem?_eq_some_iff.mp hm).1
                have hm' : α3[m]? = some a := by rw [ht, List.getElem?_append_left hml]; exact hm
                obtain ⟨u1, e1⟩ := List.getElem?_eq_some_iff.mp hm'
                obtain ⟨u2, e2⟩ := List.getElem?_eq_some_iff.mp ha
                have := (List.getElem_inj w3.nd).mp (e1.trans e2.symm)
                omega
              refine ⟨_, _, α1, rfl, xc, wc, ⟨a, vs, rfl, h1, hna, (ht ▸ h2 : DenL g.K (α1 ++ t) H3 ds vs).back (by rw [hn]; exact hlo)⟩, fun b e => ?_⟩
              cases e
              rcases x23.new a (List.mem_of_getElem? ha) with z | z
              · obtain ⟨u, eu⟩ := x1.pre
                exact absurd (by rw [eu]; exact List.mem_append_left _ z) hna
              · exact z
            · exact ⟨_, _, α3, rfl, x23, w3, dfull⟩
          · exact ⟨_, _, α3, rfl, x23, w3, dfull⟩
      | non => dsimp only; split; (· rename_i hl; exact ⟨_, _, α1, rfl, xc, wc, dlo _ hl dd⟩); (· exact ⟨_, _, α3, rfl, x23, w3, dfull⟩)
      | bl b => dsimp only; split; (· rename_i hl; exact ⟨_, _, α1, rfl, xc, wc, dlo _ hl dd⟩); (· exact ⟨_, _, α3, rfl, x23, w3, dfull⟩)
      | int b => dsimp only; split; (· rename_i hl; exact ⟨_, _, α1, rfl, xc, wc, dlo _ hl dd⟩); (· exact ⟨_, _, α3, rfl, x23, w3, dfull⟩)
      | str b => dsimp only; split; (· rename_i hl; exact ⟨_, _, α1, rfl, xc, wc, dlo _ hl dd⟩); (· exact ⟨_, _, α3, rfl, x23, w3, dfull⟩)
      | typ b => dsimp only; split; (· rename_i hl; exact ⟨_, _, α1, rfl, xc, wc, dlo _ hl dd⟩); (· exact ⟨_, _, α3, rfl, x23, w3, dfull⟩)
      | tup b => dsimp only; split; (· rename_i hl; exact ⟨_, _, α1, rfl, xc, wc, dlo _ hl dd⟩); (· exact ⟨_, _, α3, rfl, x23, w3, dfull⟩)
      | scr b => dsimp only; split; (· rename_i hl; exact ⟨_, _, α1, rfl, xc, wc, dlo _ hl dd⟩); (· exact ⟨_, _, α3, rfl, x23, w3, dfull⟩)
  · rw [if_neg hc]
    exact ⟨_, _, α3, rfl, x23, w3, dfull⟩

/-! ## defs -/
/-- a def's promise by a function of its data and the store; nothing raises -/
def spM (g : Gm) (n : Nat) (F : List MV → Sto → R Er) : Sp := fun vs H Q _ => ∃ α S ds, Wd g α S H ∧ DenL g.K α H ds vs ∧ ds.length = n ∧ Post g W0 α H (F ds S) Q
noncomputable def callF (n : Nat) (F : List MV → Sto → R Er) (rs : List Er) (S : Sto) : R Er := if rs.length = n then (noX (F (enterA rs S).1 (enterA rs S).2)).bind fun r S2 => trimF S r S2 else .no
section
variable {X : Cx} {W : XW} {e : Expr} {es : List Expr} {af : Rho → Sto → R (List Er)} {pos : Pos}
theorem call_post {n : Nat} {F : List MV → Sto → R Er} {rs : List Er} {vs : List V} {α α1 : List Addr} {H H1 : Hp} {S1 : Sto} {Q : VK} (x1 : Ext α H α1 H1) (w1 : Wd X.g α1 S1 H1) (d1 : ArgsE X.K H α1 H1 rs vs) (q : Post X.g W α H (callF n F rs S1) Q) :
    spM X.g n F vs H1 Q E0 := by
  unfold callF at q
  split at q
  · rename_i hl
    obtain ⟨α2, x2, y2, w2, l2⟩ := enter_ok w1 x1 d1
    refine ⟨α2, _, _, w2, l2, by rw [enter_len]; exact hl, ?_⟩
    cases z : F (enterA rs S1).1 (enterA rs S1).2 with
    | ok r S3 =>
      rw [z] at q
      intro v α3 H3 x3 w3 d3
      obtain ⟨r', S', α', e', x', w', d'⟩ := trim_ok x1 w1 y2.pre x2 x3 w3 d3
      have q : Post X.g W α H (trimF S1 r S3) Q := q
      rw [e'] at q
      exact q v α' H3 x' w' d'
    | exc c fs S3 => rw [z] at q; exact q.elim
    | no => rw [z] at q; exact q.elim
  · exact q.elim
theorem pm_call {k n : Nat} {fa : Addr} {fd : FuncData} {ps : List Str} {F : List MV → Sto → R Er} {x : Str} {p : Pos} (G : FnOk X.prog X.w X.K X.mg X.base CX0 k fa fd ps (spM X.g n F)) (hr : Room k X.A) (hg : Gl X x) (hm : X.mg x = some (.ref fa))
    (hk : PySem.W.keepIn X.K (.ref fa) = true) (hb : Binds X.K fd ps []) (ha : PAm X W (e :: es) af) (hdb : (x == ("__debug__" : Str)) = false := by decide)
    (he : starEach (e :: es) X.env = (false, eval e X.env) :: starEach es X.env := by rfl) (hpl : (backTo pos (starEach es X.env)).any (·.1) = false := by rfl) :
    PEm X W (.Call (.Name x p) (e :: es) [] pos) (fun ρ S => (af ρ S).bind fun rs S1 => callF n F rs S1) := by
  obtain ⟨t, ha, kk⟩ := ha
  refine ⟨_, pe_call G hr hg hm hk hb .nil pass0 ha hdb he hpl, fun α ρ S σ H Q wd sl q => kk α ρ S σ H _ wd sl (q.bind fun vs rs S1 α1 H1 e1 x1 w1 d1 q1 => ?_)⟩
  rw [List.append_nil]
  exact call_post x1 w1 d1 q1
theorem pm_call0 {k : Nat} {fa : Addr} {fd : FuncData} {ps : List Str} {F : List MV → Sto → R Er} {x : Str} {p : Pos} (G : FnOk X.prog X.w X.K X.mg X.base CX0 k fa fd ps (spM X.g 0 F)) (hr : Room k X.A) (hg : Gl X x) (hm : X.mg x = some (.ref fa))
    (hk : PySem.W.keepIn X.K (.ref fa) = true) (hb : Binds X.K fd ps []) (hdb : (x == ("__debug__" : Str)) = false := by decide) :
    PEm X W (.Call (.Name x p) [] [] pos) (fun ρ S => callF 0 F [] S) :=
  ⟨_, pe_call0 G hr hg hm hk hb .nil pass0 hdb, fun α ρ S σ H Q wd sl q => call_post (Ext.refl α H) wd .nil q⟩
end
def startR (N : List Str) (ds : List MV) : Rho := ds.map some ++ List.replicate (N.length - ds.length) none
def finF : R Fl → R Er
  | .ok (.next _) S => .ok (.val .non) S
  | .ok (.ret r) S => .ok r S
  | .exc c fs S => .exc c fs S
  | _ => .no
theorem slots_start {K : PySem.W.Frag} {α : List Addr} {N : List Str} {H : Hp} {ds : List MV} {vs : List V} (l : DenL K α H ds vs) : Slots K α H (startR N ds) (start N vs) := by
  have hlen := l.length
  refine ⟨?_, fun i d e => ?_⟩
  · unfold start startR
    rw [List.length_append, List.length_append, List.length_map, List.length_map, List.length_replicate, List.length_replicate, hlen]
  · unfold startR at e
    by_cases hi : i < ds.length
    · rw [List.getElem?_append_left (by simpa using hi), List.getElem?_map] at e
      cases z : ds[i]? with
      | none => rw [z] at e; cases e
      | some d' =>
        rw [z] at e
        obtain ⟨v, h1, h2⟩ := l.at z
        have e' : d' = d := Option.some.inj (Option.some.inj e)
        subst e'
        refine ⟨v, ?_, h2⟩
        unfold start
        rw [List.getElem?_append_left (by rw [List.length_map, hlen]; exact hi), List.getElem?_map, h1]; rfl
    · rw [List.getElem?_append_right (by simpa using hi), List.getElem?_replicate] at e
      split at e <;> cases e
section
variable {P : Program} {w : World} {K : PySem.W.Frag} {mg : Str → Option Value} {base : Heap}
/-- THE RULE for a def, by data and the store -/
theorem okM {x qual : Str} {st : Stmt} {f : Addr} {fd : FuncData} {N ps : List Str} {k : Nat} (Fb : Rho → Sto → R Fl) (F : Fun K x qual st f fd) (Sc : FnScope N ps (defScope st))
    (hbody : ∀ (cdv : Value) (A : Around) (outer : List Env) (s : Shared) (H : Hp) (E : XK), Room k (A.deeper (envOfC qual (defScope st) s.heap.objs.size f cdv)) →
      PSsm (cxOf CX0 P w K mg base N qual (defScope st) f cdv A outer s H E).nox W0 (defBody st) Fb) :
    FnOk P w K mg base CX0 (k + 1) f fd ps (spM ⟨K, mg, P, w⟩ ps.length fun ds S => finF (Fb (startR N ds) S)) := by
  refine F.ok Sc (fun vs H Q E h => ?_) (fun cdv A outer s H vs Q E hr h => ?_)
  · obtain ⟨α, S, ds, _, l, hl, _⟩ := h
    rw [l.length, hl]
  · obtain ⟨α, S, ds, wd, l, hl, q⟩ := h
    obtain ⟨t, ht, kk⟩ := hbody cdv A outer s H E hr
    refine ⟨t, ht, kk α (startR N ds) S (start N vs) H _ wd (slots_start l) ?_⟩
    dsimp only at q
    cases z : Fb (startR N ds) S with
    | ok fl S' =>
      rw [z] at q
      cases fl with
      | next ρ => exact fun σ α' H' x' w' s' => q .non α' H' x' w' (DenE.val den_non)
      | ret r => exact fun v α' H' x' w' d' => q v α' H' x' w' d'
      | brk ρ => exact q.elim
      | cont ρ => exact q.elim
    | exc c fs S' => rw [z] at q; exact fun α' H' x' w' => q α' H' x' w'
    | no => rw [z] at q; exact q
end
end M
end L2

namespace L2
namespace M
open PySem PySem.Spec PyProof.Rows

/-! ## equality of data -/
theorem rcAt_V {A : Around} {s : Shared} {y x : V} {u v : Value} (ry : RelV y u) (rx : RelV x v) (fy : flatV y = true) (fx : flatV x = true) : SeqAt.RcAt A s u v (eqV y x) := by
  cases y with
  | non =>
    cases ry
    cases x with
    | non => cases rx; exact SeqAt.RcAt.none_none
    | bl b => cases rx; exact SeqAt.RcAt.none_bool b
    | int b => obtain ⟨t, rfl⟩ := rx; exact SeqAt.RcAt.none_int b t
    | str b => obtain ⟨t, rfl⟩ := rx; exact SeqAt.RcAt.none_str b t
    | _ => exact absurd (show false = true from fx) Bool.false_ne_true
  | bl a =>
    cases ry
    cases x with
    | non => cases rx; exact SeqAt.RcAt.bool_none a
    | bl b => cases rx; exact SeqAt.RcAt.bool_bool a b
    | int b => obtain ⟨t, rfl⟩ := rx; exact SeqAt.RcAt.bool_int a b t
    | str b => obtain ⟨t, rfl⟩ := rx; exact SeqAt.RcAt.bool_str a b t
    | _ => exact absurd (show false = true from fx) Bool.false_ne_true
  | int a =>
    obtain ⟨t', rfl⟩ := ry
    cases x with
    | non => cases rx; exact SeqAt.RcAt.int_none a t'
    | bl b => cases rx; exact SeqAt.RcAt.int_bool a t' b
    | int b => obtain ⟨t, rfl⟩ := rx; exact SeqAt.RcAt.int_int a t' b t
    | str b => obtain ⟨t, rfl⟩ := rx; exact SeqAt.RcAt.int_str a t' b t
    | _ => exact absurd (show false = true from fx) Bool.false_ne_true
  | str a =>
    obtain ⟨t', rfl⟩ := ry
    cases x with
    | non => cases rx; exact SeqAt.RcAt.str_none a t'
    | bl b => cases rx; exact SeqAt.RcAt.str_bool a t' b
    | int b => obtain ⟨t, rfl⟩ := rx; exact SeqAt.RcAt.str_int a t' b t
    | str b => obtain ⟨t, rfl⟩ := rx; exact SeqAt.RcAt.str_str a t' b t
    | _ => exact absurd (show false = true from fx) Bool.false_ne_true
  | _ => exact absurd (show false = true from fy) Bool.false_ne_true
theorem rnAt_V {A : Around} {s : Shared} {y x : V} {u v : Value} (ry : RelV y u) (rx : RelV x v) (fy : flatV y = true) (fx : flatV x = true) : SeqAt.RcNeAt A s u v (!eqV y x) := by
  cases y with
  | non =>
    cases ry
    cases x with
    | non => cases rx; exact SeqAt.RcNeAt.none_none
    | bl b => cases rx; exact SeqAt.RcNeAt.none_bool b
    | int b => obtain ⟨t, rfl⟩ := rx; exact SeqAt.RcNeAt.none_int b t
    | str b => obtain ⟨t, rfl⟩ := rx; exact SeqAt.RcNeAt.none_str b t
    | _ => exact absurd (show false = true from fx) Bool.false_ne_true
  | bl a =>
    cases ry
    cases x with
    | non => cases rx; exact SeqAt.RcNeAt.bool_none a
    | bl b => cases rx; exact SeqAt.RcNeAt.bool_bool a b
    | int b => obtain ⟨t, rfl⟩ := rx; exact SeqAt.RcNeAt.bool_int a b t
    | str b => obtain ⟨t, rfl⟩ := rx; exact SeqAt.RcNeAt.bool_str a b t
    | _ => exact absurd (show false = true from fx) Bool.false_ne_true
  | int a =>
    obtain ⟨t', rfl⟩ := ry
    cases x with
    | non => cases rx; exact SeqAt.RcNeAt.int_none a t'
    | bl b => cases rx; exact SeqAt.RcNeAt.int_bool a t' b
    | int b => obtain ⟨t, rfl⟩ := rx; exact SeqAt.RcNeAt.int_int a t' b t
    | str b => obtain ⟨t, rfl⟩ := rx; exact SeqAt.RcNeAt.int_str a t' b t
    | _ => exact absurd (show false = true from fx) Bool.false_ne_true
  | str a =>
    obtain ⟨t', rfl⟩ := ry
    cases x with
    | non => cases rx; exact SeqAt.RcNeAt.str_none a t'
    | bl b => cases rx; exact SeqAt.RcNeAt.str_bool a t' b
    | int b => obtain ⟨t, rfl⟩ := rx; exact SeqAt.RcNeAt.str_int a t' b t
    | str b => obtain ⟨t, rfl⟩ := rx; exact SeqAt.RcNeAt.str_str a t' b t
    | _ => exact absurd (show false = true from fx) Bool.false_ne_true
  | _ => exact absurd (show false = true from fy) Bool.false_ne_true
theorem eq_ll {A : Around} {s : Shared} {x : V} {v : Value} {l : Addr} {items : Array Value} (rx : RelV x v) (fx : flatV x = true) (hl : s.heap.IsList l items) (hu : A.units < cLine) : SeqAt.EqAt A s (.ref l) v false := by
  cases x with
  | non => cases rx; exact SeqAt.EqAt.list_none hl hu
  | bl b => cases rx; exact SeqAt.EqAt.list_bool b hl hu
  | int b => obtain ⟨t, rfl⟩ := rx; exact SeqAt.EqAt.list_int b t hl hu
  | str b => obtain ⟨t, rfl⟩ := rx; exact SeqAt.EqAt.list_str b t hl hu
  | _ => exact absurd (show false = true from fx) Bool.false_ne_true
theorem eq_lr {A : Around} {s : Shared} {x : V} {v : Value} {l : Addr} {items : Array Value} (rx : RelV x v) (fx : flatV x = true) (hl : s.heap.IsList l items) (hu : A.units < cLine) : SeqAt.EqAt A s v (.ref l) false := by
  cases x with
  | non => cases rx; exact SeqAt.EqAt.none_list hl hu
  | bl b => cases rx; exact SeqAt.EqAt.bool_list b hl hu
  | int b => obtain ⟨t, rfl⟩ := rx; exact SeqAt.EqAt.int_list b t hl hu
  | str b => obtain ⟨t, rfl⟩ := rx; exact SeqAt.EqAt.str_list b t hl hu
  | _ => exact absurd (show false = true from fx) Bool.false_ne_true
theorem eq_tl {A : Around} {s : Shared} {x : V} {v : Value} {l : Addr} {items : Array Value} (rx : RelV x v) (fx : flatV x = true) (hl : s.heap.IsTuple l items) (hu : A.units < cLine) : SeqAt.EqAt A s (.ref l) v false := by
  cases x with
  | non => cases rx; exact SeqAt.EqAt.tuple_none hl hu
  | bl b => cases rx; exact SeqAt.EqAt.tuple_bool b hl hu
  | int b => obtain ⟨t, rfl⟩ := rx; exact SeqAt.EqAt.tuple_int b t hl hu
  | str b => obtain ⟨t, rfl⟩ := rx; exact SeqAt.EqAt.tuple_str b t hl hu
  | _ => exact absurd (show false = true from fx) Bool.false_ne_true
theorem eq_tr {A : Around} {s : Shared} {x : V} {v : Value} {l : Addr} {items : Array Value} (rx : RelV x v) (fx : flatV x = true) (hl : s.heap.IsTuple l items) (hu : A.units < cLine) : SeqAt.EqAt A s v (.ref l) false := by
  cases x with
  | non => cases rx; exact SeqAt.EqAt.none_tuple hl hu
  | bl b => cases rx; exact SeqAt.EqAt.bool_tuple b hl hu
  | int b => obtain ⟨t, rfl⟩ := rx; exact SeqAt.EqAt.int_tuple b t hl hu
  | str b => obtain ⟨t, rfl⟩ := rx; exact SeqAt.EqAt.str_tuple b t hl hu
  | _ => exact absurd (show false = true from fx) Bool.false_ne_true
theorem rc_ll {A : Around} {s : Shared} {x : V} {v : Value} {l : Addr} {items : Array Value} (rx : RelV x v) (fx : flatV x = true) (hl : s.heap.IsList l items) (hu : A.units < cLine) : SeqAt.RcAt A s (.ref l) v false := by
  cases x with
  | non => cases rx; exact SeqAt.RcAt.list_none hl hu
  | bl b => cases rx; exact SeqAt.RcAt.list_bool b hl hu
  | int b => obtain ⟨t, rfl⟩ := rx; exact SeqAt.RcAt.list_int b t hl hu
  | str b => obtain ⟨t, rfl⟩ := rx; exact SeqAt.RcAt.list_str b t hl hu
  | _ => exact absurd (show false = true from fx) Bool.false_ne_true
theorem rc_lr {A : Around} {s : Shared} {x : V} {v : Value} {l : Addr} {items : Array Value} (rx : RelV x v) (fx : flatV x = true) (hl : s.heap.IsList l items) (hu : A.units < cLine) : SeqAt.RcAt A s v (.ref l) false := by
  cases x with
  | non => cases rx; exact SeqAt.RcAt.none_list hl hu
  | bl b => cases rx; exact SeqAt.RcAt.bool_list b hl hu
  | int b => obtain ⟨t, rfl⟩ := rx; exact SeqAt.RcAt.int_list b t hl hu
  | str b => obtain ⟨t, rfl⟩ := rx; exact SeqAt.RcAt.str_list b t hl hu
  | _ => exact absurd (show false = true from fx) Bool.false_ne_true
theorem rc_tl {A : Around} {s : Shared} {x : V} {v : Value} {l : Addr} {items : Array Value} (rx : RelV x v) (fx : flatV x = true) (hl : s.heap.IsTuple l items) (hu : A.units < cLine) : SeqAt.RcAt A s (.ref l) v false := by
  cases x with
  | non => cases rx; exact SeqAt.RcAt.tuple_none hl hu
  | bl b => cases rx; exact SeqAt.RcAt.tuple_bool b hl hu
  | int b => obtain ⟨t, rfl⟩ := rx; exact SeqAt.RcAt.tuple_int b t hl hu
  | str b => obtain ⟨t, rfl⟩ := rx; exact SeqAt.RcAt.tuple_str b t hl hu
  | _ => exact absurd (show false = true from fx) Bool.false_ne_true
theorem rc_tr {A : Around} {s : Shared} {x : V} {v : Value} {l : Addr} {items : Array Value} (rx : RelV x v) (fx : flatV x = true) (hl : s.heap.IsTuple l items) (hu : A.units < cLine) : SeqAt.RcAt A s v (.ref l) false := by
  cases x with
  | non => cases rx; exact SeqAt.RcAt.none_tuple hl hu
  | bl b => cases rx; exact SeqAt.RcAt.bool_tuple b hl hu
  | int b => obtain ⟨t, rfl⟩ := rx; exact SeqAt.RcAt.int_tuple b t hl hu
  | str b => obtain ⟨t, rfl⟩ := rx; exact SeqAt.RcAt.str_tuple b t hl hu
  | _ => exact absurd (show false = true from fx) Bool.false_ne_true
theorem rn_ll {A : Around} {s : Shared} {x : V} {v : Value} {l : Addr} {items : Array Value} (rx : RelV x v) (fx : flatV x = true) (hl : s.heap.IsList l items) (hu : A.units < cLine) : SeqAt.RcNeAt A s (.ref l) v true := by
  cases x with
  | non => cases rx; exact SeqAt.RcNeAt.list_none hl hu
  | bl b => cases rx; exact SeqAt.RcNeAt.list_bool b hl hu
  | int b => obtain ⟨t, rfl⟩ := rx; exact SeqAt.RcNeAt.list_int b t hl hu
  | str b => obtain ⟨t, rfl⟩ := rx; exact SeqAt.RcNeAt.list_str b t hl hu
  | _ => exact absurd (show false = true from fx) Bool.false_ne_true
theorem rn_lr {A : Around} {s : Shared} {x : V} {v : Value} {l : Addr} {items : Array Value} (rx : RelV x v) (fx : flatV x = true) (hl : s.heap.IsList l items) (hu : A.units < cLine) : SeqAt.RcNeAt A s v (.ref l) true := by
  cases x with
  | non => cases rx; exact SeqAt.RcNeAt.none_list hl hu
  | bl b => cases rx; exact SeqAt.RcNeAt.bool_list b hl hu
  | int b => obtain ⟨t, rfl⟩ := rx; exact SeqAt.RcNeAt.int_list b t hl hu
  | str b => obtain ⟨t, rfl⟩ := rx; exact SeqAt.RcNeAt.str_list b t hl hu
  | _ => exact absurd (show false = true from fx) Bool.false_ne_true
theorem rn_tl {A : Around} {s : Shared} {x : V} {v : Value} {l : Addr} {items : Array Value} (rx : RelV x v) (fx : flatV x = true) (hl : s.heap.IsTuple l items) (hu : A.units < cLine) : SeqAt.RcNeAt A s (.ref l) v true := by
  cases x with
  | non => cases rx; exact SeqAt.RcNeAt.tuple_none hl hu
  | bl b => cases rx; exact SeqAt.RcNeAt.tuple_bool b hl hu
  | int b => obtain ⟨t, rfl⟩ := rx; exact SeqAt.RcNeAt.tuple_int b t hl hu
  | str b => obtain ⟨t, rfl⟩ := rx; exact SeqAt.RcNeAt.tuple_str b t hl hu
  | _ => exact absurd (show false = true from fx) Bool.false_ne_true
theorem rn_tr {A : Around} {s : Shared} {x : V} {v : Value} {l : Addr} {items : Array Value} (rx : RelV x v) (fx : flatV x = true) (hl : s.heap.IsTuple l items) (hu : A.units < cLine) : SeqAt.RcNeAt A s v (.ref l) true := by
  cases x with
  | non => cases rx; exact SeqAt.RcNeAt.none_tuple hl hu
  | bl b => cases rx; exact SeqAt.RcNeAt.bool_tuple b hl hu
  | int b => obtain ⟨t, rfl⟩ := rx; exact SeqAt.RcNeAt.int_tuple b t hl hu
  | str b => obtain ⟨t, rfl⟩ := rx; exact SeqAt.RcNeAt.str_tuple b t hl hu
  | _ => exact absurd (show false = true from fx) Bool.false_ne_true
theorem eqV_refl {y : V} (h : flatV y = true) : eqV y y = true := by
  cases y <;> first | rfl | (simp [eqV]; done) | exact absurd (show false = true from h) Bool.false_ne_true

/-- what a thing is, for == -/
inductive Vw where
  | fl (v : V) | tp (ds : List MV) | ls (ds : List MV)
def lsOf (S : Sto) : Er → Option (List MV)
  | .new ds => some ds
  | .val (.scr ds) => some ds
  | .val (.loc l) => match S[l]? with
    | some (.lst ds) => some ds
    | _ => none
  | _ => none
def vwE (S : Sto) : Er → Option Vw
  | .val .non => some (.fl .non)
  | .val (.bl b) => some (.fl (.bl b))
  | .val (.int i) => some (.fl (.int i))
  | .val (.str x) => some (.fl (.str (mkS x)))
  | .val (.tup ds) => some (.tp ds)
  | .val (.typ _) => none
  | r => (lsOf S r).map .ls
/-- the pairs' answers -/
def prs (e : MV → MV → Option Bool) : List MV → List MV → Option (List Bool)
  | d :: ds, f :: fs => (e d f).bind fun k => (prs e ds fs).map (k :: ·)
  | _, _ => some []
def eqW (e : MV → MV → Option Bool) : Vw → Vw → Option Bool
  | .fl x, .fl y => some (eqV x y)
  | .tp ds, .tp es => (prs e ds es).map fun bs => bs.all id && ds.length == es.length
  | .ls ds, .ls es => if ds.length = es.length then (prs e ds es).map fun bs => bs.all id else some false
  | _, _ => some false
theorem eqW_tp (e : MV → MV → Option Bool) (ds es : List MV) : eqW e (.tp ds) (.tp es) = (prs e ds es).map fun bs => bs.all id && ds.length == es.length := rfl
theorem eqW_ls (e : MV → MV → Option Bool) (ds es : List MV) : eqW e (.ls ds) (.ls es) = if ds.length = es.length then (prs e ds es).map fun bs => bs.all id else some false := rfl
def eqv (S : Sto) : Nat → MV → MV → Option Bool
  | 0, _, _ => none
  | n + 1, a, b => (vwE S (.val a)).bind fun x => (vwE S (.val b)).bind fun y => eqW (eqv S n) x y
def eqvE (S : Sto) (n : Nat) (a b : Er) : Option Bool := (vwE S a).bind fun x => (vwE S b).bind fun y => eqW (eqv S n) x y
theorem eqv_succ (S : Sto) (n : Nat) (a b : MV) : eqv S (n + 1) a b = eqvE S n (.val a) (.val b) := rfl

section
variable {X : Cx} {α : List Addr} {S : Sto} {H : Hp}
theorem ls_of {K : PySem.W.Frag} {g : Gm} (hK : g.K = K) (wd : Wd g α S H) {r : Er} {ds : List MV} {x : V} (e : lsOf S r = some ds) (d : DenX K α H r x) : ∃ a vs, x = .ref a ∧ SqL K H a vs ∧ DenL K α H ds vs := by
  subst hK
  unfold lsOf at e
  split at e
  · cases e
    obtain ⟨b, vs, rfl, h, _, l⟩ := d
    exact ⟨b, vs, rfl, .of h, l⟩
  · cases e
    obtain ⟨a, vs, rfl, s, l⟩ := xe_scr d
    exact ⟨a, vs, rfl, s.l, l⟩
  · rename_i n
    obtain ⟨a, rfl, h⟩ := xe_loc d
    split at e
    · rename_i es hS
      cases e
      obtain ⟨vs, h1, l⟩ := wd.obj n a _ h hS
      exact ⟨a, vs, rfl, .of h1, l⟩
    · cases e
  · cases e
theorem vw_fl {r : Er} {x y : V} (e : vwE S r = some (.fl y)) (d : DenX X.K α H r x) : x = y ∧ flatV y = true := by
  unfold vwE at e
  split at e
  · cases e; exact ⟨xe_non d, rfl⟩
  · cases e; exact ⟨xe_bl d, rfl⟩
  · cases e; exact ⟨xe_int d, rfl⟩
  · cases e; exact ⟨xe_str d, rfl⟩
  · cases e
  · cases e
  · cases z : lsOf S r <;> rw [z] at e <;> cases e
theorem vw_tp {r : Er} {x : V} {ds : List MV} (e : vwE S r = some (.tp ds)) (d : DenX X.K α H r x) : ∃ a vs, x = .ref a ∧ SqT X.K H a vs ∧ DenL X.K α H ds vs := by
  unfold vwE at e
  split at e
  · cases e
  · cases e
  · cases e
  · cases e
  · cases e; exact xe_tup d
  · cases e
  · cases z : lsOf S r <;> rw [z] at e <;> cases e
theorem vw_ls (wd : Wd X.g α S H) {r : Er} {x : V} {ds : List MV} (e : vwE S r = some (.ls ds)) (d : DenX X.K α H r x) : ∃ a vs, x = .ref a ∧ SqL X.K H a vs ∧ DenL X.K α H ds vs := by
  unfold vwE at e
  split at e
  · cases e
  · cases e
  · cases e
  · cases e
  · cases e
  · cases e
  · cases z : lsOf S r with
    | none => rw [z] at e; cases e
    | some es => rw [z] at e; cases e; exact ls_of rfl wd z d
theorem prs_len {e : MV → MV → Option Bool} : ∀ {ds es : List MV} {bs : List Bool}, prs e ds es = some bs → bs.length = min ds.length es.length
  | [], _, _, h => by simp [prs] at h; subst h; simp
  | _ :: _, [], _, h => by simp [prs] at h; subst h; simp
  | d :: ds, f :: fs, bs, h => by
    unfold prs at h
    cases z : e d f with
    | none => rw [z] at h; cases h
    | some k =>
      rw [z] at h
      cases z2 : prs e ds fs with
      | none => simp [z2] at h
      | some cs =>
        simp [z2] at h
        subst h
        simp [prs_len z2]
theorem prs_get {e : MV → MV → Option Bool} : ∀ {ds es : List MV} {bs : List Bool} {j : Nat} {d f : MV}, prs e ds es = some bs → ds[j]? = some d → es[j]? = some f → e d f = some (bs.getD j true)
  | [], _, _, _, _, _, h, h1, _ => by simp at h1
  | _ :: _, [], _, _, _, _, h, _, h2 => by simp at h2
  | d :: ds, f :: fs, bs, j, d', f', h, h1, h2 => by
    unfold prs at h
    cases z : e d f with
    | none => rw [z] at h; cases h
    | some k =>
      rw [z] at h
      cases z2 : prs e ds fs with
      | none => simp [z2] at h
      | some cs =>
        simp [z2] at h
        subst h
        cases j with
        | zero => simp at h1 h2; subst h1 h2; simpa using z
        | succ j => simpa using prs_get z2 (by simpa using h1) (by simpa using h2)
theorem range_all {bs : List Bool} {n : Nat} (h : bs.length = n) : (List.range n).all (fun j => bs.getD j true) = bs.all id := by
  subst h
  rw [Bool.eq_iff_iff, List.all_eq_true, List.all_eq_true]
  constructor
  · intro h x hx
    obtain ⟨i, hi, rfl⟩ := List.getElem_of_mem hx
    have := h i (List.mem_range.mpr hi)
    simpa [List.getD_eq_getElem?_getD, hi] using this
  · intro h i hi
    have hi' := List.mem_range.mp hi
    have := h bs[i] (List.getElem_mem hi')
    simpa [List.getD_eq_getElem?_getD, hi'] using this
variable {pins : List (Addr × Obj)} {σ : St} {s : Shared}
theorem not_both (I : Inv X pins σ H s) {a : Addr} {xs ys : List V} (h : SqL X.K H a xs) (h' : SqT X.K H a ys) : False := by
  obtain ⟨_, _, pl, _⟩ := I.list h
  obtain ⟨_, _, pt, _⟩ := I.tuple h'
  obtain ⟨o, n, e, c, _, _⟩ := pl
  obtain ⟨o', e', c', _⟩ := pt
  rw [e] at e'
  cases e'
  rw [c] at c'
  exact absurd c' (by simp)
/-- one thing is equal to itself -/
theorem eqW_same (I : Inv X pins σ H s) (wd : Wd X.g α S H) {e : MV → MV → Option Bool} (he : ∀ d f v k, Den X.K α H d v → Den X.K α H f v → e d f = some k → k = true) {a b : Er} {x : V} {p q : Vw} {k : Bool}
    (ha : vwE S a = some p) (hb : vwE S b = some q) (da : DenX X.K α H a x) (db : DenX X.K α H b x) (h : eqW e p q = some k) : k = true := by
  have hp : ∀ {ds es : List MV} {vs : List V} {bs : List Bool}, DenL X.K α H ds vs → DenL X.K α H es vs → prs e ds es = some bs → bs.all id = true := by
    intro ds es vs bs l1 l2 z
    rw [List.all_eq_true]
    intro k hk
    obtain ⟨i, hi, rfl⟩ := List.getElem_of_mem hk
    have hl := prs_len z
    have h1 : i < ds.length := by omega
    have h2 : i < es.length := by omega
    obtain ⟨v, g1, g2⟩ := l1.at (List.getElem?_eq_getElem h1)
    obtain ⟨v', g3, g4⟩ := l2.at (List.getElem?_eq_getElem h2)
    rw [g1] at g3; cases g3
    have := he _ _ _ _ g2 g4 (prs_get z (List.getElem?_eq_getElem h1) (List.getElem?_eq_getElem h2))
    simpa [List.getD_eq_getElem?_getD, hi] using this
  cases p with
  | fl y =>
    obtain ⟨rfl, f1⟩ := vw_fl ha da
    cases q with
    | fl z => obtain ⟨rfl, f2⟩ := vw_fl hb db; cases h; exact eqV_refl f1
    | tp ds => obtain ⟨a, vs, rfl, _⟩ := vw_tp hb db; exact absurd (show false = true from f1) Bool.false_ne_true
    | ls ds => obtain ⟨a, vs, rfl, _⟩ := vw_ls wd hb db; exact absurd (show false = true from f1) Bool.false_ne_true
  | tp ds =>
    obtain ⟨a1, vs, rfl, s1, l1⟩ := vw_tp ha da
    cases q with
    | fl z => obtain ⟨rfl, f2⟩ := vw_fl hb db; exact absurd (show false = true from f2) Bool.false_ne_true
    | tp es =>
      obtain ⟨a2, us, e2, s2, l2⟩ := vw_tp hb db
      cases e2
      cases I.tuple_inj s1 s2
      rw [eqW_tp] at h
      cases z : prs e ds es with
      | none => rw [z] at h; cases h
      | some bs =>
        rw [z] at h
        cases h
        show (bs.all id && ds.length == es.length) = true
        rw [hp l1 l2 z, ← l1.length, ← l2.length]; simp
    | ls es => obtain ⟨a2, us, e2, s2, l2⟩ := vw_ls wd hb db; cases e2; exact (not_both I s2 s1).elim
  | ls ds =>
    obtain ⟨a1, vs, rfl, s1, l1⟩ := vw_ls wd ha da
    cases q with
    | fl z => obtain ⟨rfl, f2⟩ := vw_fl hb db; exact absurd (show false = true from f2) Bool.false_ne_true
    | tp es => obtain ⟨a2, us, e2, s2, l2⟩ := vw_tp hb db; cases e2; exact (not_both I s1 s2).elim
    | ls es =>
      obtain ⟨a2, us, e2, s2, l2⟩ := vw_ls wd hb db
      cases e2
      cases I.list_inj s1 s2
      rw [eqW_ls] at h
      rw [if_pos (by rw [← l1.length, ← l2.length])] at h
      cases z : prs e ds es with
      | none => rw [z] at h; cases h
      | some bs => rw [z] at h; cases h; exact hp l1 l2 z
theorem eqv_same (I : Inv X pins σ H s) (wd : Wd X.g α S H) : ∀ (n : Nat) (d f : MV) (v : V) (k : Bool), Den X.K α H d v → Den X.K α H f v → eqv S n d f = some k → k = true
  | 0, _, _, _, _, _, _, h => by cases h
  | n + 1, d, f, v, k, h1, h2, h => by
    unfold eqv at h
    cases za : vwE S (.val d) with
    | none => rw [za] at h; cases h
    | some p =>
      cases zb : vwE S (.val f) with
      | none => rw [za, zb] at h; cases h
      | some q =>
        rw [za, zb] at h
        exact eqW_same I wd (eqv_same I wd n) za zb (a := .val d) (b := .val f) h1 h2 h
/-- the answers of items -/
theorem items_at {e : MV → MV → Option Bool} {A : Around} (he : ∀ d f x y u v k, Den X.K α H d x → Den X.K α H f y → RelV x u → RelV y v → e d f = some k → SeqAt.EqAt A s u v k)
    {ds es : List MV} {vs us : List V} {its its2 : List Value} {bs : List Bool} (l1 : DenL X.K α H ds vs) (l2 : DenL X.K α H es us) (r1 : Vals vs its) (r2 : Vals us its2) (z : prs e ds es = some bs) :
    ∀ j (h1 : j < its.toArray.size) (h2 : j < its2.toArray.size), SeqAt.EqAt A s its.toArray[j] its2.toArray[j] (bs.getD j true) := by
  intro j h1 h2
  have g1 : j < vs.length := by rw [r1.length]; simpa using h1
  have g2 : j < us.length := by rw [r2.length]; simpa using h2
  obtain ⟨d, d1, d2⟩ := l1.get (List.getElem?_eq_getElem g1)
  obtain ⟨f, f1, f2⟩ := l2.get (List.getElem?_eq_getElem g2)
  obtain ⟨u, u1, u2⟩ := r1.get (List.getElem?_eq_getElem g1)
  obtain ⟨v, v1, v2⟩ := r2.get (List.getElem?_eq_getElem g2)
  have e1 : its.toArray[j] = u := by
    have : its[j]? = some (its[j]'(by simpa using h1)) := List.getElem?_eq_getElem _
    rw [u1] at this
    simpa using (Option.some.inj this).symm
  have e2 : its2.toArray[j] = v := by
    have : its2[j]? = some (its2[j]'(by simpa using h2)) := List.getElem?_eq_getElem _
    rw [v1] at this
    simpa using (Option.some.inj this).symm
  rw [e1, e2]
  exact he d f _ _ u v _ d2 f2 u2 v2 (prs_get z d1 f1)
theorem eqAt_m (I : Inv X pins σ H s) (wd : Wd X.g α S H) : ∀ (n : Nat) (A : Around) (d f : MV) (x y : V) (u v : Value) (k : Bool), A.units + n < cLine → Den X.K α H d x → Den X.K α H f y → RelV x u → RelV y v → eqv S n d f = some k → SeqAt.EqAt A s u v k
  | 0, _, _, _, _, _, _, _, _, _, _, _, _, _, h => by cases h
  | n + 1, A, d, f, x, y, u, v, k, hu, h1, h2, rx, ry, h => by
    have hu0 : A.units < cLine := by omega
    have hsame := h
    unfold eqv at h
    cases za : vwE S (.val d) with
    | none => rw [za] at h; cases h
    | some p =>
      cases zb : vwE S (.val f) with
      | none => rw [za, zb] at h; cases h
      | some q =>
        rw [za, zb] at h
        have h : eqW (eqv S n) p q = some k := h
        have he := fun d f x y u v k a b c d' e => eqAt_m I wd n A.in1 d f x y u v k (show A.units + 1 + n < cLine by omega) a b c d' e
        cases p with
        | fl x' =>
          obtain ⟨rfl, fx⟩ := vw_fl za (α := α) (H := H) (X := X) h1
          cases q with
          | fl y' => obtain ⟨rfl, fy⟩ := vw_fl zb (α := α) (H := H) (X := X) h2; cases h; exact eqAt_V rx ry fx fy
          | tp es =>
            obtain ⟨b, us, rfl, s2, l2⟩ := vw_tp zb (α := α) (H := H) (X := X) h2
            cases ry; cases h
            obtain ⟨its, _, pt, _⟩ := I.tuple s2
            exact eq_tr rx fx pt hu0
          | ls es =>
            obtain ⟨b, us, rfl, s2, l2⟩ := vw_ls wd zb h2
            cases ry; cases h
            obtain ⟨its, _, pl, _⟩ := I.list s2
            exact eq_lr rx fx pl.isList hu0
        | tp ds =>
          obtain ⟨a, vs, rfl, s1, l1⟩ := vw_tp za (α := α) (H := H) (X := X) h1
          cases rx
          obtain ⟨its, r1, pt, _⟩ := I.tuple s1
          cases q with
          | fl y' => obtain ⟨rfl, fy⟩ := vw_fl zb (α := α) (H := H) (X := X) h2; cases h; exact eq_tl ry fy pt hu0
          | tp es =>
            obtain ⟨b, us, rfl, s2, l2⟩ := vw_tp zb (α := α) (H := H) (X := X) h2
            cases ry
            by_cases hab : a = b
            · subst hab
              rw [eqv_same I wd (n + 1) d f _ k h1 h2 hsame]
              exact SeqAt.EqAt.same _
            · obtain ⟨its2, r2, pt2, _⟩ := I.tuple s2
              rw [eqW_tp] at h
              cases z : prs (eqv S n) ds es with
              | none => rw [z] at h; cases h
              | some bs =>
                rw [z] at h
                cases h
                have := SeqAt.RcAt.tuples pt pt2 hu0 (items_at he l1 l2 r1 r2 z)
                have hl := prs_len z
                rw [range_all (by rw [hl]; simp [← r1.length, ← r2.length, l1.length, l2.length])] at this
                have e3 : (its.toArray.size == its2.toArray.size) = (ds.length == es.length) := by simp [← r1.length, ← r2.length, l1.length, l2.length]
                rw [e3] at this
                exact SeqAt.EqAt.of_refs hab this
          | ls es =>
            obtain ⟨b, us, rfl, s2, l2⟩ := vw_ls wd zb h2
            cases ry; cases h
            obtain ⟨its2, _, pl, _⟩ := I.list s2
            exact SeqAt.EqAt.tuple_list pt pl.isList hu0
        | ls ds =>
          obtain ⟨a, vs, rfl, s1, l1⟩ := vw_ls wd za h1
          cases rx
          obtain ⟨its, r1, pl, _⟩ := I.list s1
          cases q with
          | fl y' => obtain ⟨rfl, fy⟩ := vw_fl zb (α := α) (H := H) (X := X) h2; cases h; exact eq_ll ry fy pl.isList hu0
          | tp es =>
            obtain ⟨b, us, rfl, s2, l2⟩ := vw_tp zb (α := α) (H := H) (X := X) h2
            cases ry; cases h
            obtain ⟨its2, _, pt, _⟩ := I.tuple s2
            exact SeqAt.EqAt.list_tuple pl.isList pt hu0
          | ls es =>
            obtain ⟨b, us, rfl, s2, l2⟩ := vw_ls wd zb h2
            cases ry
            by_cases hab : a = b
            · subst hab
              rw [eqv_same I wd (n + 1) d f _ k h1 h2 hsame]
              exact SeqAt.EqAt.same _
            · obtain ⟨its2, r2, pl2, _⟩ := I.list s2
              rw [eqW_ls] at h
              by_cases hl : ds.length = es.length
              · rw [if_pos hl] at h
                cases z : prs (eqv S n) ds es with
                | none => rw [z] at h; cases h
                | some bs =>
                  rw [z] at h
                  cases h
                  have hs : its.toArray.size = its2.toArray.size := by simp [← r1.length, ← r2.length, l1.length, l2.length, hl]
                  have := SeqAt.RcAt.lists pl.isList pl2.isList hs hu0 (items_at he l1 l2 r1 r2 z)
                  have hl' := prs_len z
                  rw [range_all (by rw [hl']; simp [← r1.length, l1.length, hl])] at this
                  exact SeqAt.EqAt.of_refs hab this
              · rw [if_neg hl] at h
                cases h
                exact SeqAt.EqAt.of_refs hab (SeqAt.RcAt.lists_lengths pl.isList pl2.isList (by simpa [← r1.length, ← r2.length, l1.length, l2.length] using hl) hu0)

/-- at the top: a == b, a != b -/
theorem top_m {RC : Around → Shared → Value → Value → Bool → Prop} {tr : Bool → Bool} {A : Around}
    (hff : ∀ x y u v, RelV x u → RelV y v → flatV x = true → flatV y = true → RC A s u v (tr (eqV x y)))
    (hfl : ∀ x v l items, RelV x v → flatV x = true → s.heap.IsList l items → A.units < cLine → RC A s v (.ref l) (tr false) ∧ RC A s (.ref l) v (tr false))
    (hft : ∀ x v l items, RelV x v → flatV x = true → s.heap.IsTuple l items → A.units < cLine → RC A s v (.ref l) (tr false) ∧ RC A s (.ref l) v (tr false))
    (hlt : ∀ l b items items2, s.heap.IsList l items → s.heap.IsTuple b items2 → A.units < cLine → RC A s (.ref l) (.ref b) (tr false) ∧ RC A s (.ref b) (.ref l) (tr false))
    (htt : ∀ (l b : Addr) (items items2 : Array Value) (e : Nat → Bool), s.heap.IsTuple l items → s.heap.IsTuple b items2 → A.units < cLine → (∀ j (h1 : j < items.size) (h2 : j < items2.size), SeqAt.EqAt A.in1 s items[j] items2[j] (e j)) → RC A s (.ref l) (.ref b) (tr ((List.range (min items.size items2.size)).all e && items.size == items2.size)))
    (hll : ∀ (l b : Addr) (items items2 : Array Value) (e : Nat → Bool), s.heap.IsList l items → s.heap.IsList b items2 → items.size = items2.size → A.units < cLine → (∀ j (h1 : j < items.size) (h2 : j < items2.size), SeqAt.EqAt A.in1 s items[j] items2[j] (e j)) → RC A s (.ref l) (.ref b) (tr ((List.range items.size).all e)))
    (hln : ∀ (l b : Addr) (items items2 : Array Value), s.heap.IsList l items → s.heap.IsList b items2 → (items.size != items2.size) = true → A.units < cLine → RC A s (.ref l) (.ref b) (tr false))
    (I : Inv X pins σ H s) (wd : Wd X.g α S H) (n : Nat) {a b : Er} {x y : V} {u v : Value} {k : Bool} (hu : A.units + (n + 1) < cLine) (h1 : DenX X.K α H a x) (h2 : DenX X.K α H b y) (rx : RelV x u) (ry : RelV y v) (h : eqvE S n a b = some k) : RC A s u v (tr k) := by
  have hu0 : A.units < cLine := by omega
  unfold eqvE at h
  cases za : vwE S a with
  | none => rw [za] at h; cases h
  | some p =>
    cases zb : vwE S b with
    | none => rw [za, zb] at h; cases h
    | some q =>
      rw [za, zb] at h
      have h : eqW (eqv S n) p q = some k := h
      have he := fun d f x y u v k a b c d' e => eqAt_m I wd n A.in1 d f x y u v k (show A.units + 1 + n < cLine by omega) a b c d' e
      cases p with
      | fl x' =>
        obtain ⟨rfl, fx⟩ := vw_fl za h1
        cases q with
        | fl y' => obtain ⟨rfl, fy⟩ := vw_fl zb h2; cases h; exact hff _ _ _ _ rx ry fx fy
        | tp es =>
          obtain ⟨b, us, rfl, s2, l2⟩ := vw_tp zb h2
          cases ry; cases h
          obtain ⟨its, _, pt, _⟩ := I.tuple s2
          exact (hft _ _ _ _ rx fx pt hu0).1
        | ls es =>
          obtain ⟨b, us, rfl, s2, l2⟩ := vw_ls wd zb h2
          cases ry; cases h
          obtain ⟨its, _, pl, _⟩ := I.list s2
          exact (hfl _ _ _ _ rx fx pl.isList hu0).1
      | tp ds =>
        obtain ⟨a, vs, rfl, s1, l1⟩ := vw_tp za h1
        cases rx
        obtain ⟨its, r1, pt, _⟩ := I.tuple s1
        cases q with
        | fl y' => obtain ⟨rfl, fy⟩ := vw_fl zb h2; cases h; exact (hft _ _ _ _ ry fy pt hu0).2
        | tp es =>
          obtain ⟨b, us, rfl, s2, l2⟩ := vw_tp zb h2
          cases ry
          obtain ⟨its2, r2, pt2, _⟩ := I.tuple s2
          rw [eqW_tp] at h
          cases z : prs (eqv S n) ds es with
          | none => rw [z] at h; cases h
          | some bs =>
            rw [z] at h
            cases h
            have := htt _ _ _ _ _ pt pt2 hu0 (items_at he l1 l2 r1 r2 z)
            have hl := prs_len z
            rw [range_all (by rw [hl]; simp [← r1.length, ← r2.length, l1.length, l2.length])] at this
            have e3 : (its.toArray.size == its2.toArray.size) = (ds.length == es.length) := by simp [← r1.length, ← r2.length, l1.length, l2.length]
            rw [e3] at this
            exact this
        | ls es =>
          obtain ⟨b, us, rfl, s2, l2⟩ := vw_ls wd zb h2
          cases ry; cases h
          obtain ⟨its2, _, pl, _⟩ := I.list s2
          exact (hlt _ _ _ _ pl.isList pt hu0).2
      | ls ds =>
        obtain ⟨a, vs, rfl, s1, l1⟩ := vw_ls wd za h1
        cases rx
        obtain ⟨its, r1, pl, _⟩ := I.list s1
        cases q with
        | fl y' => obtain ⟨rfl, fy⟩ := vw_fl zb h2; cases h; exact (hfl _ _ _ _ ry fy pl.isList hu0).2
        | tp es =>
          obtain ⟨b, us, rfl, s2, l2⟩ := vw_tp zb h2
          cases ry; cases h
          obtain ⟨its2, _, pt, _⟩ := I.tuple s2
          exact (hlt _ _ _ _ pl.isList pt hu0).1
        | ls es =>
          obtain ⟨b, us, rfl, s2, l2⟩ := vw_ls wd zb h2
          cases ry
          obtain ⟨its2, r2, pl2, _⟩ := I.list s2
          rw [eqW_ls] at h
          by_cases hl : ds.length = es.length
          · rw [if_pos hl] at h
            cases z : prs (eqv S n) ds es with
            | none => rw [z] at h; cases h
            | some bs =>
              rw [z] at h
              cases h
              have hs : its.toArray.size = its2.toArray.size := by simp [← r1.length, ← r2.length, l1.length, l2.length, hl]
              have := hll _ _ _ _ _ pl.isList pl2.isList hs hu0 (items_at he l1 l2 r1 r2 z)
              have hl' := prs_len z
              rw [range_all (by rw [hl']; simp [← r1.length, l1.length, hl])] at this
              exact this
          · rw [if_neg hl] at h
            cases h
            exact hln _ _ _ _ pl.isList pl2.isList (by simpa [← r1.length, ← r2.length, l1.length, l2.length] using hl) hu0
theorem rcAt_m (I : Inv X pins σ H s) (wd : Wd X.g α S H) (n : Nat) {A : Around} {a b : Er} {x y : V} {u v : Value} {k : Bool} (hu : A.units + (n + 1) < cLine) (h1 : DenX X.K α H a x) (h2 : DenX X.K α H b y) (rx : RelV x u) (ry : RelV y v) (h : eqvE S n a b = some k) : SeqAt.RcAt A s u v k :=
  top_m (RC := SeqAt.RcAt) (tr := id) (fun _ _ _ _ a b c d => rcAt_V a b c d) (fun _ _ _ _ a b c d => ⟨rc_lr a b c d, rc_ll a b c d⟩) (fun _ _ _ _ a b c d => ⟨rc_tr a b c d, rc_tl a b c d⟩)
    (fun _ _ _ _ a b c => ⟨SeqAt.RcAt.list_tuple a b c, SeqAt.RcAt.tuple_list b a c⟩) (fun _ _ _ _ _ a b c d => SeqAt.RcAt.tuples a b c d) (fun _ _ _ _ _ a b c d e => SeqAt.RcAt.lists a b c d e) (fun _ _ _ _ a b c d => SeqAt.RcAt.lists_lengths a b c d)
    I wd n hu h1 h2 rx ry h
theorem rnAt_m (I : Inv X pins σ H s) (wd : Wd X.g α S H) (n : Nat) {A : Around} {a b : Er} {x y : V} {u v : Value} {k : Bool} (hu : A.units + (n + 1) < cLine) (h1 : DenX X.K α H a x) (h2 : DenX X.K α H b y) (rx : RelV x u) (ry : RelV y v) (h : eqvE S n a b = some k) : SeqAt.RcNeAt A s u v (!k) :=
  top_m (RC := SeqAt.RcNeAt) (tr := fun b => !b) (fun _ _ _ _ a b c d => rnAt_V a b c d) (fun _ _ _ _ a b c d => ⟨rn_lr a b c d, rn_ll a b c d⟩) (fun _ _ _ _ a b c d => ⟨rn_tr a b c d, rn_tl a b c d⟩)
    (fun _ _ _ _ a b c => ⟨SeqAt.RcNeAt.list_tuple a b c, SeqAt.RcNeAt.tuple_list b a c⟩) (fun _ _ _ _ _ a b c d => SeqAt.RcNeAt.tuples a b c d) (fun _ _ _ _ _ a b c d e => SeqAt.RcNeAt.lists a b c d e) (fun _ _ _ _ a b c d => SeqAt.RcNeAt.lists_lengths a b c d)
    I wd n hu h1 h2 rx ry h
/-! one thing is one datum -/
mutual
theorem Den.inj (I : Inv X pins σ H s) (wd : Wd X.g α S H) : ∀ {d f : MV} {v : V}, Den X.K α H d v → Den X.K α H f v → d = f
  | .non, f, v, h, h' => by cases of_non h; cases f <;> first | rfl | (have := of_bl h'; cases this; done) | (have := of_int h'; cases this; done) | (have := of_str h'; cases this; done) | (have := of_typ h'; cases this; done) | (obtain ⟨_, _, e, _⟩ := of_tup h'; cases e; done) | (obtain ⟨_, _, e, _⟩ := of_scr h'; cases e; done) | (obtain ⟨_, e, _⟩ := of_loc h'; cases e; done)
  | .bl b, f, v, h, h' => by cases of_bl h; cases f <;> first | (have := of_bl h'; cases this; rfl; done) | (have := of_non h'; cases this; done) | (have := of_int h'; cases this; done) | (have := of_str h'; cases this; done) | (have := of_typ h'; cases this; done) | (obtain ⟨_, _, e, _⟩ := of_tup h'; cases e; done) | (obtain ⟨_, _, e, _⟩ := of_scr h'; cases e; done) | (obtain ⟨_, e, _⟩ := of_loc h'; cases e; done)
  | .int b, f, v, h, h' => by cases of_int h; cases f <;> first | (have := of_int h'; cases this; rfl; done) | (have := of_non h'; cases this; done) | (have := of_bl h'; cases this; done) | (have := of_str h'; cases this; done) | (have := of_typ h'; cases this; done) | (obtain ⟨_, _, e, _⟩ := of_tup h'; cases e; done) | (obtain ⟨_, _, e, _⟩ := of_scr h'; cases e; done) | (obtain ⟨_, e, _⟩ := of_loc h'; cases e; done)
  | .str b, f, v, h, h' => by cases of_str h; cases f <;> first | (have := of_str h'; rw [mkS_inj (V.str.inj this)]; done) | (have := of_non h'; cases this; done) | (have := of_bl h'; cases this; done) | (have := of_int h'; cases this; done) | (have := of_typ h'; cases this; done) | (obtain ⟨_, _, e, _⟩ := of_tup h'; cases e; done) | (obtain ⟨_, _, e, _⟩ := of_scr h'; cases e; done) | (obtain ⟨_, e, _⟩ := of_loc h'; cases e; done)
  | .typ b, f, v, h, h' => by cases of_typ h; cases f <;> first | (have := of_typ h'; cases this; rfl; done) | (have := of_non h'; cases this; done) | (have := of_bl h'; cases this; done) | (have := of_int h'; cases this; done) | (have := of_str h'; cases this; done) | (obtain ⟨_, _, e, _⟩ := of_tup h'; cases e; done) | (obtain ⟨_, _, e, _⟩ := of_scr h'; cases e; done) | (obtain ⟨_, e, _⟩ := of_loc h'; cases e; done)
  | .tup ds, f, v, h, h' => by
    obtain ⟨a, vs, rfl, s1, l1⟩ := of_tup h
    cases f with
    | tup es =>
      obtain ⟨a2, us, e2, s2, l2⟩ := of_tup h'
      cases e2
      cases I.tuple_inj s1 s2
      rw [DenL.inj I wd l1 l2]
    | scr es => obtain ⟨a2, us, e2, s2, l2⟩ := of_scr h'; cases e2; exact (not_both I s2.l s1).elim
    | loc l =>
      obtain ⟨a2, e2, h2⟩ := of_loc h'
      cases e2
      obtain ⟨ho, k1, k2, k3⟩ := wd.mem (List.mem_of_getElem? h2)
      rcases s1 with (s1 | ⟨o, s1⟩) | ⟨o, its, n, s1, _⟩
      · rw [k1] at s1; exact absurd (Option.some.inj s1) (k2 _)
      · rw [k1] at s1; exact absurd (Option.some.inj s1) (k3 _ _)
      · have := (I.bs a o (I.mod.kin a o s1)).2; rw [k1] at this; cases this
    | non => cases of_non h'
    | bl b => cases of_bl h'
    | int b => cases of_int h'
    | str b => cases of_str h'
    | typ b => cases of_typ h'
  | .scr ds, f, v, h, h' => by
    obtain ⟨a, vs, rfl, s1, l1⟩ := of_scr h
    cases f with
    | scr es =>
      obtain ⟨a2, us, e2, s2, l2⟩ := of_scr h'
      cases e2
      cases I.list_inj s1.l s2.l
      rw [DenL.inj I wd l1 l2]
    | tup es => obtain ⟨a2, us, e2, s2, l2⟩ := of_tup h'; cases e2; exact (not_both I s1.l s2).elim
    | loc l =>
      obtain ⟨a2, e2, h2⟩ := of_loc h'
      cases e2
      obtain ⟨ho, k1, k2, k3⟩ := wd.mem (List.mem_of_getElem? h2)
      rcases s1 with ⟨o, s1⟩ | ⟨o, its, n, s1, _⟩
      · rw [k1] at s1; exact absurd (Option.some.inj s1) (k3 _ _)
      · have := (I.bs a o (I.mod.kin a o s1)).2; rw [k1] at this; cases this
    | non => cases of_non h'
    | bl b => cases of_bl h'
    | int b => cases of_int h'
    | str b => cases of_str h'
    | typ b => cases of_typ h'
  | .loc l, f, v, h, h' => by
    obtain ⟨a, rfl, h1⟩ := of_loc h
    obtain ⟨ho, k1, k2, k3⟩ := wd.mem (List.mem_of_getElem? h1)
    cases f with
    | loc m =>
      obtain ⟨a2, e2, h2⟩ := of_loc h'
      cases e2
      by_cases hlm : l = m
      · rw [hlm]
      · exact absurd rfl (wd.ne h1 h2 hlm)
    | tup es =>
      obtain ⟨a2, us, e2, s1, l2⟩ := of_tup h'
      cases e2
      rcases s1 with (s1 | ⟨o, s1⟩) | ⟨o, its, n, s1, _⟩
      · rw [k1] at s1; exact absurd (Option.some.inj s1) (k2 _)
      · rw [k1] at s1; exact absurd (Option.some.inj s1) (k3 _ _)
      · have := (I.bs a o (I.mod.kin a o s1)).2; rw [k1] at this; cases this
    | scr es =>
      obtain ⟨a2, us, e2, s1, l2⟩ := of_scr h'
      cases e2
      rcases s1 with ⟨o, s1⟩ | ⟨o, its, n, s1, _⟩
      · rw [k1] at s1; exact absurd (Option.some.inj s1) (k3 _ _)
      · have := (I.bs a o (I.mod.kin a o s1)).2; rw [k1] at this; cases this
    | non => cases of_non h'
    | bl b => cases of_bl h'
    | int b => cases of_int h'
    | str b => cases of_str h'
    | typ b => cases of_typ h'
theorem DenL.inj (I : Inv X pins σ H s) (wd : Wd X.g α S H) : ∀ {ds fs : List MV} {vs : List V}, DenL X.K α H ds vs → DenL X.K α H fs vs → ds = fs
  | [], fs, vs, h, h' => by
    cases h.isnil
    cases fs with
    | nil => rfl
    | cons f fs => obtain ⟨_, _, e, _⟩ := h'.uncons; cases e
  | d :: ds, fs, vs, h, h' => by
    obtain ⟨v, r, rfl, a, l⟩ := h.uncons
    cases fs with
    | nil => cases h'.isnil
    | cons f fs =>
      obtain ⟨v', r', e, a', l'⟩ := h'.uncons
      cases e
      rw [Den.inj I wd a a', DenL.inj I wd l l']
end
end
end M
end L2

namespace L2
namespace M
open PySem PySem.Spec PyProof.Rows

/-! ## less: by the first place where two tuples are unlike -/
inductive LexR (A : Around) (s : Shared) : List Value → List Value → Bool → Prop
  | nn : LexR A s [] [] false
  | nc (x xs) : LexR A s [] (x :: xs) true
  | cn (y ys) : LexR A s (y :: ys) [] false
  | eq {y x ys xs k} : SeqAt.EqAt A s y x true → LexR A s ys xs k → LexR A s (y :: ys) (x :: xs) k
  | ne {y x ys xs k} : SeqAt.EqAt A s y x false → (∀ (prog : Program) (w : World) (E Q : Value → Shared → Prop), Q (.bool k) s → wpAny (model prog w) A (richCompare .Lt y x) Q E s) → LexR A s (y :: ys) (x :: xs) k
section
open PySem.SeqAt
open PySem.AutoSeq1 (wpAny_loadPart')
open PySem.MeetsSeq PySem.MeetsSeq2 PySem.MeetsSeq3
theorem tuple_ltAt (l b : Addr) (its its2 : Array Value) (n n2 : Nat) (dd dd2 : Option Addr) (sl sl2 : Array (Option Value)) (k : Bool) :
    Meets (Builtin.«tuple.__lt__» ⟨[.ref l, .ref b], []⟩)
      (fun A R s => s.heap.get? l = some { cls := .type "tuple", dict := dd, data := .seq its n, slots := sl } ∧ s.heap.get? b = some { cls := .type "tuple", dict := dd2, data := .seq its2 n2, slots := sl2 } ∧
        LexR A.in1 s its.toList its2.toList k ∧ R (.ok (.ret (.bool k))) s) :=
  .of_wp fun prog w A R s h => by
    obtain ⟨hp, g, d, tk, os⟩ := s; obtain ⟨hl, hb, hx, h⟩ := h
    have f2 := AutoSeq1.sub_tuple_tuple
    wp_walk using wpAny_loadPart' hl, wpAny_loadPart' hb, wpAny_forIn_list _ (fun rest b s' => b.1 = none ∧ s' = ⟨hp, g, d, tk, os⟩ ∧ ∃ (vs ws : List Value), rest = vs.zip ws ∧
      LexR A.in1 ⟨hp, g, d, tk, os⟩ vs ws k ∧ vs.length + its2.size = ws.length + its.size) _
    case turn =>
      rintro ⟨y, x⟩ rest b s' ⟨hb', rfl, vs, ws, hz, hlx, hlen⟩
      cases hlx with
      | nn => rw [List.zip_nil_left] at hz; cases hz
      | nc x xs => rw [List.zip_nil_left] at hz; cases hz
      | cn y ys => rw [List.zip_nil_right] at hz; cases hz
      | @eq y' x' ys xs k' he hr =>
        rw [List.zip_cons_cons] at hz
        injection hz with hyx hrest
        injection hyx with hy hx
        subst hy hx
        simp only [List.length_cons] at hlen
        refine wpAny_bind (he prog w _ _ ?_)
        wp_walk
        exact ⟨rfl, rfl, _, _, hrest, hr, by omega⟩
      | @ne y' x' ys xs k' he hr =>
        rw [List.zip_cons_cons] at hz
        injection hz with hyx hrest
        injection hyx with hy hx
        subst hy hx
        refine wpAny_bind (he prog w _ _ ?_)
        have hri := hr prog w
        wp_walk using hri
        exact ⟨_, rfl, by simpa using h⟩
    case fin =>
      rintro ⟨b1, b2⟩ s' ⟨hb', rfl, vs, ws, hz, hlx, hlen⟩
      simp only at hb'
      subst hb'
      have hv : k = decide (its.size < its2.size) := by
        cases hlx with
        | nn => simp only [List.length_nil] at hlen; exact (decide_eq_false (by omega)).symm
        | nc x xs => simp only [List.length_nil, List.length_cons] at hlen; exact (decide_eq_true (by omega)).symm
        | cn y ys => simp only [List.length_nil, List.length_cons] at hlen; exact (decide_eq_false (by omega)).symm
        | eq he hr => rw [List.zip_cons_cons] at hz; cases hz
        | ne he hr => rw [List.zip_cons_cons] at hz; cases hz
      rw [hv] at h
      wp_walk
      exact ⟨_, rfl, by simpa [Builtin.Tuple.tupleCompareSizes] using h⟩
    case h =>
      exact ⟨rfl, rfl, its.toList, its2.toList, rfl, hx, by simp; omega⟩
end
theorem rcLt_tup {A : Around} {s : Shared} {l b : Addr} {its its2 : Array Value} {k : Bool} (hl : IsTup s.heap l its) (hb : IsTup s.heap b its2) (hx : LexR A.in1 s its.toList its2.toList k) (hu : A.units < cLine) (prog : Program) (w : World) (E Q : Value → Shared → Prop) (h : Q (.bool k) s) :
    wpAny (model prog w) A (richCompare .Lt (.ref l) (.ref b)) Q E s := by
  obtain ⟨⟨cls, dd, data, sl⟩, ho, hc, n, hd⟩ := id hl
  obtain ⟨⟨cls2, dd2, data2, sl2⟩, ho2, hc2, n2, hd2⟩ := id hb
  simp only at hc hd hc2 hd2
  subst hc hd hc2 hd2
  exact richCompare_meets_room (op := .Lt) ⟨_, ho, rfl⟩ ⟨_, ho2, rfl⟩ PySem.F.slot_tuple_lt PySem.F.entry_tuple_lt (PySem.F.args_tuple_lt_2 _ _) (tuple_ltAt l b its its2 n n2 dd dd2 sl sl2 k)
    ⟨ho, ho2, hx, show Value.bool k ≠ Value.notImplemented ∧ Q (.bool k) s from ⟨(fun x => nomatch x), h⟩⟩ hu
def lexv (e l : MV → MV → Option Bool) : List MV → List MV → Option Bool
  | [], [] => some false
  | [], _ :: _ => some true
  | _ :: _, [] => some false
  | d :: ds, f :: fs => (e d f).bind fun k => if k = true then lexv e l ds fs else l d f
def ltv (S : Sto) : Nat → MV → MV → Option Bool
  | 0, _, _ => none
  | n + 1, .int i, .int j => some (decide (i < j))
  | n + 1, .str x, .str y => some (decide (x < y))
  | n + 1, .tup ds, .tup es => lexv (eqv S n) (ltv S n) ds es
  | _, _, _ => none
section
variable {X : Cx} {α : List Addr} {S : Sto} {H : Hp} {pins : List (Addr × Obj)} {σ : St} {s : Shared}
theorem lex_m {A : Around} {e l : MV → MV → Option Bool} (he : ∀ d f x y u v k, Den X.K α H d x → Den X.K α H f y → RelV x u → RelV y v → e d f = some k → SeqAt.EqAt A s u v k)
    (hl : ∀ d f x y u v k, Den X.K α H d x → Den X.K α H f y → RelV x u → RelV y v → l d f = some k → ∀ (prog : Program) (w : World) (E Q : Value → Shared → Prop), Q (.bool k) s → wpAny (model prog w) A (richCompare .Lt u v) Q E s) :
    ∀ {ds fs : List MV} {vs us : List V} {its its2 : List Value} {k : Bool}, DenL X.K α H ds vs → DenL X.K α H fs us → Vals vs its → Vals us its2 → lexv e l ds fs = some k → LexR A s its its2 k
  | [], [], _, _, _, _, k, l1, l2, r1, r2, h => by
    cases l1.isnil; cases l2.isnil; cases r1; cases r2; cases h; exact .nn
  | [], f :: fs, _, _, _, _, k, l1, l2, r1, r2, h => by
    cases l1.isnil
    obtain ⟨v, r, rfl, a, l⟩ := l2.uncons
    cases r1
    cases r2 with
    | cons a b => cases h; exact .nc _ _
  | d :: ds, [], _, _, _, _, k, l1, l2, r1, r2, h => by
    cases l2.isnil
    obtain ⟨v, r, rfl, a, l⟩ := l1.uncons
    cases r2
    cases r1 with
    | cons a b => cases h; exact .cn _ _
  | d :: ds, f :: fs, _, _, _, _, k, l1, l2, r1, r2, h => by
    obtain ⟨v, r, rfl, a, l1'⟩ := l1.uncons
    obtain ⟨v2, r3, rfl, a2, l2'⟩ := l2.uncons
    cases r1 with
    | cons b1 c1 =>
      cases r2 with
      | cons b2 c2 =>
        unfold lexv at h
        cases z : e d f with
        | none => rw [z] at h; cases h
        | some kk =>
          rw [z] at h
          have h : (if kk = true then lexv e l ds fs else l d f) = some k := h
          cases kk with
          | true =>
            rw [if_pos rfl] at h
            exact .eq (he d f _ _ _ _ _ a a2 b1 b2 z) (lex_m he hl l1' l2' c1 c2 h)
          | false =>
            rw [if_neg Bool.false_ne_true] at h
            exact .ne (he d f _ _ _ _ _ a a2 b1 b2 z) (hl d f _ _ _ _ _ a a2 b1 b2 h)
theorem ltAt_m (I : Inv X pins σ H s) (wd : Wd X.g α S H) : ∀ (n : Nat) (A : Around) (d f : MV) (x y : V) (u v : Value) (k : Bool), A.units + n < cLine → Den X.K α H d x → Den X.K α H f y → RelV x u → RelV y v → ltv S n d f = some k →
    ∀ (prog : Program) (w : World) (E Q : Value → Shared → Prop), Q (.bool k) s → wpAny (model prog w) A (richCompare .Lt u v) Q E s
  | 0, _, _, _, _, _, _, _, _, _, _, _, _, _, h => by cases h
  | n + 1, A, d, f, x, y, u, v, k, hu, h1, h2, rx, ry, h => by
    intro prog w E Q hq
    unfold ltv at h
    split at h
    · cases h
    · cases h
      cases of_int h1; cases of_int h2
      obtain ⟨t, rfl⟩ := rx
      obtain ⟨t', rfl⟩ := ry
      exact (PyProof.Rows.lt_int hq : wpAny (model prog w) A (compareOp .Lt _ _) Q E s)
    · cases h
      cases of_str h1; cases of_str h2
      obtain ⟨t, rfl⟩ := rx
      obtain ⟨t', rfl⟩ := ry
      refine (PySem.P.lt_str ?_ : wpAny (model prog w) A (compareOp .Lt _ _) Q E s)
      rw [mkS_cps, mkS_cps]
      exact hq
    · rename_i n' ds es hn
      obtain ⟨a, vs, rfl, s1, l1⟩ := of_tup h1
      obtain ⟨b, us, rfl, s2, l2⟩ := of_tup h2
      cases rx; cases ry
      obtain ⟨its, r1, pt, _⟩ := I.tuple s1
      obtain ⟨its2, r2, pt2, _⟩ := I.tuple s2
      cases hn
      refine rcLt_tup pt pt2 ?_ (by omega) prog w E Q hq
      exact lex_m (fun d f x y u v k a b c d' e => eqAt_m I wd n A.in1 d f x y u v k (show A.units + 1 + n < cLine by omega) a b c d' e)
        (fun d f x y u v k a b c d' e => ltAt_m I wd n A.in1 d f x y u v k (show A.units + 1 + n < cLine by omega) a b c d' e) l1 l2 r1 r2 h
    · cases h
end
end M
end L2

namespace L2
namespace M
open PySem PySem.Spec PyProof.Rows
section
variable {X : Cx} {W : XW} {a b c e : Expr} {es : List Expr} {f g h : Rho → Sto → R Er} {af : Rho → Sto → R (List Er)} {pos : Pos}

/-! ## numbers -/
def iiF (C : Int → Int → Prop) [∀ i j, Decidable (C i j)] (g : Int → Int → Int) : Er → Er → Sto → R Er
  | .val (.int i), .val (.int j), S => if C i j then .ok (.val (.int (g i j))) S else .no
  | _, _, _ => .no
def ibF (g : Int → Int → Bool) : Er → Er → Sto → R Er
  | .val (.int i), .val (.int j), S => .ok (.val (.bl (g i j))) S
  | _, _, _ => .no
theorem op2_ii {C C' : Int → Int → Prop} [∀ i j, Decidable (C i j)] {g : Int → Int → Int} (h : ∀ i j, C i j → C' i j) : Op2 X W (rI C' fun i j => .int (g i j)) (iiF C g) := by
  intro p q x y α S H Q wd dp dq post
  unfold iiF at post
  split at post
  · split at post
    · rename_i hc
      exact ⟨_, _, xe_int dp, xe_int dq, h _ _ hc, Post.val post wd (den_int _)⟩
    · exact post.elim
  · exact post.elim
theorem op2_ii0 {g : Int → Int → Int} : Op2 X W (rI0 fun i j => .int (g i j)) (iiF (fun _ _ => True) g) := by
  intro p q x y α S H Q wd dp dq post
  unfold iiF at post
  split at post
  · rw [if_pos trivial] at post
    exact ⟨_, _, xe_int dp, xe_int dq, Post.val post wd (den_int _)⟩
  · exact post.elim
theorem op2_ib {g : Int → Int → Bool} : Op2 X W (rI0 fun i j => .bl (g i j)) (ibF g) := by
  intro p q x y α S H Q wd dp dq post
  unfold ibF at post
  split at post
  · exact ⟨_, _, xe_int dp, xe_int dq, Post.val post wd (den_bl _)⟩
  · exact post.elim
abbrev subF := iiF (fun _ _ => True) fun i j => i - j
theorem pm_sub (ha : PEm X W a f) (hb : PEm X W b g) : PEm X W (.BinOp a .Sub b pos) (fun ρ S => (f ρ S).bind fun p S1 => (g ρ S1).bind fun q S2 => subF p q S2) := pm_op op_sub op2_ii0 ha hb
def divC (_ j : Int) : Prop := 0 < j ∧ j.natAbs.log2 < 9000
instance (i j : Int) : Decidable (divC i j) := inferInstanceAs (Decidable (_ ∧ _))
abbrev divF := iiF divC fun i j => i / j
theorem op_fdivB : OpR X (binaryOp .FloorDiv) (rI divC fun i j => .int (i / j)) := opI fun i j _ _ _ _ _ hc q => by
  have e : i.fdiv j = i / j := Int.fdiv_eq_ediv_of_nonneg i (Int.le_of_lt hc.1)
  refine floordiv_int (by have := hc.1; omega) ?_ (.inl (PyProof.noPylong_of_log2 hc.2))
  rw [e]
  exact q
theorem pm_div (ha : PEm X W a f) (hb : PEm X W b g) : PEm X W (.BinOp a .FloorDiv b pos) (fun ρ S => (f ρ S).bind fun p S1 => (g ρ S1).bind fun q S2 => divF p q S2) := pm_op op_fdivB (op2_ii fun i j h => h) ha hb
abbrev modF := iiF (fun _ j => 0 < j) fun i j => i % j
theorem pm_mod (ha : PEm X W a f) (hb : PEm X W b g) : PEm X W (.BinOp a .Mod b pos) (fun ρ S => (f ρ S).bind fun p S1 => (g ρ S1).bind fun q S2 => modF p q S2) := pm_op op_mod (op2_ii fun i j h => h) ha hb
def powC (i j : Int) : Prop := 0 ≤ j ∧ (Builtin.Int.intBits i : Int) * j ≤ 2 ^ 27
instance (i j : Int) : Decidable (powC i j) := inferInstanceAs (Decidable (_ ∧ _))
abbrev powF := iiF powC fun i j => i ^ j.toNat
theorem op_powB : OpR X (binaryOp .Pow) (rI powC fun i j => .int (i ^ j.toNat)) := opI fun _ _ _ _ _ _ _ hc q => pow_int hc.1 hc.2 q
theorem pm_pow (ha : PEm X W a f) (hb : PEm X W b g) : PEm X W (.BinOp a .Pow b pos) (fun ρ S => (f ρ S).bind fun p S1 => (g ρ S1).bind fun q S2 => powF p q S2) := pm_op op_powB (op2_ii fun i j h => h) ha hb
def shlC (i j : Int) : Prop := 0 ≤ j ∧ j ≤ 1000000 ∧ i.natAbs < 2 ^ 64
instance (i j : Int) : Decidable (shlC i j) := inferInstanceAs (Decidable (_ ∧ _ ∧ _))
abbrev shlF := iiF shlC fun i j => i * 2 ^ j.toNat
theorem pm_shl (ha : PEm X W a f) (hb : PEm X W b g) : PEm X W (.BinOp a .LShift b pos) (fun ρ S => (f ρ S).bind fun p S1 => (g ρ S1).bind fun q S2 => shlF p q S2) := pm_op op_shl (op2_ii fun i j h => h) ha hb
def usubF : Er → Sto → R Er
  | .val (.int i), S => .ok (.val (.int (-i))) S
  | _, _ => .no
theorem pm_usub (ha : PEm X W a f) : PEm X W (.UnaryOp .USub a pos) (fun ρ S => (f ρ S).bind usubF) := by
  obtain ⟨ta, ha, fa⟩ := ha
  refine ⟨_, pe_un un_neg ha, fun α ρ S σ H Q wd sl q => fa α ρ S σ H _ wd sl (q.bind fun u p S1 α1 H1 e1 x1 w1 d1 q1 => ?_)⟩
  replace q1 := q1.shift x1
  unfold usubF at q1
  split at q1
  · exact ⟨_, xe_int d1.1, Post.val q1 w1 (den_int _)⟩
  · exact q1.elim

/-! ## sequences -/
/-- a list that may be written (or was just made) -/
def lsW (S : Sto) : Er → Option (List MV)
  | .new ds => some ds
  | .val (.loc l) => match S[l]? with
    | some (.lst ds) => some ds
    | _ => none
  | _ => none
theorem lsW_of {α : List Addr} {S : Sto} {H : Hp} (wd : Wd X.g α S H) {r : Er} {ds : List MV} {x : V} (e : lsW S r = some ds) (d : DenX X.K α H r x) : ∃ a vs, x = .ref a ∧ H a = some (.lst vs) ∧ DenL X.K α H ds vs := by
  unfold lsW at e
  split at e
  · cases e
    obtain ⟨b, vs, rfl, h, _, l⟩ := d
    exact ⟨b, vs, rfl, h, l⟩
  · rename_i n
    obtain ⟨a, rfl, h⟩ := xe_loc d
    split at e
    · rename_i es hS
      cases e
      obtain ⟨vs, h1, l⟩ := wd.obj n a _ h hS
      exact ⟨a, vs, rfl, h1, l⟩
    · cases e
  · cases e
def catLF (p q : Er) (S : Sto) : R Er := match lsW S p, lsW S q with
  | some x, some y => if x.length + y.length ≤ sizeLine then .ok (.new (x ++ y)) S else .no
  | _, _ => .no
def addF : Er → Er → Sto → R Er
  | .val (.int i), .val (.int j), S => .ok (.val (.int (i + j))) S
  | .val (.str x), .val (.str y), S => if x.length + y.length ≤ sizeLine then .ok (.val (.str (x ++ y))) S else .no
  | .val (.tup x), .val (.tup y), S => if x.length + y.length ≤ sizeLine then .ok (.val (.tup (x ++ y))) S else .no
  | p, q, S => catLF p q S
/-- t + u, t empty -/
theorem op_catT0 : OpR X (binaryOp .Add) (fun x y H Q => ∃ a b ys, x = .ref a ∧ y = .ref b ∧ SqT X.K H a [] ∧ SqT X.K H b ys ∧ Q (.ref b) H) := by
  intro pins s σ H x y v u Q I rx ry h
  obtain ⟨a, b, ys, rfl, rfl, ha, hb, q⟩ := h
  cases rx
  cases ry
  obtain ⟨its, r1, p1, _⟩ := I.tuple ha
  obtain ⟨its2, r2, p2, _⟩ := I.tuple hb
  have e0 : its = [] := r1.nil_iff.mpr rfl
  subst e0
  obtain ⟨⟨cls, dd, data, sl⟩, ho, hc, n, hd⟩ := id p1
  obtain ⟨⟨cls2, dd2, data2, sl2⟩, ho2, hc2, n2, hd2⟩ := id p2
  simp only at hc hd hc2 hd2
  subst hc hd hc2 hd2
  exact concat_meets ⟨_, ho, rfl⟩ ⟨_, ho2, rfl⟩ noFill_tuple_add seq_tuple_add PySem.F.slot_tuple_add PySem.F.entry_tuple_add (PySem.F.args_tuple_add_2 _ _)
    (tuple_addW0 a b _ _ n n2 dd dd2 sl sl2 rfl) ⟨ho, ho2, ⟨.ref b, H, I, rfl, q⟩⟩
theorem pm_add (ha : PEm X W a f) (hb : PEm X W b g) : PEm X W (.BinOp a .Add b pos) (fun ρ S => (f ρ S).bind fun p S1 => (g ρ S1).bind fun q S2 => addF p q S2) := by
  refine pm_op (op_add.or (op_add_str.or (op_cat.or (op_catT.or op_catT0)))) ?_ ha hb
  intro p q x y α S H Q wd dp dq post
  unfold addF at post
  split at post
  · exact .inl ⟨_, _, xe_int dp, xe_int dq, Post.val post wd (den_int _)⟩
  · split at post
    · rename_i hz
      refine .inr (.inl ⟨_, _, xe_str dp, xe_str dq, by rw [mkS_len, mkS_len]; exact hz, ?_⟩)
      rw [mkS_app]
      exact Post.val post wd (den_str _)
    · exact post.elim
  · split at post
    · rename_i xx yy hz
      obtain ⟨a1, vs, rfl, s1, l1⟩ := xe_tup dp
      obtain ⟨a2, us, rfl, s2, l2⟩ := xe_tup dq
      by_cases h0 : vs = []
      · subst h0
        have e0 := l1.length
        refine .inr (.inr (.inr (.inr ⟨a1, a2, us, rfl, rfl, s1, s2, ?_⟩)))
        have : xx = [] := by cases xx with | nil => rfl | cons _ _ => simp at e0
        subst this
        exact Post.val post wd (den_tup s2 l2)
      · refine .inr (.inr (.inr (.inl ⟨a1, a2, vs, us, rfl, rfl, s1, s2, h0, by rw [l1.length, l2.length]; exact hz, fun h1 => ?_, fun h1 p hp => Post.newt post wd hp (l1.append l2)⟩)))
        subst h1
        have e0 := l2.length
        have : yy = [] := by cases yy with | nil => rfl | cons _ _ => simp at e0
        subst this
        rw [List.append_nil] at post
        exact Post.val post wd (den_tup s1 l1)
    · exact post.elim
  · unfold catLF at post
    split at post
    · rename_i ds1 ds2 e1 e2
      split at post
      · rename_i hz
        obtain ⟨a1, vs, rfl, h1, l1⟩ := lsW_of wd e1 dp
        obtain ⟨a2, us, rfl, h2, l2⟩ := lsW_of wd e2 dq
        exact .inr (.inr (.inl ⟨a1, a2, vs, us, rfl, rfl, h1, h2, by rw [l1.length, l2.length]; exact hz, fun p hp => Post.newl post wd hp (l1.append l2)⟩))
      · exact post.elim
    · exact post.elim
/-- a * b -/
def mulC (i j : Int) : Prop := (-(2 ^ 64) < i ∧ i < 2 ^ 64) ∨ (-(2 ^ 64) < j ∧ j < 2 ^ 64)
instance (i j : Int) : Decidable (mulC i j) := inferInstanceAs (Decidable (_ ∨ _))
def repLF (p : Er) (k : Int) (S : Sto) : R Er := match lsW S p with
  | some x => if 0 ≤ k ∧ k < 100000 ∧ x.length * k.toNat ≤ sizeLine then .ok (.new (List.replicate k.toNat x).flatten) S else .no
  | none => .no
def mulF : Er → Er → Sto → R Er
  | .val (.int i), .val (.int j), S => if mulC i j then .ok (.val (.int (i * j))) S else .no
  | .val (.str x), .val (.int k), S => if 0 ≤ k ∧ k < 1000 ∧ x.length ≤ 1000 then .ok (.val (.str (repL x k))) S else .no
  | p, .val (.int k), S => repLF p k S
  | _, _, _ => .no
theorem DenL.rep {K : PySem.W.Frag} {α : List Addr} {H : Hp} {ds : List MV} {vs : List V} (l : DenL K α H ds vs) : ∀ k : Nat, DenL K α H (List.replicate k ds).flatten (List.replicate k vs).flatten
  | 0 => denl_nil
  | k + 1 => by rw [List.replicate_succ, List.flatten_cons, List.replicate_succ, List.flatten_cons]; exact l.append (DenL.rep l k)
theorem pm_mul (ha : PEm X W a f) (hb : PEm X W b g) : PEm X W (.BinOp a .Mult b pos) (fun ρ S => (f ρ S).bind fun p S1 => (g ρ S1).bind fun q S2 => mulF p q S2) := by
  refine pm_op (op_mul.or (op_mul_str.or op_rep)) ?_ ha hb
  intro p q x y α S H Q wd dp dq post
  unfold mulF at post
  split at post
  · split at post
    · rename_i hc
      exact .inl ⟨_, _, xe_int dp, xe_int dq, hc, Post.val post wd (den_int _)⟩
    · exact post.elim
  · split at post
    · rename_i hc
      exact .inr (.inl ⟨_, _, xe_str dp, xe_int dq, hc.1, hc.2.1, hc.2.2, Post.val post wd (den_str _)⟩)
    · exact post.elim
  · unfold repLF at post
    split at post
    · rename_i ds e1
      split at post
      · rename_i hc
        obtain ⟨a1, vs, rfl, h1, l1⟩ := lsW_of wd e1 dp
        exact .inr (.inr ⟨a1, _, vs, rfl, xe_int dq, h1, by omega, by omega, by rw [l1.length]; exact hc.2.2, fun p hp => Post.newl post wd hp (l1.rep _)⟩)
      · exact post.elim
    · exact post.elim
  · exact post.elim

/-! ## comparisons -/
def depthE : Nat := 40
def eqF (p q : Er) (S : Sto) : R Er := match eqvE S depthE p q with
  | some k => .ok (.val (.bl k)) S
  | none => .no
def neF (p q : Er) (S : Sto) : R Er := match eqvE S depthE p q with
  | some k => .ok (.val (.bl !k)) S
  | none => .no
theorem op_eqM (hu : X.A.units + 64 < cLine) : OpR X (compareOp .Eq) (fun x y H Q => ∃ α S p q k, Wd X.g α S H ∧ DenX X.K α H p x ∧ DenX X.K α H q y ∧ eqvE S depthE p q = some k ∧ Q (.bl k) H) := by
  intro pins s σ H x y v u Q I rx ry h
  obtain ⟨α, S, p, q, k, wd, dp, dq, e, hq⟩ := h
  exact rcAt_m I wd depthE (by unfold depthE; omega) dp dq rx ry e X.prog X.w _ _ ⟨.bl k, H, I, rfl, hq⟩
theorem op_neM (hu : X.A.units + 64 < cLine) : OpR X (compareOp .NotEq) (fun x y H Q => ∃ α S p q k, Wd X.g α S H ∧ DenX X.K α H p x ∧ DenX X.K α H q y ∧ eqvE S depthE p q = some k ∧ Q (.bl (!k)) H) := by
  intro pins s σ H x y v u Q I rx ry h
  obtain ⟨α, S, p, q, k, wd, dp, dq, e, hq⟩ := h
  exact rnAt_m I wd depthE (by unfold depthE; omega) dp dq rx ry e X.prog X.w _ _ ⟨.bl (!k), H, I, rfl, hq⟩
theorem op2_eqM : Op2 X W (fun x y H Q => ∃ α S p q k, Wd X.g α S H ∧ DenX X.K α H p x ∧ DenX X.K α H q y ∧ eqvE S depthE p q = some k ∧ Q (.bl k) H) eqF := by
  intro p q x y α S H Q wd dp dq post
  unfold eqF at post
  split at post
  · rename_i k e
    exact ⟨α, S, p, q, k, wd, dp, dq, e, Post.val post wd (den_bl _)⟩
  · exact post.elim
theorem op2_neM : Op2 X W (fun x y H Q => ∃ α S p q k, Wd X.g α S H ∧ DenX X.K α H p x ∧ DenX X.K α H q y ∧ eqvE S depthE p q = some k ∧ Q (.bl (!k)) H) neF := by
  intro p q x y α S H Q wd dp dq post
  unfold neF at post
  split at post
  · rename_i k e
    exact ⟨α, S, p, q, k, wd, dp, dq, e, Post.val post wd (den_bl _)⟩
  · exact post.elim
theorem pm_eq (hu : X.A.units + 64 < cLine) (ha : PEm X W a f) (hb : PEm X W b g) : PEm X W (.Compare a [.Eq] [b] pos) (fun ρ S => (f ρ S).bind fun p S1 => (g ρ S1).bind fun q S2 => eqF p q S2) := pm_cmp (op_eqM hu) op2_eqM ha hb
theorem tm_eq (hu : X.A.units + 64 < cLine) (ha : PEm X W a f) (hb : PEm X W b g) : PTm X W (.Compare a [.Eq] [b] pos) (fun ρ S => ((f ρ S).bind fun p S1 => (g ρ S1).bind fun q S2 => eqF p q S2).bind asB) := tm_cmp (op_eqM hu) op2_eqM ha hb
theorem pm_ne (hu : X.A.units + 64 < cLine) (ha : PEm X W a f) (hb : PEm X W b g) : PEm X W (.Compare a [.NotEq] [b] pos) (fun ρ S => (f ρ S).bind fun p S1 => (g ρ S1).bind fun q S2 => neF p q S2) := pm_cmp (op_neM hu) op2_neM ha hb
theorem tm_ne (hu : X.A.units + 64 < cLine) (ha : PEm X W a f) (hb : PEm X W b g) : PTm X W (.Compare a [.NotEq] [b] pos) (fun ρ S => ((f ρ S).bind fun p S1 => (g ρ S1).bind fun q S2 => neF p q S2).bind asB) := tm_cmp (op_neM hu) op2_neM ha hb
/-- a < b: numbers, texts, tuples -/
def ltF : Er → Er → Sto → R Er
  | .val d, .val f, S => match ltv S depthE d f with
    | some k => .ok (.val (.bl k)) S
    | none => .no
  | _, _, _ => .no
theorem op_ltM (hu : X.A.units + 64 < cLine) : OpR X (compareOp .Lt) (fun x y H Q => ∃ α S d f k, Wd X.g α S H ∧ Den X.K α H d x ∧ Den X.K α H f y ∧ ltv S depthE d f = some k ∧ Q (.bl k) H) := by
  intro pins s σ H x y v u Q I rx ry h
  obtain ⟨α, S, d, f, k, wd, dp, dq, e, hq⟩ := h
  exact ltAt_m I wd depthE X.A d f x y v u k (by unfold depthE; omega) dp dq rx ry e X.prog X.w _ _ ⟨.bl k, H, I, rfl, hq⟩
theorem op2_ltM : Op2 X W (fun x y H Q => ∃ α S d f k, Wd X.g α S H ∧ Den X.K α H d x ∧ Den X.K α H f y ∧ ltv S depthE d f = some k ∧ Q (.bl k) H) ltF := by
  intro p q x y α S H Q wd dp dq post
  unfold ltF at post
  split at post
  · split at post
    · rename_i k e
      exact ⟨α, S, _, _, k, wd, dp, dq, e, Post.val post wd (den_bl _)⟩
    · exact post.elim
  · exact post.elim
theorem pm_lt (hu : X.A.units + 64 < cLine) (ha : PEm X W a f) (hb : PEm X W b g) : PEm X W (.Compare a [.Lt] [b] pos) (fun ρ S => (f ρ S).bind fun p S1 => (g ρ S1).bind fun q S2 => ltF p q S2) := pm_cmp (op_ltM hu) op2_ltM ha hb
theorem tm_lt (hu : X.A.units + 64 < cLine) (ha : PEm X W a f) (hb : PEm X W b g) : PTm X W (.Compare a [.Lt] [b] pos) (fun ρ S => ((f ρ S).bind fun p S1 => (g ρ S1).bind fun q S2 => ltF p q S2).bind asB) := tm_cmp (op_ltM hu) op2_ltM ha hb
abbrev gtF := ibF fun i j => decide (j < i)
abbrev geF := ibF fun i j => decide (j ≤ i)
theorem pm_gt (ha : PEm X W a f) (hb : PEm X W b g) : PEm X W (.Compare a [.Gt] [b] pos) (fun ρ S => (f ρ S).bind fun p S1 => (g ρ S1).bind fun q S2 => gtF p q S2) := pm_cmp op_gt op2_ib ha hb
theorem tm_gt (ha : PEm X W a f) (hb : PEm X W b g) : PTm X W (.Compare a [.Gt] [b] pos) (fun ρ S => ((f ρ S).bind fun p S1 => (g ρ S1).bind fun q S2 => gtF p q S2).bind asB) := tm_cmp op_gt op2_ib ha hb
theorem pm_ge (ha : PEm X W a f) (hb : PEm X W b g) : PEm X W (.Compare a [.GtE] [b] pos) (fun ρ S => (f ρ S).bind fun p S1 => (g ρ S1).bind fun q S2 => geF p q S2) := pm_cmp op_ge op2_ib ha hb
theorem tm_ge (ha : PEm X W a f) (hb : PEm X W b g) : PTm X W (.Compare a [.GtE] [b] pos) (fun ρ S => ((f ρ S).bind fun p S1 => (g ρ S1).bind fun q S2 => geF p q S2).bind asB) := tm_cmp op_ge op2_ib ha hb
/-- <=: ints or texts -/
def leF : Er → Er → Sto → R Er
  | .val (.int i), .val (.int j), S => .ok (.val (.bl (decide (i ≤ j)))) S
  | .val (.str x), .val (.str y), S => .ok (.val (.bl (!decide (y < x)))) S
  | _, _, _ => .no
theorem op2_le : Op2 X W (fun x y H Q => rI0 (fun i j => .bl (decide (i ≤ j))) x y H Q ∨ (∃ i j, x = .str i ∧ y = .str j ∧ Q (.bl (!decide (j.cps.toList < i.cps.toList))) H)) leF := by
  intro p q x y α S H Q wd dp dq post
  unfold leF at post
  split at post
  · exact .inl ⟨_, _, xe_int dp, xe_int dq, Post.val post wd (den_bl _)⟩
  · refine .inr ⟨_, _, xe_str dp, xe_str dq, ?_⟩
    rw [mkS_cps, mkS_cps]
    exact Post.val post wd (den_bl _)
  · exact post.elim
theorem pm_le (ha : PEm X W a f) (hb : PEm X W b g) : PEm X W (.Compare a [.LtE] [b] pos) (fun ρ S => (f ρ S).bind fun p S1 => (g ρ S1).bind fun q S2 => leF p q S2) := pm_cmp (op_le.or op_le_str) op2_le ha hb
theorem tm_le (ha : PEm X W a f) (hb : PEm X W b g) : PTm X W (.Compare a [.LtE] [b] pos) (fun ρ S => ((f ρ S).bind fun p S1 => (g ρ S1).bind fun q S2 => leF p q S2).bind asB) := tm_cmp (op_le.or op_le_str) op2_le ha hb
theorem pm_lele (ha : PEm X W a f) (hb : PEm X W b g) (hc : PEm X W c h) (hm : lastMarks [.LtE, .LtE] [b, c] = false := by with_unfolding_all rfl) : PEm X W (.Compare a [.LtE, .LtE] [b, c] pos) (fun ρ S => (f ρ S).bind fun p S1 => (g ρ S1).bind fun q S2 => chF leF leF p q S2 fun S3 => h ρ S3) := pm_chain (op_le.or op_le_str) (op_le.or op_le_str) op2_le op2_le ha hb hc hm
theorem tm_lele (ha : PEm X W a f) (hb : PEm X W b g) (hc : PEm X W c h) (hm : lastMarks [.LtE, .LtE] [b, c] = false := by with_unfolding_all rfl) : PTm X W (.Compare a [.LtE, .LtE] [b, c] pos) (fun ρ S => ((f ρ S).bind fun p S1 => (g ρ S1).bind fun q S2 => chF leF leF p q S2 fun S3 => h ρ S3).bind asB) := tm_chain (op_le.or op_le_str) (op_le.or op_le_str) op2_le op2_le ha hb hc hm
theorem pm_lelt (hu : X.A.units + 64 < cLine) (ha : PEm X W a f) (hb : PEm X W b g) (hc : PEm X W c h) (hm : lastMarks [.LtE, .Lt] [b, c] = false := by with_unfolding_all rfl) : PEm X W (.Compare a [.LtE, .Lt] [b, c] pos) (fun ρ S => (f ρ S).bind fun p S1 => (g ρ S1).bind fun q S2 => chF leF ltF p q S2 fun S3 => h ρ S3) := pm_chain (op_le.or op_le_str) (op_ltM hu) op2_le op2_ltM ha hb hc hm
theorem tm_lelt (hu : X.A.units + 64 < cLine) (ha : PEm X W a f) (hb : PEm X W b g) (hc : PEm X W c h) (hm : lastMarks [.LtE, .Lt] [b, c] = false := by with_unfolding_all rfl) : PTm X W (.Compare a [.LtE, .Lt] [b, c] pos) (fun ρ S => ((f ρ S).bind fun p S1 => (g ρ S1).bind fun q S2 => chF leF ltF p q S2 fun S3 => h ρ S3).bind asB) := tm_chain (op_le.or op_le_str) (op_ltM hu) op2_le op2_ltM ha hb hc hm
/-- is None -/
def isNF : Er → Er → Sto → R Er
  | .val .non, .val .non, S => .ok (.val (.bl true)) S
  | _, .val .non, S => .ok (.val (.bl false)) S
  | _, _, _ => .no
def notNF : Er → Er → Sto → R Er
  | .val .non, .val .non, S => .ok (.val (.bl false)) S
  | _, .val .non, S => .ok (.val (.bl true)) S
  | _, _, _ => .no
theorem not_none {α : List Addr} {H : Hp} {p : Er} {x : V} (d : DenX X.K α H p x) (n : p ≠ .val .non) : decide (x = .non) = false := by
  cases p with
  | new ds => obtain ⟨b, vs, rfl, _⟩ := d; rfl
  | val m =>
    cases m with
    | non => exact absurd rfl n
    | bl b => cases xe_bl d; rfl
    | int b => cases xe_int d; rfl
    | str b => cases xe_str d; rfl
    | typ b => cases xe_typ d; rfl
    | tup b => obtain ⟨_, _, rfl, _⟩ := xe_tup d; rfl
    | scr b => obtain ⟨_, _, rfl, _⟩ := xe_scr d; rfl
    | loc b => obtain ⟨_, rfl, _⟩ := xe_loc d; rfl
theorem op2_isN : Op2 X W (fun x y H Q => y = .non ∧ Q (.bl (decide (x = .non))) H) isNF := by
  intro p q x y α S H Q wd dp dq post
  unfold isNF at post
  split at post
  · cases xe_non dp; exact ⟨xe_non dq, Post.val post wd (den_bl _)⟩
  · rename_i p' S' hn
    rw [not_none dp (fun z => by first | exact hn z | exact hn z rfl | exact hn _ z | exact hn rfl z)]
    exact ⟨xe_non dq, Post.val post wd (den_bl _)⟩
  · exact post.elim
theorem op2_notN : Op2 X W (fun x y H Q => y = .non ∧ Q (.bl (!decide (x = .non))) H) notNF := by
  intro p q x y α S H Q wd dp dq post
  unfold notNF at post
  split at post
  · cases xe_non dp; exact ⟨xe_non dq, Post.val post wd (den_bl _)⟩
  · rename_i p' S' hn
    rw [not_none dp (fun z => by first | exact hn z | exact hn z rfl | exact hn _ z | exact hn rfl z)]
    exact ⟨xe_non dq, Post.val post wd (den_bl _)⟩
  · exact post.elim
theorem pm_is (ha : PEm X W a f) (hb : PEm X W b g) : PEm X W (.Compare a [.Is] [b] pos) (fun ρ S => (f ρ S).bind fun p S1 => (g ρ S1).bind fun q S2 => isNF p q S2) := pm_cmp op_isN op2_isN ha hb
theorem tm_is (ha : PEm X W a f) (hb : PEm X W b g) : PTm X W (.Compare a [.Is] [b] pos) (fun ρ S => ((f ρ S).bind fun p S1 => (g ρ S1).bind fun q S2 => isNF p q S2).bind asB) := tm_cmp op_isN op2_isN ha hb
theorem pm_isnot (ha : PEm X W a f) (hb : PEm X W b g) : PEm X W (.Compare a [.IsNot] [b] pos) (fun ρ S => (f ρ S).bind fun p S1 => (g ρ S1).bind fun q S2 => notNF p q S2) := pm_cmp op_notN op2_notN ha hb
theorem tm_isnot (ha : PEm X W a f) (hb : PEm X W b g) : PTm X W (.Compare a [.IsNot] [b] pos) (fun ρ S => ((f ρ S).bind fun p S1 => (g ρ S1).bind fun q S2 => notNF p q S2).bind asB) := tm_cmp op_notN op2_notN ha hb

/-! ## subscripts -/
def getL (ds : List MV) : Er → Sto → R Er
  | .val (.int i), S => match atI ds i with | some d => .ok (.val d) S | none => .no
  | _, _ => .no
def ixF : Er → Er → Sto → R Er
  | .val (.str x), .val (.int i), S => if x.length ≤ sizeLine then match atI x i with | some c => .ok (.val (.str [c])) S | none => .no else .no
  | .val (.tup ds), q, S => getL ds q S
  | p, q, S => match lsOf S p with | some ds => getL ds q S | none => .no
theorem atI_den {K : PySem.W.Frag} {α : List Addr} {H : Hp} {ds : List MV} {vs : List V} {i : Int} {d : MV} (l : DenL K α H ds vs) (e : atI ds i = some d) : ∃ v, atI vs i = some v ∧ Den K α H d v := by
  unfold atI at e ⊢
  rw [l.length]
  cases z : ixN ds.length i with
  | none => rw [z] at e; cases e
  | some j =>
    rw [z] at e
    obtain ⟨v, h1, h2⟩ := l.at (show ds[j]? = some d from e)
    exact ⟨v, h1, h2⟩
theorem pm_at (ha : PEm X W a f) (hb : PEm X W b g) (hs : PlainIx b := by exact fun _ _ => rfl) : PEm X W (.Subscript a b pos) (fun ρ S => (f ρ S).bind fun p S1 => (g ρ S1).bind fun q S2 => ixF p q S2) := by
  refine pm_ix ix_seq ?_ ha hb hs
  intro p q x y α S H Q wd dp dq post
  have key : ∀ {ds : List MV} {vs : List V} {i : Int} {d : MV}, DenL X.K α H ds vs → atI ds i = some d → Post X.g W α H (.ok (Er.val d) S) Q → ∃ v, atI vs i = some v ∧ Q v H := fun l e post => by
    obtain ⟨v, h1, h2⟩ := atI_den l e
    exact ⟨v, h1, Post.val post wd h2⟩
  unfold ixF at post
  split at post
  · split at post
    · rename_i hz
      split at post
      · rename_i ch e
        refine .inr (.inr ⟨_, _, ch, xe_str dp, xe_int dq, by rw [mkS_len]; exact hz, by rw [mkS_cps]; exact e, ?_⟩)
        exact Post.val post wd (den_str [ch])
      · exact post.elim
    · exact post.elim
  · unfold getL at post
    split at post
    · split at post
      · rename_i d e
        obtain ⟨a1, vs, rfl, s1, l1⟩ := xe_tup dp
        obtain ⟨v, h1, h2⟩ := key l1 e post
        exact .inr (.inl ⟨a1, vs, _, v, rfl, xe_int dq, s1, h1, h2⟩)
      · exact post.elim
    · exact post.elim
  · split at post
    · rename_i ds el
      unfold getL at post
      split at post
      · split at post
        · rename_i d e
          obtain ⟨a1, vs, rfl, s1, l1⟩ := ls_of rfl wd el dp
          obtain ⟨v, h1, h2⟩ := key l1 e post
          exact .inl ⟨a1, vs, _, v, rfl, xe_int dq, s1, h1, h2⟩
        · exact post.elim
      · exact post.elim
    · exact post.elim
end
end M
end L2

namespace L2
namespace M
open PySem PySem.Spec PyProof.Rows

/-! ## slices -/
theorem getItem_whole {prog : Program} {w : World} {A : Around} {E : Value → Shared → Prop} {s : Shared} {t sl : Addr} {its : Array Value} {vl vu : Value} {lo hi : Option Int} {Q : Value → Shared → Prop} (ht : IsTup s.heap t its) (hs : s.heap.IsSliceOf sl vl vu .none) (pl : IsPart vl lo) (pu : IsPart vu hi)
    (h0 : HT.sIx its.size 0 lo = 0) (h1 : HT.sIx its.size its.size hi = its.size) (h : Q (.ref t) s) : wpAny (model prog w) A (getItem (.ref t) (.ref sl)) Q E s := by
  have hTs : s.TypeIs (.ref sl) "slice" := by obtain ⟨os, hos, hcs, _⟩ := id hs; exact ⟨os, hos, hcs⟩
  have hTt := ht.typeIs
  unfold getItem
  try with_reducible refine wpAny_holding ?_
  first | refine wpAny_bind (wpAny_pure ?_) | skip
  refine wpAny_bind (wpAny_sequenceKey hTt (by decide) ?_)
  refine wpAny_bind (wpAny_callSpecial?_slot (name := Str.ofString "__getitem__") hTt PyProof.Rows.slot_tuple_getitem (wpAny_call_entry PyProof.Rows.slot_tuple_getitem hTt entry_tuple_getitem ?_ (args_tuple_getitem _ _)))
  show wpAny _ _ (Builtin.Tuple.tupleItemsOf (.ref t) >>= _) _ _ s
  refine wpAny_bind (tupleItemsOf_ ht (wpAny_bind (wpAny_typeOf hTs ?_)))
  rw [if_pos (by decide)]
  refine wpAny_bind (HT.sliceApplied_gen hs pl pu ?_)
  show wpAny _ _ (if (((HT.sIx its.size 0 lo : Nat) : Int) == 0 && (1 : Int) == 1 && (HT.sIx its.size its.size hi - HT.sIx its.size 0 lo) == its.size) = true then _ else _) _ _ s
  rw [if_pos (by rw [h0, h1]; simp)]
  unfold Builtin.Tuple.tupleIsExact
  refine wpAny_bind (wpAny_bind (wpAny_typeOf hTt (wpAny_pure ?_)))
  rw [if_pos (by decide)]
  refine wpAny_bind (wpAny_rule ?_)
  first
    | exact wpAny_pure ⟨_, rfl, wpAny_pure h⟩
    | exact wpAny_bind (wpAny_pure (wpAny_pure ⟨_, rfl, wpAny_pure h⟩))
    | exact wpAny_bind (wpAny_pure ⟨_, rfl, wpAny_pure h⟩)
section
variable {X : Cx} {W : XW} {a b c e : Expr} {es : List Expr} {f g h : Rho → Sto → R Er} {af : Rho → Sto → R (List Er)} {pos : Pos}
theorem sl_tupW : SlR X (fun x lo hi H Q => ∃ a xs, x = .ref a ∧ SqT X.K H a xs ∧ HT.sIx xs.length 0 lo = 0 ∧ HT.sIx xs.length xs.length hi = xs.length ∧ Q (.ref a) H) := by
  intro pins s σ H x v vl vu lo hi sl Q I rx hs pl pu h
  obtain ⟨a, xs, rfl, hx, h0, h1, q⟩ := h
  cases rx
  obtain ⟨its, r, ht, hz⟩ := I.tuple hx
  have hlen : its.toArray.size = xs.length := by rw [List.size_toArray]; exact r.length.symm
  exact ⟨"tuple", _, PyProof.Rows.slot_tuple_getitem.lookup, ht.typeIs, getItem_whole ht hs pl pu (by rw [hlen]; exact h0) (by rw [hlen]; exact h1) ⟨.ref a, H, I, rfl, q⟩⟩
def cutF : Er → Option Int → Option Int → Sto → R Er
  | .val (.str x), lo, hi, S => if x.length ≤ sizeLine then .ok (.val (.str (cutL x lo hi))) S else .no
  | .val (.tup ds), lo, hi, S => .ok (.val (.tup (cutL ds lo hi))) S
  | p, lo, hi, S => match lsOf S p with | some ds => .ok (.new (cutL ds lo hi)) S | none => .no
theorem cut_whole {α : Type} {ds : List α} {lo hi : Option Int} (h0 : HT.sIx ds.length 0 lo = 0) (h1 : HT.sIx ds.length ds.length hi = ds.length) : cutL ds lo hi = ds := by
  unfold cutL
  rw [h0, h1]
  simp
theorem pm_cut {lo hi : Option Expr} {lf hf : Rho → Sto → R (Option Int)} {p2 : Pos} (ha : PEm X W a f) (hl : POm X W lo lf) (hh : POm X W hi hf) : PEm X W (.Subscript a (.Slice lo hi none p2) pos) (fun ρ S => (f ρ S).bind fun p S1 => (lf ρ S1).bind fun l S2 => (hf ρ S2).bind fun u S3 => cutF p l u S3) := by
  refine pm_slice (sl_str.or (sl_list.or (sl_tup.or sl_tupW))) ?_ ha hl hh
  intro p lo hi x α S H Q wd dp post
  unfold cutF at post
  split at post
  · split at post
    · rename_i hz
      exact .inl ⟨_, xe_str dp, hz, Post.val post wd (den_str _)⟩
    · exact post.elim
  · rename_i _ _ _ ds
    obtain ⟨a1, vs, rfl, s1, l1⟩ := xe_tup dp
    by_cases hw : HT.sIx vs.length 0 lo = 0 ∧ HT.sIx vs.length vs.length hi = vs.length
    · have e : cutL ds lo hi = ds := cut_whole (by rw [← l1.length]; exact hw.1) (by rw [← l1.length]; exact hw.2)
      rw [e] at post
      exact .inr (.inr (.inr ⟨a1, vs, rfl, s1, hw.1, hw.2, Post.val post wd (den_tup s1 l1)⟩))
    · exact .inr (.inr (.inl ⟨a1, vs, rfl, s1, hw, fun p hp => Post.newt post wd hp (l1.cut lo hi)⟩))
  · split at post
    · rename_i ds el
      obtain ⟨a1, vs, rfl, s1, l1⟩ := ls_of rfl wd el dp
      exact .inr (.inl ⟨a1, vs, rfl, s1, fun p hp => Post.newl post wd hp (l1.cut lo hi)⟩)
    · exact post.elim
/-! a list by steps -/
def pickL {α : Type} (ds : List α) (lo hi st : Option Int) : List α := (sliceRange (sliceBounds lo hi st ds.length).1 (sliceBounds lo hi st ds.length).2.1 (sliceBounds lo hi st ds.length).2.2).filterMap (ds[·]?)
theorem DenL.pick {K : PySem.W.Frag} {α : List Addr} {H : Hp} {ds : List MV} {vs : List V} (l : DenL K α H ds vs) : ∀ idx : List Nat, DenL K α H (idx.filterMap (ds[·]?)) (idx.filterMap (vs[·]?))
  | [] => denl_nil
  | i :: idx => by
    cases z : ds[i]? with
    | none =>
      have z2 : vs[i]? = none := by rw [List.getElem?_eq_none_iff, l.length]; exact List.getElem?_eq_none_iff.mp z
      rw [List.filterMap_cons_none z, List.filterMap_cons_none z2]
      exact DenL.pick l idx
    | some d =>
      obtain ⟨v, h1, h2⟩ := l.at z
      rw [List.filterMap_cons_some z, List.filterMap_cons_some h1]
      exact denl_cons h2 (DenL.pick l idx)
theorem Vals.pick {xs : List V} {us : List Value} (r : Vals xs us) : ∀ idx : List Nat, Vals (idx.filterMap (xs[·]?)) (idx.filterMap (us[·]?))
  | [] => .nil
  | i :: idx => by
    cases z : xs[i]? with
    | none => rw [List.filterMap_cons_none z, List.filterMap_cons_none (r.none_of z)]; exact Vals.pick r idx
    | some d =>
      obtain ⟨v, h1, h2⟩ := r.get z
      rw [List.filterMap_cons_some z, List.filterMap_cons_some h1]
      exact .cons h2 (Vals.pick r idx)
def stepF (st : Int) (p : Er) (lo hi : Option Int) (S : Sto) : R Er := match lsOf S p with
  | some ds => if (pickL ds lo hi (some st)).length ≤ sizeLine then .ok (.new (pickL ds lo hi (some st))) S else .no
  | none => .no
theorem pm_step {st : Int} {j : Nat} {lo hi : Option Expr} {lf hf : Rho → Sto → R (Option Int)} {p2 p3 : Pos} {ste : Expr} (h0 : st ≠ 0) (ha : PEm X W a f) (hl : POm X W lo lf) (hh : POm X W hi hf)
    (hst : ∀ pins s σ H (Q : VK), Inv X pins σ H s → Q (.int st) H → wpAny (model X.prog X.w) X.A (eval ste X.env) (EP X pins σ Q) X.xe s) :
    PEm X W (.Subscript a (.Slice lo hi (some ste) p2) pos) (fun ρ S => (f ρ S).bind fun p S1 => (lf ρ S1).bind fun l S2 => (hf ρ S2).bind fun u S3 => stepF st p l u S3) := by
  obtain ⟨ta, ha, fa⟩ := ha
  obtain ⟨tl, hl, fl⟩ := hl
  obtain ⟨th, hh, fh⟩ := hh
  refine ⟨fun σ H Q => ta σ H fun x H1 => tl σ H1 fun l H2 => th σ H2 fun u H3 => ∃ a xs, x = .ref a ∧ SqL X.K H3 a xs ∧ (pickL xs l u (some st)).length ≤ sizeLine ∧ ∀ p, H3 p = none → Q (.ref p) (upd H3 p (.lst (pickL xs l u (some st)))), ?_, fun α ρ S σ H Q wd sl q => fa α ρ S σ H _ wd sl (q.bind fun u p S1 α1 H1 e1 x1 w1 d1 q1 => fl α1 ρ S1 σ H1 _ w1 (sl.ext x1) ((q1.shift x1).bind fun u2 l S2 α2 H2 e2 x2 w2 d2 q2 =>
    fh α2 ρ S2 σ H2 _ w2 ((sl.ext x1).ext x2) ((q2.shift x2).bind fun u3 m S3 α3 H3 e3 x3 w3 d3 q3 => ?_)))⟩
  · intro pins s σ H Q I h
    refine Subscript_ (thn (ha pins s σ H _ I h) fun v s1 ⟨x, H1, I1, r1, q1⟩ => ?_)
    refine wpAny_Slice (thn (hl pins s1 σ H1 _ I1 q1) fun vl s2 ⟨l, H2, I2, pl, q2⟩ => thn (hh pins s2 σ H2 _ I2 q2) fun vu s3 ⟨u, H3, I3, pu, q3⟩ => ?_)
    rw [evalPart_some]
    refine thn (hst pins s3 σ H3 (fun w' H' => w' = .int st ∧ H' = H3) I3 ⟨rfl, rfl⟩) fun vs s4 ⟨y, H4, I4, r4, ey, eH⟩ => ?_
    subst ey eH
    obtain ⟨t4, rfl⟩ := r4
    obtain ⟨a, xs, rfl, sq, hz2, q⟩ := q3
    cases r1
    have I5 : Inv X pins σ H4 { s4 with heap := s4.heap.push { cls := .type "slice", data := .fields #[vl, vu, .int st t4] } } := I4.kept (t' := s4.toks) fun b ob q => Heap.get?_push_of_some _ q
    obtain ⟨its, r, ht, hz⟩ := I5.list sq
    have hlen := r.length
    refine tail_any (ops := [.ref a, .ref s4.heap.objs.size]) (T := "list") ht.isList.typeIs slot_list_getitem.lookup ?_ (by with_unfolding_all rfl)
    refine wpAny_getItem_list_slice ht.isList (Heap.IsSliceOf.new ..) pl pu (.int st t4) (by intro z; exact h0 (Option.some.inj z)) ?_ (by rw [List.size_toArray]; omega)
    have ep : slicePick its.toArray l u (some st) = (pickL its l u (some st)).toArray := by
      unfold slicePick pickL
      simp
    rw [ep]
    have el : xs.length = its.length := hlen
    refine ⟨.ref _, _, I5.laid (t' := s4.toks) (o := .lst (pickL xs l u (some st))) (fun b ob q => Heap.get?_push_of_some _ q) (Nat.le_refl _) ?_, rfl, q _ (I5.hok.fresh (Nat.le_refl _))⟩
    refine ⟨hz2, _, 0, ?_, Heap.get?_push_size _ rfl⟩
    unfold pickL
    rw [el]
    exact Vals.pick r _
  · cases d2
    cases d3
    replace q3 := q3.shift x3
    unfold stepF at q3
    split at q3
    · rename_i ds el
      split at q3
      · rename_i hz
        obtain ⟨a1, vs, e5, s1, l1⟩ := ls_of rfl w3 el ((d1.1.ext x2).ext x3)
        have lp : DenL X.K α3 H3 (pickL ds u2 u3 (some st)) (pickL vs u2 u3 (some st)) := by
          unfold pickL
          rw [← l1.length]
          exact l1.pick _
        exact ⟨a1, vs, e5, s1, by rw [lp.length]; exact hz, fun p hp => Post.newl q3 w3 hp lp⟩
      · exact q3.elim
    · exact q3.elim
theorem step_int {i : Int} {j : Nat} : ∀ pins s σ H (Q : VK), Inv X pins σ H s → Q (.int i) H → wpAny (model X.prog X.w) X.A (eval (.Constant (.int i) j pos) X.env) (EP X pins σ Q) X.xe s := fun pins s σ H Q I h => pe_int pins s σ H Q I h
theorem step_neg {i : Int} {j : Nat} {p3 : Pos} : ∀ pins s σ H (Q : VK), Inv X pins σ H s → Q (.int (-i)) H → wpAny (model X.prog X.w) X.A (eval (.UnaryOp .USub (.Constant (.int i) j p3) pos) X.env) (EP X pins σ Q) X.xe s := fun pins s σ H Q I h => pe_un un_neg pe_int pins s σ H Q I ⟨i, rfl, h⟩
end
end M
end L2

namespace L2
namespace M
open PySem PySem.Spec PyProof.Rows
section
variable {X : Cx} {W : XW} {a b c e : Expr} {es : List Expr} {f g h : Rho → Sto → R Er} {af : Rho → Sto → R (List Er)} {pos : Pos}

/-! ## in -/
/-- the answers of the items to d -/
def ansL (S : Sto) (n : Nat) (d : MV) : List MV → Option (List Bool)
  | [] => some []
  | y :: ys => (eqv S n y d).bind fun k => (ansL S n d ys).map (k :: ·)
section
variable {α : List Addr} {S : Sto} {H : Hp} {pins : List (Addr × Obj)} {σ : St} {s : Shared}
/-- an item's answer, by its value -/
noncomputable def ansV (X : Cx) (α : List Addr) (S : Sto) (H : Hp) (n : Nat) (d : MV) (u : Value) : Bool := open Classical in decide (∃ y x, Den X.K α H y x ∧ RelV x u ∧ eqv S n y d = some true)
open Classical in
theorem ansV_is (I : Inv X pins σ H s) (wd : Wd X.g α S H) {n : Nat} {d y : MV} {x : V} {u : Value} {k : Bool} (dy : Den X.K α H y x) (r : RelV x u) (e : eqv S n y d = some k) : ansV X α S H n d u = k := by
  unfold ansV
  cases k with
  | true => exact decide_eq_true ⟨y, x, dy, r, e⟩
  | false =>
    refine decide_eq_false fun ⟨y', x', dy', r', e'⟩ => ?_
    have ex := r.inj r'
    subst ex
    rw [dy.inj I wd dy'] at e
    rw [e] at e'
    cases e'
theorem ans_all (I : Inv X pins σ H s) (wd : Wd X.g α S H) {n : Nat} {A : Around} {d : MV} {x : V} {v : Value} (hu : A.units + n < cLine) (dd : Den X.K α H d x) (rx : RelV x v) : ∀ {ys : List MV} {vs : List V} {us : List Value} {bs : List Bool}, DenL X.K α H ys vs → Vals vs us → ansL S n d ys = some bs →
    us.map (ansV X α S H n d) = bs ∧ ∀ u ∈ us, SeqAt.EqAt A s u v (ansV X α S H n d u)
  | [], _, _, bs, l, r, e => by
    cases l.isnil; cases r; cases e
    exact ⟨rfl, fun u hu => by cases hu⟩
  | y :: ys, _, _, bs, l, r, e => by
    obtain ⟨v', r', rfl, dy, l'⟩ := l.uncons
    cases r with
    | cons r1 r2 =>
      unfold ansL at e
      cases z : eqv S n y d with
      | none => rw [z] at e; cases e
      | some k =>
        rw [z] at e
        cases z2 : ansL S n d ys with
        | none => simp [z2] at e
        | some cs =>
          simp [z2] at e
          subst e
          obtain ⟨h1, h2⟩ := ans_all I wd hu dd rx l' r2 z2
          have h3 := ansV_is I wd dy r1 z
          refine ⟨by rw [List.map_cons, h1, h3], fun u hu' => ?_⟩
          rcases List.mem_cons.mp hu' with rfl | hu'
          · rw [h3]; exact eqAt_m I wd n A y d _ _ _ _ k hu dy dd r1 rx z
          · exact h2 u hu'
end
theorem any_map {us : List Value} {f : Value → Bool} {bs : List Bool} (h : us.map f = bs) : us.toArray.any f = bs.any id := by
  subst h
  simp [List.any_map]
/-- the items of a list or a tuple -/
def itemsOf (S : Sto) : Er → Option (List MV)
  | .val (.tup ds) => some ds
  | r => lsOf S r
theorem items_of {α : List Addr} {S : Sto} {H : Hp} (wd : Wd X.g α S H) {r : Er} {ds : List MV} {x : V} (e : itemsOf S r = some ds) (d : DenX X.K α H r x) : ∃ a vs, x = .ref a ∧ (SqL X.K H a vs ∨ SqT X.K H a vs) ∧ DenL X.K α H ds vs := by
  unfold itemsOf at e
  split at e
  · cases e
    obtain ⟨a, vs, rfl, s, l⟩ := xe_tup d
    exact ⟨a, vs, rfl, .inr s, l⟩
  · obtain ⟨a, vs, rfl, s, l⟩ := ls_of rfl wd e d
    exact ⟨a, vs, rfl, .inl s, l⟩
def inSeqF (neg : Bool) (p q : Er) (S : Sto) : R Er := match p with
  | .val d => match itemsOf S q with
    | some ys => match ansL S depthE d ys with
      | some bs => .ok (.val (.bl (if neg = true then !bs.any id else bs.any id))) S
      | none => .no
    | none => .no
  | .new _ => .no
def inF (neg : Bool) : Er → Er → Sto → R Er
  | .val (.str [c]), .val (.str y), S => .ok (.val (.bl (if neg = true then !decide (c ∈ y) else decide (c ∈ y)))) S
  | p, q, S => inSeqF neg p q S
abbrev rInM (X : Cx) (neg : Bool) : R2 := fun x y H Q => ∃ α S d q ys bs, Wd X.g α S H ∧ Den X.K α H d x ∧ DenX X.K α H q y ∧ itemsOf S q = some ys ∧ ansL S depthE d ys = some bs ∧ Q (.bl (if neg = true then !bs.any id else bs.any id)) H
theorem op_inM (hu : X.A.units + 64 < cLine) : OpR X (compareOp .In) (rInM X false) := by
  intro pins s σ H x y v u Q I rx ry h
  obtain ⟨α, S, d, q, ys, bs, wd, dd, dq, ei, ea, hq⟩ := h
  obtain ⟨a, vs, rfl, sq, l⟩ := items_of wd ei dq
  cases ry
  rcases sq with sq | sq
  · obtain ⟨its, r, pl, _⟩ := I.list sq
    obtain ⟨h1, h2⟩ := ans_all I wd (A := X.A.in1) (by show X.A.units + 1 + depthE < cLine; unfold depthE; omega) dd rx l r ea
    refine SeqAt.in_listAt (ansV X α S H depthE d) pl.isList (fun w hw => h2 w (by simpa using hw)) ⟨.bl _, H, I, rfl, ?_⟩
    rw [any_map h1]
    exact hq
  · obtain ⟨its, r, pl, _⟩ := I.tuple sq
    obtain ⟨h1, h2⟩ := ans_all I wd (A := X.A.in1) (by show X.A.units + 1 + depthE < cLine; unfold depthE; omega) dd rx l r ea
    refine SeqAt.in_tupleAt (ansV X α S H depthE d) pl (fun w hw => h2 w (by simpa using hw)) ⟨.bl _, H, I, rfl, ?_⟩
    rw [any_map h1]
    exact hq
theorem op_notinM (hu : X.A.units + 64 < cLine) : OpR X (compareOp .NotIn) (rInM X true) := by
  intro pins s σ H x y v u Q I rx ry h
  obtain ⟨α, S, d, q, ys, bs, wd, dd, dq, ei, ea, hq⟩ := h
  obtain ⟨a, vs, rfl, sq, l⟩ := items_of wd ei dq
  cases ry
  rcases sq with sq | sq
  · obtain ⟨its, r, pl, _⟩ := I.list sq
    obtain ⟨h1, h2⟩ := ans_all I wd (A := X.A.in1) (by show X.A.units + 1 + depthE < cLine; unfold depthE; omega) dd rx l r ea
    refine SeqAt.notIn_listAt (ansV X α S H depthE d) pl.isList (fun w hw => h2 w (by simpa using hw)) ⟨.bl _, H, I, rfl, ?_⟩
    rw [any_map h1]
    exact hq
  · obtain ⟨its, r, pl, _⟩ := I.tuple sq
    obtain ⟨h1, h2⟩ := ans_all I wd (A := X.A.in1) (by show X.A.units + 1 + depthE < cLine; unfold depthE; omega) dd rx l r ea
    refine SeqAt.notIn_tupleAt (ansV X α S H depthE d) pl (fun w hw => h2 w (by simpa using hw)) ⟨.bl _, H, I, rfl, ?_⟩
    rw [any_map h1]
    exact hq
theorem op2_inM {neg : Bool} : Op2 X W (fun x y H Q => (∃ i j, x = .str i ∧ y = .str j ∧ Q (.bl (if neg = true then !(!(Builtin.Str.occurrences j i 0 j.length 1).isEmpty) else !(Builtin.Str.occurrences j i 0 j.length 1).isEmpty)) H) ∨ rInM X neg x y H Q) (inF neg) := by
  intro p q x y α S H Q wd dp dq post
  unfold inF at post
  split at post
  · refine .inl ⟨_, _, xe_str dp, xe_str dq, ?_⟩
    rw [← mkS_one, PySem.StrLaws.found_one, mkS_cps]
    exact Post.val post wd (den_bl _)
  · unfold inSeqF at post
    split at post
    · rename_i d _
      split at post
      · rename_i ys ei
        split at post
        · rename_i bs ea
          exact .inr ⟨α, S, _, q, ys, bs, wd, dp, dq, ei, ea, Post.val post wd (den_bl _)⟩
        · exact post.elim
      · exact post.elim
    · exact post.elim
theorem OpR.imp {f : Value → Value → Sem Value} {r r' : R2} (h : OpR X f r) (i : ∀ x y H Q, r' x y H Q → r x y H Q) : OpR X f r' := fun pins s σ H x y v u Q I rx ry q => h pins s σ H x y v u Q I rx ry (i x y H Q q)
theorem op_inA (hu : X.A.units + 64 < cLine) : OpR X (compareOp .In) (fun x y H Q => (∃ i j, x = .str i ∧ y = .str j ∧ Q (.bl (if (false : Bool) = true then !(!(Builtin.Str.occurrences j i 0 j.length 1).isEmpty) else !(Builtin.Str.occurrences j i 0 j.length 1).isEmpty)) H) ∨ rInM X false x y H Q) :=
  OpR.imp (op_in_str.or (op_inM hu)) fun x y H Q q => q.imp (fun q => q) fun q => q
theorem op_notinA (hu : X.A.units + 64 < cLine) : OpR X (compareOp .NotIn) (fun x y H Q => (∃ i j, x = .str i ∧ y = .str j ∧ Q (.bl (if (true : Bool) = true then !(!(Builtin.Str.occurrences j i 0 j.length 1).isEmpty) else !(Builtin.Str.occurrences j i 0 j.length 1).isEmpty)) H) ∨ rInM X true x y H Q) :=
  OpR.imp (op_notin_str.or (op_notinM hu)) fun x y H Q q => q.imp (fun q => q) fun q => q
theorem pm_in (hu : X.A.units + 64 < cLine) (ha : PEm X W a f) (hb : PEm X W b g) (hm : behindInMarks .In b = false := by with_unfolding_all rfl) : PEm X W (.Compare a [.In] [b] pos) (fun ρ S => (f ρ S).bind fun p S1 => (g ρ S1).bind fun q S2 => inF false p q S2) := pm_cmp (op_inA hu) op2_inM ha hb hm
theorem tm_in (hu : X.A.units + 64 < cLine) (ha : PEm X W a f) (hb : PEm X W b g) (hm : behindInMarks .In b = false := by with_unfolding_all rfl) : PTm X W (.Compare a [.In] [b] pos) (fun ρ S => ((f ρ S).bind fun p S1 => (g ρ S1).bind fun q S2 => inF false p q S2).bind asB) := tm_cmp (op_inA hu) op2_inM ha hb hm
theorem pm_notin (hu : X.A.units + 64 < cLine) (ha : PEm X W a f) (hb : PEm X W b g) (hm : behindInMarks .NotIn b = false := by with_unfolding_all rfl) : PEm X W (.Compare a [.NotIn] [b] pos) (fun ρ S => (f ρ S).bind fun p S1 => (g ρ S1).bind fun q S2 => inF true p q S2) := pm_cmp (op_notinA hu) op2_inM ha hb hm
theorem tm_notin (hu : X.A.units + 64 < cLine) (ha : PEm X W a f) (hb : PEm X W b g) (hm : behindInMarks .NotIn b = false := by with_unfolding_all rfl) : PTm X W (.Compare a [.NotIn] [b] pos) (fun ρ S => ((f ρ S).bind fun p S1 => (g ρ S1).bind fun q S2 => inF true p q S2).bind asB) := tm_cmp (op_notinA hu) op2_inM ha hb hm

/-! ## builtins -/
theorem argx1 {K : PySem.W.Frag} {α : List Addr} {H : Hp} {r : Er} {vs : List V} (d : ArgsX K α H [r] vs) : ∃ v, vs = [v] ∧ DenX K α H r v := by
  cases d with
  | cons a l => cases l; exact ⟨_, rfl, a⟩
theorem argx2 {K : PySem.W.Frag} {α : List Addr} {H : Hp} {r r' : Er} {vs : List V} (d : ArgsX K α H [r, r'] vs) : ∃ v u, vs = [v, u] ∧ DenX K α H r v ∧ DenX K α H r' u := by
  cases d with
  | cons a l => obtain ⟨u, rfl, l'⟩ := argx1 l; exact ⟨_, u, rfl, a, l'⟩
def lenF : List Er → Sto → R Er
  | [.val (.str x)], S => if x.length ≤ sizeLine then .ok (.val (.int x.length)) S else .no
  | [r], S => match itemsOf S r with | some ds => .ok (.val (.int ds.length)) S | none => .no
  | _, _ => .no
theorem cm_len : CallM X W (fun xs H Q => (∃ z, xs = [.str z] ∧ z.length ≤ sizeLine ∧ Q (.int z.length) H) ∨ ∃ p ys, xs = [.ref p] ∧ (SqL X.K H p ys ∨ SqT X.K H p ys) ∧ Q (.int ys.length) H) lenF := by
  intro rs vs α S H Q wd d post
  unfold lenF at post
  split at post
  · split at post
    · rename_i hz
      obtain ⟨v, rfl, dv⟩ := argx1 d
      cases xe_str dv
      refine .inl ⟨_, rfl, by rw [mkS_len]; exact hz, ?_⟩
      rw [mkS_len]
      exact Post.val post wd (den_int _)
    · exact post.elim
  · split at post
    · rename_i ds e
      obtain ⟨v, rfl, dv⟩ := argx1 d
      obtain ⟨a, us, rfl, sq, l⟩ := items_of wd e dv
      refine .inr ⟨a, us, rfl, sq, ?_⟩
      rw [l.length]
      exact Post.val post wd (den_int _)
    · exact post.elim
  · exact post.elim
theorem call_lenM : CallR X (.builtin "len") (fun xs H Q => (∃ z, xs = [.str z] ∧ z.length ≤ sizeLine ∧ Q (.int z.length) H) ∨ ∃ p ys, xs = [.ref p] ∧ (SqL X.K H p ys ∨ SqT X.K H p ys) ∧ Q (.int ys.length) H) := call_len_str.or call_len_seq
def absF : List Er → Sto → R Er
  | [.val (.int i)], S => .ok (.val (.int (if i < 0 then -i else i))) S
  | _, _ => .no
theorem cm_abs : CallM X W (fun xs H Q => ∃ i, xs = [.int i] ∧ Q (.int (if i < 0 then -i else i)) H) absF := by
  intro rs vs α S H Q wd d post
  unfold absF at post
  split at post
  · obtain ⟨v, rfl, dv⟩ := argx1 d
    cases xe_int dv
    exact ⟨_, rfl, Post.val post wd (den_int _)⟩
  · exact post.elim
def blsOf : List MV → Option (List Bool)
  | [] => some []
  | .bl b :: r => (blsOf r).map (b :: ·)
  | _ :: _ => none
theorem blsOf_den {K : PySem.W.Frag} {α : List Addr} {H : Hp} : ∀ {ds : List MV} {bs : List Bool} {vs : List V}, blsOf ds = some bs → DenL K α H ds vs → vs = bs.map V.bl
  | [], _, _, e, l => by cases e; exact l.isnil
  | d :: r, bs, _, e, l => by
    cases d with
    | bl b =>
      unfold blsOf at e
      cases z : blsOf r with
      | none => rw [z] at e; cases e
      | some cs =>
        rw [z] at e
        cases e
        obtain ⟨v, us, rfl, dv, l'⟩ := l.uncons
        rw [of_bl dv, blsOf_den z l']
        rfl
    | _ => cases e
def allF : List Er → Sto → R Er
  | [r], S => match (lsOf S r).bind blsOf with | some bs => .ok (.val (.bl (bs.all id))) S | none => .no
  | _, _ => .no
def anyF : List Er → Sto → R Er
  | [r], S => match (lsOf S r).bind blsOf with | some bs => .ok (.val (.bl (bs.any id))) S | none => .no
  | _, _ => .no
theorem cm_all (hc : X.calm = true) : CallM X W (fun xs H Q => ∃ (a : Addr) (bs : List Bool), xs = [.ref a] ∧ SqL X.K H a (bs.map V.bl) ∧ X.calm = true ∧ Q (.bl (bs.all id)) H) allF := by
  intro rs vs α S H Q wd d post
  unfold allF at post
  split at post
  · split at post
    · rename_i bs e
      obtain ⟨v, rfl, dv⟩ := argx1 d
      cases z : lsOf S _ with
      | none => rw [z] at e; cases e
      | some ds =>
        rw [z] at e
        obtain ⟨a1, us, rfl, s, l⟩ := ls_of rfl wd z dv
        refine ⟨a1, bs, rfl, ?_, hc, Post.val post wd (den_bl _)⟩
        rw [← blsOf_den e l]
        exact s
    · exact post.elim
  · exact post.elim
/-! ### isinstance -/
def tyName (S : Sto) : Er → Option String
  | .val .non => some "NoneType"
  | .val (.bl _) => some "bool"
  | .val (.int _) => some "int"
  | .val (.str _) => some "str"
  | .val (.tup _) => some "tuple"
  | .val (.typ _) => none
  | r => (lsOf S r).map fun _ => "list"
def isiB (t T : String) : Bool := t == T || (t == "bool" && T == "int")
def known (T : String) : Bool := T == "int" || T == "bool" || T == "str" || T == "tuple" || T == "list"
def isiF : List Er → Sto → R Er
  | [r, .val (.typ T)], S => match tyName S r with
    | some t => if known T = true then .ok (.val (.bl (isiB t T))) S else .no
    | none => .no
  | _, _ => .no
theorem kit_table (K : PySem.W.Frag) {t T : String} (ht : t = "NoneType" ∨ t = "bool" ∨ t = "int" ∨ t = "str" ∨ t = "tuple" ∨ t = "list") (hT : known T = true) : PySem.W.kitOne K (.type t) (.type T) = some (isiB t T) := by
  have hT' : T = "int" ∨ T = "bool" ∨ T = "str" ∨ T = "tuple" ∨ T = "list" := by
    unfold known at hT
    simp only [Bool.or_eq_true, beq_iff_eq] at hT
    rcases hT with (((h | h) | h) | h) | h
    · exact .inl h
    · exact .inr (.inl h)
    · exact .inr (.inr (.inl h))
    · exact .inr (.inr (.inr (.inl h)))
    · exact .inr (.inr (.inr (.inr h)))
  rcases ht with rfl | rfl | rfl | rfl | rfl | rfl <;> rcases hT' with rfl | rfl | rfl | rfl | rfl <;> kernel_rfl
theorem call_isi : CallR X (.builtin "isinstance") (fun xs H Q => ∃ α S r x t T, xs = [x, .ty T] ∧ Wd X.g α S H ∧ DenX X.K α H r x ∧ tyName S r = some t ∧ known T = true ∧ Q (.bl (isiB t T)) H) := by
  intro pins s σ H xs us Q I rr h
  obtain ⟨α, S, r, x, t, T, rfl, wd, d, et, hk, q⟩ := h
  obtain ⟨u, w', rfl, rx, rT⟩ := vals2 rr
  cases rT
  have fin : ∀ tk, EP X pins σ Q (.bool (isiB t T)) { s with toks := tk } := fun tk => ⟨.bl _, H, I.tok _, rfl, q⟩
  unfold tyName at et
  split at et
  · cases et
    cases xe_non d
    cases rx
    exact PySem.W.kia_one PySem.W.kitx_none I.kIn True.intro (kit_table X.K (.inl rfl) hk) (fun z => nomatch z) fin
  · cases et
    cases xe_bl d
    cases rx
    exact PySem.W.kia_one PySem.W.kitx_bool I.kIn True.intro (kit_table X.K (.inr (.inl rfl)) hk) (fun z => nomatch z) fin
  · cases et
    cases xe_int d
    obtain ⟨t, rfl⟩ := rx
    exact PySem.W.kia_one PySem.W.kitx_int I.kIn True.intro (kit_table X.K (.inr (.inr (.inl rfl))) hk) (fun z => nomatch z) fin
  · cases et
    cases xe_str d
    obtain ⟨t, rfl⟩ := rx
    exact PySem.W.kia_one PySem.W.kitx_str I.kIn True.intro (kit_table X.K (.inr (.inr (.inr (.inl rfl)))) hk) (fun z => nomatch z) fin
  · cases et
    obtain ⟨a, vs, rfl, sq, l⟩ := xe_tup d
    cases rx
    obtain ⟨its, r1, p1, _⟩ := I.tuple sq
    obtain ⟨o, h1, h2, _⟩ := p1
    exact PySem.W.kia_one PySem.W.kitx_tuple I.kIn ⟨o, h1, h2⟩ (kit_table X.K (.inr (.inr (.inr (.inr (.inl rfl))))) hk) (fun z => nomatch z) fin
  · cases et
  · cases z : lsOf S r with
    | none => rw [z] at et; cases et
    | some ds =>
      rw [z] at et
      cases et
      obtain ⟨a, vs, rfl, sq, l⟩ := ls_of rfl wd z d
      cases rx
      obtain ⟨its, r1, p1, _⟩ := I.list sq
      obtain ⟨o, h1, h2, _⟩ := p1.isList
      exact PySem.W.kia_one PySem.W.kitx_list I.kIn ⟨o, h1, h2⟩ (kit_table X.K (.inr (.inr (.inr (.inr (.inr rfl))))) hk) (fun z => nomatch z) fin
theorem cm_isi : CallM X W (fun xs H Q => ∃ α S r x t T, xs = [x, .ty T] ∧ Wd X.g α S H ∧ DenX X.K α H r x ∧ tyName S r = some t ∧ known T = true ∧ Q (.bl (isiB t T)) H) isiF := by
  intro rs vs α S H Q wd d post
  unfold isiF at post
  split at post
  · split at post
    · rename_i t et
      split at post
      · rename_i hk
        obtain ⟨v, u, rfl, d1, d2⟩ := argx2 d
        cases xe_typ d2
        exact ⟨α, S, _, v, t, _, rfl, wd, d1, et, hk, Post.val post wd (den_bl _)⟩
      · exact post.elim
    · exact post.elim
  · exact post.elim
/-! ### tuple(x), list(x), str(x), int(x) -/
def tupleF : List Er → Sto → R Er
  | [.val (.tup ds)], S => .ok (.val (.tup ds)) S
  | [r], S => match lsOf S r with | some ds => .ok (.val (.tup ds)) S | none => .no
  | _, _ => .no
theorem cm_tuple : CallM X W (fun xs H Q => ∃ p ys, xs = [.ref p] ∧ ((SqL X.K H p ys ∧ ∀ l, H l = none → Q (.ref l) (upd H l (.tup ys))) ∨ (SqT X.K H p ys ∧ Q (.ref p) H))) tupleF := by
  intro rs vs α S H Q wd d post
  unfold tupleF at post
  split at post
  · obtain ⟨v, rfl, dv⟩ := argx1 d
    obtain ⟨a, us, rfl, sq, l⟩ := xe_tup dv
    exact ⟨a, us, rfl, .inr ⟨sq, Post.val post wd (den_tup sq l)⟩⟩
  · split at post
    · rename_i ds e
      obtain ⟨v, rfl, dv⟩ := argx1 d
      obtain ⟨a, us, rfl, sq, l⟩ := ls_of rfl wd e dv
      exact ⟨a, us, rfl, .inl ⟨sq, fun p hp => Post.newt post wd hp l⟩⟩
    · exact post.elim
  · exact post.elim
def listF : List Er → Sto → R Er
  | [r], S => match itemsOf S r with | some ds => .ok (.new ds) S | none => .no
  | _, _ => .no
theorem cm_list : CallM X W (fun xs H Q => ∃ p ys, xs = [.ref p] ∧ (SqL X.K H p ys ∨ SqT X.K H p ys) ∧ ∀ l, H l = none → Q (.ref l) (upd H l (.lst ys))) listF := by
  intro rs vs α S H Q wd d post
  unfold listF at post
  split at post
  · split at post
    · rename_i ds e
      obtain ⟨v, rfl, dv⟩ := argx1 d
      obtain ⟨a, us, rfl, sq, l⟩ := items_of wd e dv
      exact ⟨a, us, rfl, sq, fun p hp => Post.newl post wd hp l⟩
    · exact post.elim
  · exact post.elim
theorem bt_len : bootBuiltins "len" = some (.builtin "len") := by decide +kernel
theorem bt_abs : bootBuiltins "abs" = some (.builtin "abs") := by decide +kernel
theorem bt_all : bootBuiltins "all" = some (.builtin "all") := by decide +kernel
theorem bt_any : bootBuiltins "any" = some (.builtin "any") := by decide +kernel
theorem bt_isinstance : bootBuiltins "isinstance" = some (.builtin "isinstance") := by decide +kernel
theorem bt_int : bootBuiltins "int" = some (.type "int") := by decide +kernel
theorem bt_bool : bootBuiltins "bool" = some (.type "bool") := by decide +kernel
theorem bt_str : bootBuiltins "str" = some (.type "str") := by decide +kernel
theorem bt_tuple : bootBuiltins "tuple" = some (.type "tuple") := by decide +kernel
theorem bt_list : bootBuiltins "list" = some (.type "list") := by decide +kernel
end
end M
end L2

namespace L2
namespace M
open PySem PySem.Spec PyProof.Rows

/-! ## numbers as texts -/
def digN (n : Nat) : List Nat := (Nat.toDigits 10 n).map Char.toNat
def decL (i : Int) : List Nat := if i < 0 then 45 :: digN i.natAbs else digN i.natAbs
theorem decL_str (i : Int) : Str.ofString (toString i) = mkS (decL i) := by
  have key : (Str.ofString (toString i)).cps.toList = decL i := by
    unfold decL
    cases i with
    | ofNat m =>
      rw [if_neg (by have : (0 : Int) ≤ Int.ofNat m := Int.natCast_nonneg m; omega)]
      exact PySem.W.KIN.signs_num m
    | negSucc m =>
      rw [if_pos (Int.negSucc_lt_zero m), signs_ofString]
      show (String.toList ("-" ++ Nat.repr (m + 1))).map Char.toNat = 45 :: digN (m + 1)
      rw [String.toList_append, List.map_append, Nat.toList_repr]
      rfl
  have : ∀ s : Str, s = mkS s.cps.toList := fun s => by cases s; simp [mkS]
  rw [this (Str.ofString (toString i)), key]
section
variable {X : Cx} {W : XW} {a b c e o i : Expr} {es : List Expr} {f g h : Rho → Sto → R Er} {af : Rho → Sto → R (List Er)} {pos apos : Pos}
theorem call_str_sv : CallR X (.type "str") (fun xs H Q => (∃ i, xs = [.int i] ∧ i.natAbs.log2 < 1920 ∧ Q (.str (mkS (decL i))) H) ∨ ∃ x, xs = [.str x] ∧ Q (.str x) H) := by
  intro pins s σ H xs us Q I r h
  rcases h with ⟨i, rfl, hz, q⟩ | ⟨x, rfl, q⟩
  · refine call_str_int pins s σ H _ us Q I r ⟨i, rfl, hz, ?_⟩
    show Q (.str (Str.ofString (toString i))) H
    rw [decL_str]; exact q
  · obtain ⟨u, rfl, t, rfl⟩ := vals1 r
    exact PySem.P.str_of_str ⟨.str x, H, I, ⟨_, rfl⟩, q⟩
def strF : List Er → Sto → R Er
  | [.val (.int i)], S => if i.natAbs.log2 < 1920 then .ok (.val (.str (decL i))) S else .no
  | [.val (.str x)], S => .ok (.val (.str x)) S
  | _, _ => .no
theorem cm_str : CallM X W (fun xs H Q => (∃ i, xs = [.int i] ∧ i.natAbs.log2 < 1920 ∧ Q (.str (mkS (decL i))) H) ∨ ∃ x, xs = [.str x] ∧ Q (.str x) H) strF := by
  intro rs vs α S H Q wd d post
  unfold strF at post
  split at post
  · obtain ⟨v, rfl, dv⟩ := argx1 d
    cases xe_int dv
    split at post
    · rename_i hz
      exact .inl ⟨_, rfl, hz, Post.val post wd (den_str _)⟩
    · exact post.elim
  · obtain ⟨v, rfl, dv⟩ := argx1 d
    cases xe_str dv
    exact .inr ⟨_, rfl, Post.val post wd (den_str _)⟩
  · exact post.elim
theorem call_int_sv : CallR X (.type "int") (fun xs H Q => ((∃ i, xs = [.int i] ∧ Q (.int i) H) ∨ ∃ k, xs = [.bl k] ∧ Q (.int (if k then 1 else 0)) H) ∨ ∃ x n, xs = [.str x] ∧ PySem.intText? x = some n ∧ x.length ≤ 640 ∧ Q (.int n) H) := by
  refine call_int1.or ?_
  intro pins s σ H xs us Q I r h
  obtain ⟨x, n, rfl, hn, hl, q⟩ := h
  obtain ⟨u, rfl, t, rfl⟩ := vals1 r
  exact PySem.W.KIN.call_text hn hl ⟨.int n, H, I.tok _, ⟨_, rfl⟩, q⟩
def intF : List Er → Sto → R Er
  | [.val (.int i)], S => .ok (.val (.int i)) S
  | [.val (.bl k)], S => .ok (.val (.int (if k then 1 else 0))) S
  | [.val (.str x)], S => match PySem.intText? (mkS x) with
    | some n => if x.length ≤ 640 then .ok (.val (.int n)) S else .no
    | none => .no
  | _, _ => .no
theorem cm_int : CallM X W (fun xs H Q => ((∃ i, xs = [.int i] ∧ Q (.int i) H) ∨ ∃ k, xs = [.bl k] ∧ Q (.int (if k then 1 else 0)) H) ∨ ∃ x n, xs = [.str x] ∧ PySem.intText? x = some n ∧ x.length ≤ 640 ∧ Q (.int n) H) intF := by
  intro rs vs α S H Q wd d post
  unfold intF at post
  split at post
  · obtain ⟨v, rfl, dv⟩ := argx1 d
    cases xe_int dv
    exact .inl (.inl ⟨_, rfl, Post.val post wd (den_int _)⟩)
  · obtain ⟨v, rfl, dv⟩ := argx1 d
    cases xe_bl dv
    exact .inl (.inr ⟨_, rfl, Post.val post wd (den_int _)⟩)
  · obtain ⟨v, rfl, dv⟩ := argx1 d
    cases xe_str dv
    split at post
    · rename_i n hn
      split at post
      · rename_i hz
        exact .inr ⟨_, n, rfl, hn, by rw [mkS_len]; exact hz, Post.val post wd (den_int _)⟩
      · exact post.elim
    · exact post.elim
  · exact post.elim

/-! ## methods of texts -/
def isStrE : Er → Sto → Bool
  | .val (.str _), _ => true
  | _, _ => false
theorem ty_str : TyM X "str" isStrE := by
  intro p x α S H wd d h
  unfold isStrE at h
  split at h
  · cases xe_str d; rfl
  · cases h
def isLst (p : Er) (S : Sto) : Bool := (lsOf S p).isSome
theorem ty_lst : TyM X "list" isLst := by
  intro p x α S H wd d h
  unfold isLst at h
  cases z : lsOf S p with
  | none => rw [z] at h; cases h
  | some ds =>
    obtain ⟨a, vs, rfl, s, l⟩ := ls_of rfl wd z d
    exact .inl ⟨rfl, vs, s⟩
theorem startsL (x y : List Nat) : Txt.startswith (mkS x) (mkS y) = (decide (y.length ≤ x.length) && decide (x.take y.length = y)) := by
  show (decide (0 + (mkS y).length ≤ (mkS x).length) && PySem.Builtin.Str.subAt (mkS x) (mkS y) 0) = _
  rw [mkS_len, mkS_len, Nat.zero_add]
  congr 1
  unfold PySem.Builtin.Str.subAt
  rw [mkS_len, Bool.eq_iff_iff, beq_iff_eq, decide_eq_true_eq, Nat.zero_add]
  constructor
  · intro h
    have := congrArg Array.toList h
    simpa [mkS] using this
  · intro h
    apply Array.toList_inj.mp
    simpa [mkS] using h
def swF : Er → List Er → Sto → R Er
  | .val (.str x), [.val (.str y)], S => .ok (.val (.bl (decide (y.length ≤ x.length) && decide (x.take y.length = y)))) S
  | _, _, _ => .no
theorem mt_starts : MtR X "str.startswith" (fun x xs H Q => ∃ y z, x = .str (mkS y) ∧ xs = [.str (mkS z)] ∧ Q (.bl (decide (z.length ≤ y.length) && decide (y.take z.length = z))) H) := by
  intro pins s σ H x xs v us Q I rx rs h
  obtain ⟨y, z, rfl, rfl, q⟩ := h
  obtain ⟨t, rfl⟩ := rx
  obtain ⟨u, rfl, t', rfl⟩ := vals1 rs
  refine PySem.SC.startswith ⟨.bl _, H, I, rfl, ?_⟩
  rw [startsL]
  exact q
theorem mm_starts : MtdM X W (fun x xs H Q => ∃ y z, x = .str (mkS y) ∧ xs = [.str (mkS z)] ∧ Q (.bl (decide (z.length ≤ y.length) && decide (y.take z.length = z))) H) swF := by
  intro p rs x vs α S H0 H Q α0 wd x0 dp da post
  replace post := post.shift x0
  unfold swF at post
  split at post
  · obtain ⟨v, rfl, dv⟩ := args1 da
    exact ⟨_, _, xe_str dp, by rw [xe_str dv], Post.val post wd (den_bl _)⟩
  · exact post.elim
theorem pm_starts (ho : PEm X W a f) (ha : PAm X W (e :: es) af)
    (hbase : attributeBase a "startswith" X.env (eval a X.env) = eval a X.env := by rfl)
    (hfew : ((backTo pos (starEach (e :: es) X.env)).all (fun x => !x.1) && (backToKw pos (keywordEach [] X.env)).all (fun x => x.1.isSome)
      && decide ((e :: es).length + ([] : List Keyword).length + (if ([] : List Keyword).isEmpty then 0 else 1) < 30)) = true := by rfl)
    (hline : (apos.endLine == pos.line) = true := by rfl) (hs : starEach (e :: es) X.env = (false, eval e X.env) :: starEach es X.env := by rfl) (hplain : (backTo pos (starEach es X.env)).any (·.1) = false := by rfl) :
    PEm X W (.Call (.Attribute a "startswith" apos) (e :: es) [] pos) (fun ρ S => (f ρ S).bind fun p S1 => if isStrE p S1 = true then (af ρ S1).bind fun rs S2 => swF p rs S2 else .no) :=
  pm_meth PySem.F.plainAttrs_str PySem.F.slot_str_startswith PySem.F.type_str_startswith mt_starts mm_starts ty_str ho ha hbase hfew hline hs hplain
/-- x.index(y), y there -/
def strIdx (x y : List Nat) : Option Nat := (Builtin.Str.occurrences (mkS x) (mkS y) 0 (mkS x).length 1).head?
def sidxF : Er → List Er → Sto → R Er
  | .val (.str x), [.val (.str y)], S => match strIdx x y with | some i => .ok (.val (.int (i : Nat))) S | none => .no
  | _, _, _ => .no
theorem mt_sidx : MtR X "str.index" (fun x xs H Q => ∃ y z i, x = .str (mkS y) ∧ xs = [.str (mkS z)] ∧ strIdx y z = some i ∧ Q (.int (i : Nat)) H) := by
  intro pins s σ H x xs v us Q I rx rs h
  obtain ⟨y, z, i, rfl, rfl, hi, q⟩ := h
  obtain ⟨t, rfl⟩ := rx
  obtain ⟨u, rfl, t', rfl⟩ := vals1 rs
  unfold strIdx at hi
  cases zz : Builtin.Str.occurrences (mkS y) (mkS z) 0 (mkS y).length 1 with
  | nil => rw [zz] at hi; cases hi
  | cons k r =>
    rw [zz] at hi
    cases hi
    exact PySem.SC.index zz ⟨.int _, H, I.tok _, ⟨_, rfl⟩, q⟩
theorem mm_sidx : MtdM X W (fun x xs H Q => ∃ y z i, x = .str (mkS y) ∧ xs = [.str (mkS z)] ∧ strIdx y z = some i ∧ Q (.int (i : Nat)) H) sidxF := by
  intro p rs x vs α S H0 H Q α0 wd x0 dp da post
  replace post := post.shift x0
  unfold sidxF at post
  split at post
  · split at post
    · rename_i i hi
      obtain ⟨v, rfl, dv⟩ := args1 da
      exact ⟨_, _, i, xe_str dp, by rw [xe_str dv], hi, Post.val post wd (den_int _)⟩
    · exact post.elim
  · exact post.elim
theorem pm_sidx (ho : PEm X W a f) (ha : PAm X W (e :: es) af)
    (hbase : attributeBase a "index" X.env (eval a X.env) = eval a X.env := by rfl)
    (hfew : ((backTo pos (starEach (e :: es) X.env)).all (fun x => !x.1) && (backToKw pos (keywordEach [] X.env)).all (fun x => x.1.isSome)
      && decide ((e :: es).length + ([] : List Keyword).length + (if ([] : List Keyword).isEmpty then 0 else 1) < 30)) = true := by rfl)
    (hline : (apos.endLine == pos.line) = true := by rfl) (hs : starEach (e :: es) X.env = (false, eval e X.env) :: starEach es X.env := by rfl) (hplain : (backTo pos (starEach es X.env)).any (·.1) = false := by rfl) :
    PEm X W (.Call (.Attribute a "index" apos) (e :: es) [] pos) (fun ρ S => (f ρ S).bind fun p S1 => if isStrE p S1 = true then (af ρ S1).bind fun rs S2 => sidxF p rs S2 else .no) :=
  pm_meth PySem.F.plainAttrs_str PySem.F.slot_str_index PySem.F.type_str_index mt_sidx mm_sidx ty_str ho ha hbase hfew hline hs hplain

/-! ## methods of lists -/
/-- the store's list at l becomes what G says -/
def updL (p : Er) (S : Sto) (G : List MV → Option (List MV)) : R Er := match p with
  | .val (.loc l) => match S[l]? with
    | some (.lst ds) => match G ds with
      | some es => .ok (.val .non) (S.set l (.lst es))
      | none => .no
    | _ => .no
  | _ => .no
theorem updL_post {α0 α : List Addr} {H0 H : Hp} {S : Sto} {p : Er} {x : V} {G : List MV → Option (List MV)} {Q : VK} (wd : Wd X.g α S H) (x0 : Ext α0 H0 α H) (dp : DenX X.K α H p x) (post : Post X.g W α0 H0 (updL p S G) Q) :
    ∃ a vs ds es, x = .ref a ∧ H a = some (.lst vs) ∧ DenL X.K α H ds vs ∧ G ds = some es ∧ ∀ us, DenL X.K α H es us → Q .non (upd H a (.lst us)) := by
  unfold updL at post
  split at post
  · rename_i l
    obtain ⟨a, rfl, h⟩ := xe_loc dp
    obtain ⟨ob, h1, h2⟩ := wd.of h
    rw [h1] at post
    cases ob with
    | lst ds =>
      obtain ⟨vs, h3, l1⟩ := h2
      have post : Post X.g W α0 H0 (match G ds with | some es => R.ok (Er.val .non) (S.set l (.lst es)) | none => R.no) Q := post
      split at post
      · rename_i es eg
        refine ⟨a, vs, ds, es, rfl, h3, l1, eg, fun us lu => ?_⟩
        have xw := wd.writex h (o := .lst us)
        exact (post.shift (x0.trans xw)).val (wd.write h ⟨us, upd_same, lu.ext xw⟩) den_non
      · exact post.elim
    | dic _ => exact post.elim
    | ins _ _ => exact post.elim
  · exact post.elim
def appF : Er → List Er → Sto → R Er
  | p, [r], S => (enter1 r S).bind fun y S1 => updL p S1 fun ds => if ds.length < sizeLine then some (ds ++ [y]) else none
  | _, _, _ => .no
theorem mm_append : MtdM X W rAppend appF := by
  intro p rs x vs α S H0 H Q α0 wd x0 dp da post
  match rs, da, post with
  | [], _, post => exact post.elim
  | _ :: _ :: _, _, post => exact post.elim
  | [r], da, post =>
    cases da with
    | cons d n l =>
      cases l
      obtain ⟨d', S', α', e', x', y', w', dd⟩ := enter1_ok wd x0 d
      have post : Post X.g W α0 H0 ((enter1 r S).bind fun y S1 => updL p S1 fun ds => if ds.length < sizeLine then some (ds ++ [y]) else none) Q := post
      rw [e'] at post
      have dp' : DenX X.K α' H p x := by
        cases p with
        | val m => exact Den.ex0 y' dp
        | new ds => exact post.elim
      obtain ⟨a, us, ds, es, rfl, h1, l1, eg, k⟩ := updL_post w' x' dp' post
      split at eg
      · rename_i hz
        cases eg
        exact ⟨a, us, _, rfl, rfl, h1, by rw [l1.length]; exact hz, k _ (l1.append (denl_cons dd denl_nil))⟩
      · cases eg
theorem pm_append (ho : PEm X W a f) (ha : PAm X W (e :: es) af)
    (hbase : attributeBase a "append" X.env (eval a X.env) = eval a X.env := by rfl)
    (hfew : ((backTo pos (starEach (e :: es) X.env)).all (fun x => !x.1) && (backToKw pos (keywordEach [] X.env)).all (fun x => x.1.isSome)
      && decide ((e :: es).length + ([] : List Keyword).length + (if ([] : List Keyword).isEmpty then 0 else 1) < 30)) = true := by rfl)
    (hline : (apos.endLine == pos.line) = true := by rfl) (hs : starEach (e :: es) X.env = (false, eval e X.env) :: starEach es X.env := by rfl) (hplain : (backTo pos (starEach es X.env)).any (·.1) = false := by rfl) :
    PEm X W (.Call (.Attribute a "append" apos) (e :: es) [] pos) (fun ρ S => (f ρ S).bind fun p S1 => if isLst p S1 = true then (af ρ S1).bind fun rs S2 => appF p rs S2 else .no) :=
  pm_meth PySem.F.plainAttrs_list PySem.F.slot_list_append PySem.F.type_list_append mt_append mm_append ty_lst ho ha hbase hfew hline hs hplain
def clrF : Er → List Er → Sto → R Er
  | p, [], S => updL p S fun _ => some []
  | _, _, _ => .no
theorem mm_clear : MtdM X W rClear clrF := by
  intro p rs x vs α S H0 H Q α0 wd x0 dp da post
  match rs, da, post with
  | _ :: _, _, post => exact post.elim
  | [], .nil, post =>
    have post : Post X.g W α0 H0 (updL p S fun _ => some []) Q := post
    obtain ⟨a, us, ds, es, rfl, h1, l1, eg, k⟩ := updL_post wd x0 dp post
    cases eg
    exact ⟨a, us, rfl, rfl, h1, k [] denl_nil⟩
def revF : Er → List Er → Sto → R Er
  | p, [], S => updL p S fun ds => some ds.reverse
  | _, _, _ => .no
theorem mm_reverse : MtdM X W rReverse revF := by
  intro p rs x vs α S H0 H Q α0 wd x0 dp da post
  match rs, da, post with
  | _ :: _, _, post => exact post.elim
  | [], .nil, post =>
    have post : Post X.g W α0 H0 (updL p S fun ds => some ds.reverse) Q := post
    obtain ⟨a, us, ds, es, rfl, h1, l1, eg, k⟩ := updL_post wd x0 dp post
    cases eg
    exact ⟨a, us, rfl, rfl, h1, k _ l1.reverse⟩
theorem pm_clear (ho : PEm X W a f) (hbase : attributeBase a "clear" X.env (eval a X.env) = eval a X.env := by rfl) (hline : (apos.endLine == pos.line) = true := by rfl) :
    PEm X W (.Call (.Attribute a "clear" apos) [] [] pos) (fun ρ S => (f ρ S).bind fun p S1 => if isLst p S1 = true then clrF p [] S1 else .no) :=
  pm_meth0 PySem.F.plainAttrs_list PySem.F.slot_list_clear PySem.F.type_list_clear mt_clear mm_clear ty_lst ho hbase hline
theorem pm_reverse (ho : PEm X W a f) (hbase : attributeBase a "reverse" X.env (eval a X.env) = eval a X.env := by rfl) (hline : (apos.endLine == pos.line) = true := by rfl) :
    PEm X W (.Call (.Attribute a "reverse" apos) [] [] pos) (fun ρ S => (f ρ S).bind fun p S1 => if isLst p S1 = true then revF p [] S1 else .no) :=
  pm_meth0 PySem.F.plainAttrs_list PySem.F.slot_list_reverse PySem.F.type_list_reverse mt_reverse mm_reverse ty_lst ho hbase hline

/-! ## xs[i] = v -/
def setIF (p q : Er) (d : MV) (ρ : Rho) (S : Sto) : R Rho := match p, q with
  | .val (.loc l), .val (.int k) => match S[l]? with
    | some (.lst ds) => match ixN ds.length k with
      | some j => .ok ρ (S.set l (.lst (ds.set j d)))
      | none => .no
    | _ => .no
  | _, _ => .no
theorem gm_sub (ho : PEm X W o f) (hi : PEm X W i g)
    (ha : ∀ v, assign (.Subscript o i pos) X.env v = (do
      let ov ← holding [v] (eval o X.env)
      let iv ← holding [v, ov] (eval i X.env)
      standAt pos
      holding [v, ov, iv] (setItem ov iv v)
      release [v, ov, iv] []) := by intro _; rfl) : PGm X W (.Subscript o i pos) (fun d ρ S => (f ρ S).bind fun p S1 => (g ρ S1).bind fun q S2 => setIF p q d ρ S2) := by
  obtain ⟨to, ho, fo⟩ := ho
  obtain ⟨ti, hi, fi⟩ := hi
  refine ⟨_, pg_sub ho hi set_list ha, fun α ρ S σ H d v Q wd sl de q => fo α ρ S σ H _ wd sl (q.bind fun u p S1 α1 H1 e1 x1 w1 d1 q1 => fi α1 ρ S1 σ H1 _ w1 (sl.ext x1) ((q1.shift x1).bind fun u2 p2 S2 α2 H2 e2 x2 w2 d2 q2 => ?_))⟩
  replace q2 := q2.shift x2
  have d1' := DenX.ext x2 d1.1
  unfold setIF at q2
  split at q2
  · rename_i l k
    obtain ⟨a, rfl, h⟩ := xe_loc d1'
    cases xe_int d2.1
    obtain ⟨ob, h1, h2⟩ := w2.of h
    rw [h1] at q2
    cases ob with
    | lst ds =>
      obtain ⟨vs, h3, l1⟩ := h2
      have q2 : Post X.g W α2 H2 (match ixN ds.length k with | some j => R.ok ρ (S2.set l (.lst (ds.set j d))) | none => R.no) Q := q2
      split at q2
      · rename_i j ej
        have xw := w2.writex h (o := .lst (vs.set j v))
        have sl2 := ((sl.ext x1).ext x2).ext xw
        exact ⟨a, vs, k, j, rfl, rfl, h3, by rw [l1.length]; exact ej, q2 σ α2 _ xw (w2.write h ⟨_, upd_same, (l1.set ((de.ext x1).ext x2) j).ext xw⟩) sl2⟩
      · exact q2.elim
    | dic _ => exact q2.elim
    | ins _ _ => exact q2.elim
  · exact q2.elim
end
end M
end L2

namespace L2
namespace M
open PySem PySem.Spec PyProof.Rows

/-! ## several records turn at once -/
theorem _root_.L2.Inv.turnedL {X : Cx} {pins : List (Addr × Obj)} {σ : St} {H : Hp} {s : Shared} {h' : Heap} {t' : Nat} {fp : List Addr} (I : Inv X pins σ H s) (k : ∀ b o, b ∉ fp → s.heap.get? b = some o → h'.get? b = some o)
    (hf : ∀ b ∈ fp, FpOk X pins H b) : Inv X pins σ H { s with heap := h', toks := t' } := by
  have nit : ∀ b u, H b = some u → b ∉ fp := fun b u e z => by rw [(hf b z).1] at e; cases e
  refine I.step (g' := s.gens) (d' := s.drawn) (ch := fp) (fun b hb => ⟨(hf b hb).2.2.2.1, (hf b hb).2.1, (hf b hb).2.2.2.2.1, (hf b hb).2.2.2.2.2⟩) (fun b o _ _ hc e _ => k b o hc e) (fun b o _ _ hc e _ => ⟨o.slots, k b o hc e⟩) (fun _ _ _ _ n => n)
    (fun b o hc e => ⟨o, k b o hc e⟩) (fun _ _ e => e) (fun _ _ _ e => e) (fun b ps e => ⟨#[], by rw [e]; simp⟩) (fun m hm => ?_) (fun b u e => ?_) I.bare
  · obtain ⟨o, es, ep, ho, r⟩ := hm
    exact ⟨o, es, ep, k _ o (fun z => (hf _ z).2.1 rfl) ho, r⟩
  · refine (I.hok b u e).stay (fun c v hc q => k c v ?_ q) (fun _ q => q) fun _ _ q => q
    rcases hc with z | z
    · rw [z]; exact nit b u e
    · exact nit c _ z

/-! ## a list's or a tuple's own iterator, as a part of another one -/
def IsSub (k : Bool) (h : Heap) (it l : Addr) (i : Nat) : Prop := if k = true then h.IsListIter it l i else h.IsTupleIter it l i
def IsSeq (k : Bool) (h : Heap) (l : Addr) (its : Array Value) : Prop := if k = true then h.IsList l its else h.IsTuple l its
def subObj (k : Bool) (l : Addr) : Obj := { cls := .type (if k = true then "list_iterator" else "tuple_iterator"), data := .fields #[.ref l, .int 0 0] }
theorem IsSub.mk' {k : Bool} {h : Heap} {it l : Addr} (e : h.get? it = some (subObj k l)) : IsSub k h it l 0 := by
  cases k with
  | true => exact ⟨_, e, rfl, rfl⟩
  | false => exact ⟨_, e, rfl, rfl⟩
theorem IsSub.there {k : Bool} {h : Heap} {it l : Addr} {i : Nat} (x : IsSub k h it l i) : ∃ o, h.get? it = some o ∧ ∀ v, o.data ≠ .cell v := by
  cases k with
  | true => obtain ⟨o, e, _, d⟩ := (x : h.IsListIter it l i); exact ⟨o, e, fun v z => by rw [d] at z; cases z⟩
  | false => obtain ⟨o, e, _, d⟩ := (x : h.IsTupleIter it l i); exact ⟨o, e, fun v z => by rw [d] at z; cases z⟩
theorem IsSub.move {k : Bool} {h h' : Heap} {it l : Addr} {i : Nat} (x : IsSub k h it l i) (f : ∀ o, h.get? it = some o → h'.get? it = some o) : IsSub k h' it l i := by
  cases k with
  | true => obtain ⟨o, e, r⟩ := (x : h.IsListIter it l i); exact ⟨o, f o e, r⟩
  | false => obtain ⟨o, e, r⟩ := (x : h.IsTupleIter it l i); exact ⟨o, f o e, r⟩
theorem IsSeq.move {k : Bool} {h h' : Heap} {l : Addr} {its : Array Value} (x : IsSeq k h l its) (f : ∀ o, h.get? l = some o → h'.get? l = some o) : IsSeq k h' l its := by
  cases k with
  | true => obtain ⟨o, e, r⟩ := (x : h.IsList l its); exact ⟨o, f o e, r⟩
  | false => obtain ⟨o, e, r⟩ := (x : h.IsTuple l its); exact ⟨o, f o e, r⟩
section
variable {prog : Program} {w : World} {A : Around} {E : Value → Shared → Prop} {s : Shared}
theorem iter_sub {k : Bool} {l : Addr} {its : Array Value} {Q : Value → Shared → Prop} (hl : IsSeq k s.heap l its) (h : Q (.ref s.heap.objs.size) { s with heap := s.heap.push (subObj k l) }) : wpAny (model prog w) A (pyIter (.ref l)) Q E s := by
  cases k with
  | true => exact wpAny_pyIter_list hl h
  | false => exact wpAny_pyIter_tuple hl h
theorem next_sub {k : Bool} {it l : Addr} {i : Nat} {its : Array Value} {x : Value} {Q : Value → Shared → Prop} (hit : IsSub k s.heap it l i) (hl : IsSeq k s.heap l its) (hx : its[i]? = some x)
    (hQ : ∀ h', IsSub k h' it l (i + 1) → Heap.SameBut it s.heap h' → Q x { s with heap := h' }) : wpAny (model prog w) A (Builtin.SmallTypes.nextOf (.ref it)) Q E s := by
  cases k with
  | true => exact wpAny_nextOf_list_item hit hl hx hQ
  | false =>
    have hit' : s.heap.IsTupleIter it l i := hit
    obtain ⟨o, ho, hc, hd⟩ := id hit'
    obtain ⟨ol, hol, _, nl, hdl⟩ := (hl : s.heap.IsTuple l its)
    unfold Builtin.SmallTypes.nextOf
    refine wpAny_bind (wpAny_callSpecial?_slot (name := Str.ofString "__next__") hit'.typeIs F.slot_tuple_iterator_next (wpAny_call_entry F.slot_tuple_iterator_next hit'.typeIs F.entry_tuple_iterator_next ?_ (F.args_tuple_iterator_next_1 _)))
    show wpAny _ _ (field (.ref it) 0 >>= _) _ _ s
    refine wpAny_bind (wpAny_field ho hd (x := .ref l) rfl ?_)
    show wpAny _ _ (if (Value.ref l == Value.none) = true then _ else _) _ _ s
    rw [if_neg (show ¬ ((Value.ref l == Value.none) = true) from Bool.false_ne_true)]
    show wpAny _ _ (field (.ref it) 1 >>= _) _ _ s
    refine wpAny_bind (wpAny_field ho hd (x := .int i 0) rfl ?_)
    show wpAny _ _ (seqItems? (.ref l) >>= _) _ _ s
    refine wpAny_bind (wpAny_seqItems hol hdl ?_)
    simp only [Int.toNat_natCast, hx]
    refine wpAny_bind (wpAny_setField ho hd (by simp) (wpAny_pure ⟨x, rfl, wpAny_pure (hQ _ ?_ (Heap.SameBut.update ..))⟩))
    exact ⟨_, Heap.get?_update_self _ ho (Obj.isFreed_of_fields (Obj.data_mapFields hd _)), (Obj.cls_mapFields ..).trans hc, by rw [Obj.data_mapFields hd]; simp [rawInt]⟩
theorem end_sub {k : Bool} {it l : Addr} {i : Nat} {its : Array Value} {Q : Value → Shared → Prop} (hh : A.handled = none) (hit : IsSub k s.heap it l i) (hl : IsSeq k s.heap l its) (hx : its[i]? = none)
    (hE : ∀ h' e, Heap.ExtBut it s.heap h' → (∃ o, h'.get? e = some o ∧ o.cls = .type "StopIteration") → E (.ref e) { s with heap := h' }) : wpAny (model prog w) A (Builtin.SmallTypes.nextOf (.ref it)) Q E s := by
  cases k with
  | true => exact wpAny_nextOf_list_end hh hit hl hx hE
  | false =>
    have hit' : s.heap.IsTupleIter it l i := hit
    obtain ⟨o, ho, hc, hd⟩ := id hit'
    obtain ⟨ol, hol, _, nl, hdl⟩ := (hl : s.heap.IsTuple l its)
    unfold Builtin.SmallTypes.nextOf
    refine wpAny_bind (wpAny_callSpecial?_slot (name := Str.ofString "__next__") hit'.typeIs F.slot_tuple_iterator_next (wpAny_call_entry F.slot_tuple_iterator_next hit'.typeIs F.entry_tuple_iterator_next ?_ (F.args_tuple_iterator_next_1 _)))
    show wpAny _ _ (field (.ref it) 0 >>= _) _ _ s
    refine wpAny_bind (wpAny_field ho hd (x := .ref l) rfl ?_)
    show wpAny _ _ (if (Value.ref l == Value.none) = true then _ else _) _ _ s
    rw [if_neg (show ¬ ((Value.ref l == Value.none) = true) from Bool.false_ne_true)]
    show wpAny _ _ (field (.ref it) 1 >>= _) _ _ s
    refine wpAny_bind (wpAny_field ho hd (x := .int i 0) rfl ?_)
    show wpAny _ _ (seqItems? (.ref l) >>= _) _ _ s
    refine wpAny_bind (wpAny_seqItems hol hdl ?_)
    simp only [Int.toNat_natCast, hx]
    refine wpAny_bind (wpAny_rule (wpAny_bind (wpAny_setField ho hd (by simp) ?_)))
    show wpAny _ _ (newExc (.type "StopIteration") [] >>= _) _ _ _
    refine wpAny_bind ?_
    simp only [newExc, newTuple]
    refine wpAny_bind (wpAny_newObj_type ?_ (by size_fits))
    refine wpAny_bind (m := firstArgMember _ _) (wpAny_of_eq (a := Value.none) (by first | rfl | (simp only [firstArgMember]; rfl)) ?_)
    refine wpAny_newObj_type ?_ (by size_fits)
    simp only [raiseNew]
    refine wpAny_bind (wpAny_handled ?_)
    first | rw [show A.in1.handled = none from hh] | rw [hh]
    refine wpAny_bind (wpAny_pure (wpAny_throw ?_))
    exact hE _ _ (((Heap.SameBut.update ..).extBut.push _).push _) ⟨_, Heap.get?_push_size _ rfl, rfl⟩
end

/-! ## zip of two -/
structure ZipSt (k1 k2 : Bool) (z TI TO i1 i2 l1 l2 : Addr) (i : Nat) (h : Heap) : Prop where
  z : IsZip h z TI TO .none
  ti : IsPair h TI (.ref i1) (.ref i2)
  to : ∃ a b, IsPair h TO a b
  s1 : IsSub k1 h i1 l1 i
  s2 : IsSub k2 h i2 l2 i
structure Apart5 (z TI TO i1 i2 : Addr) : Prop where
  TIz : TI ≠ z
  TOz : TO ≠ z
  i1z : i1 ≠ z
  i2z : i2 ≠ z
  TITO : TI ≠ TO
  TIi1 : TI ≠ i1
  TIi2 : TI ≠ i2
  TOi1 : TO ≠ i1
  TOi2 : TO ≠ i2
  i12 : i1 ≠ i2
section
variable {prog : Program} {w : World} {A : Around} {E : Value → Shared → Prop} {s : Shared} {k1 k2 : Bool} {z TI TO i1 i2 l1 l2 : Addr} {i : Nat} {xs ys : Array Value}
/-- the lists themselves are none of the five -/
def Off (l z TO i1 i2 : Addr) : Prop := l ≠ z ∧ l ≠ TO ∧ l ≠ i1 ∧ l ≠ i2
theorem zip_item {x y : Value} {Q : Value → Shared → Prop} (D : Apart5 z TI TO i1 i2) (o1 : Off l1 z TO i1 i2) (o2 : Off l2 z TO i1 i2) (st : ZipSt k1 k2 z TI TO i1 i2 l1 l2 i s.heap) (hl1 : IsSeq k1 s.heap l1 xs) (hl2 : IsSeq k2 s.heap l2 ys) (hx : xs[i]? = some x) (hy : ys[i]? = some y)
    (hQ : ∀ h', IsZip h' z TI TO (rawInt s.heap.objs.size) → IsPair h' TO x y → IsSub k1 h' i1 l1 (i + 1) → IsSub k2 h' i2 l2 (i + 1) → IsPair h' s.heap.objs.size x y →
      (∀ c o, c ≠ z → c ≠ TO → c ≠ i1 → c ≠ i2 → s.heap.get? c = some o → h'.get? c = some o) → Q (.ref s.heap.objs.size) { s with heap := h' }) :
    wpAny (model prog w) A (Builtin.«zip.__next__» ⟨[.ref z], []⟩) (fun fin s' => ∃ v, fin = .done (.ret v) ∧ Q v s') E s := by
  obtain ⟨hz, hTI, ⟨a, b, hTO⟩, h1, h2⟩ := st
  show wpAny _ _ (field (.ref z) 2 >>= _) _ _ _
  refine wpAny_bind (wpAny_field hz rfl (x := .bool false) rfl ?_)
  show wpAny _ _ (field (.ref z) 3 >>= _) _ _ _
  refine wpAny_bind (wpAny_field hz rfl (x := .ref TI) rfl (wpAny_bind (wpAny_seqItems hTI rfl ?_)))
  show wpAny _ _ (Builtin.SmallTypes.ownedTupleIsFree (.ref z) >>= _) _ _ _
  refine wpAny_bind ?_
  unfold Builtin.SmallTypes.ownedTupleIsFree
  refine wpAny_bind (wpAny_field hz rfl (x := .none) rfl (wpAny_pure ?_))
  simp only [if_true]
  refine wpAny_bind (wpAny_rule (wpAny_bind (wpAny_field hz rfl (x := .ref TO) rfl (wpAny_bind (wpAny_setField_rec hz (by simp) fun ha hza hsa => ?_)))))
  replace hza : IsZip ha z TI TO .ellipsis := hza
  refine wpAny_bind ?_
  simp only [List.zipIdx_cons, List.zipIdx_nil, List.forIn_cons, List.forIn_nil]
  refine wpAny_bind (wpAny_bind (wpAny_onRaise ?_))
  show wpAny _ _ (Builtin.SmallTypes.nextOf (.ref i1) >>= _) _ _ _
  refine wpAny_bind (next_sub (h1.move fun o e => hsa.extBut _ _ D.i1z e) (hl1.move fun o e => hsa.extBut _ _ o1.1 e) hx fun hb h1b hsb => wpAny_pure ?_)
  have tob : IsPair hb TO a b := hsb.extBut _ _ D.TOi1 (hsa.extBut _ _ D.TOz hTO)
  refine wpAny_bind (wpAny_seqItems tob rfl (wpAny_bind (wpAny_updateSeq_pair tob fun hc toc hsc => wpAny_bind (wpAny_letGo (wpAny_pure ?_)))))
  replace toc : IsPair hc TO x b := toc
  refine wpAny_bind (wpAny_bind (wpAny_onRaise ?_))
  show wpAny _ _ (Builtin.SmallTypes.nextOf (.ref i2) >>= _) _ _ _
  have mv : ∀ c o, c ≠ z → c ≠ TO → c ≠ i1 → s.heap.get? c = some o → hc.get? c = some o := fun c o n1 n2 n3 e => hsc.extBut _ _ n2 (hsb.extBut _ _ n3 (hsa.extBut _ _ n1 e))
  refine wpAny_bind (next_sub (h2.move fun o e => mv _ o D.i2z D.TOi2.symm D.i12.symm e) (hl2.move fun o e => mv _ o o2.1 o2.2.1 o2.2.2.1 e) hy fun hd h2d hsd => wpAny_pure ?_)
  have tod : IsPair hd TO x b := hsd.extBut _ _ D.TOi2 toc
  refine wpAny_bind (wpAny_seqItems tod rfl (wpAny_bind (wpAny_updateSeq_pair tod fun he toe hse => wpAny_bind (wpAny_letGo (wpAny_pure (wpAny_pure ?_))))))
  replace toe : IsPair he TO x y := toe
  refine wpAny_bind (wpAny_seqItems toe rfl (wpAny_bind (wpAny_newTuple ?_)))
  have hsz : he.objs.size = s.heap.objs.size := by rw [hse.1, hsd.1, hsc.1, hsb.1, hsa.1]
  have ze : IsZip he z TI TO .ellipsis := hse.extBut _ _ D.TOz.symm (hsd.extBut _ _ D.i2z.symm (hsc.extBut _ _ D.TOz.symm (hsb.extBut _ _ D.i1z.symm hza)))
  have mve : ∀ c o, c ≠ z → c ≠ TO → c ≠ i1 → c ≠ i2 → s.heap.get? c = some o → he.get? c = some o := fun c o n1 n2 n3 n4 e => hse.extBut _ _ n2 (hsd.extBut _ _ n4 (mv c o n1 n2 n3 e))
  have s1e : IsSub k1 he i1 l1 (i + 1) := h1b.move fun o e => hse.extBut _ _ D.TOi1.symm (hsd.extBut _ _ D.i12 (hsc.extBut _ _ D.TOi1.symm e))
  have s2e : IsSub k2 he i2 l2 (i + 1) := h2d.move fun o e => hse.extBut _ _ D.TOi2.symm e
  have hzlt : z < he.objs.size := Heap.lt_size ze
  show wpAny _ _ (Builtin.SmallTypes.ownedTupleHandOut (.ref z) (.ref he.objs.size) >>= _) _ _ _
  refine wpAny_bind ?_
  unfold Builtin.SmallTypes.ownedTupleHandOut
  have zf : IsZip (he.push { cls := .type "tuple", data := .seq #[x, y] }) z TI TO .ellipsis := Heap.get?_push_of_some _ ze
  refine wpAny_bind (wpAny_setField_rec zf (by simp) fun hg' zg hsg => ?_)
  replace zg : IsZip hg' z TI TO (rawInt he.objs.size) := zg
  refine wpAny_setField_rec zg (by simp) fun hh' zh hsh => ?_
  replace zh : IsZip hh' z TI TO (rawInt he.objs.size) := zh
  have up : ∀ c o, c ≠ z → he.get? c = some o → hh'.get? c = some o := fun c o c1 e => hsh.extBut _ _ c1 (hsg.extBut _ _ c1 (Heap.get?_push_of_some _ e))
  have tT : IsPair hh' he.objs.size x y := hsh.extBut _ _ (Nat.ne_of_gt hzlt) (hsg.extBut _ _ (Nat.ne_of_gt hzlt) (Heap.get?_push_size _ rfl))
  rw [hsz] at zh tT
  refine wpAny_pure ⟨_, rfl, ?_⟩
  show Q (.ref he.objs.size) _
  rw [hsz]
  exact hQ hh' zh (up _ _ D.TOz toe) (s1e.move fun o e => up _ o D.i1z e) (s2e.move fun o e => up _ o D.i2z e) tT fun c o c1 c2 c3 c4 e => up c o c1 (mve c o c1 c2 c3 c4 e)
theorem zip_end {Q : Fin → Shared → Prop} (hh : A.handled = none) (D : Apart5 z TI TO i1 i2) (o1 : Off l1 z TO i1 i2) (o2 : Off l2 z TO i1 i2) (st : ZipSt k1 k2 z TI TO i1 i2 l1 l2 i s.heap) (hl1 : IsSeq k1 s.heap l1 xs) (hl2 : IsSeq k2 s.heap l2 ys) (hend : xs[i]? = none ∨ ys[i]? = none)
    (hE : ∀ h' e, (∀ c o, c ≠ z → c ≠ TO → c ≠ i1 → c ≠ i2 → s.heap.get? c = some o → h'.get? c = some o) → (∃ o, h'.get? e = some o ∧ o.cls = .type "StopIteration") → E (.ref e) { s with heap := h' }) :
    wpAny (model prog w) A (Builtin.«zip.__next__» ⟨[.ref z], []⟩) Q E s := by
  obtain ⟨hz, hTI, ⟨a, b, hTO⟩, h1, h2⟩ := st
  show wpAny _ _ (field (.ref z) 2 >>= _) _ _ _
  refine wpAny_bind (wpAny_field hz rfl (x := .bool false) rfl ?_)
  show wpAny _ _ (field (.ref z) 3 >>= _) _ _ _
  refine wpAny_bind (wpAny_field hz rfl (x := .ref TI) rfl (wpAny_bind (wpAny_seqItems hTI rfl ?_)))
  show wpAny _ _ (Builtin.SmallTypes.ownedTupleIsFree (.ref z) >>= _) _ _ _
  refine wpAny_bind ?_
  unfold Builtin.SmallTypes.ownedTupleIsFree
  refine wpAny_bind (wpAny_field hz rfl (x := .none) rfl (wpAny_pure ?_))
  simp only [if_true]
  refine wpAny_bind (wpAny_rule (wpAny_bind (wpAny_field hz rfl (x := .ref TO) rfl (wpAny_bind (wpAny_setField_rec hz (by simp) fun ha hza hsa => ?_)))))
  replace hza : IsZip ha z TI TO .ellipsis := hza
  refine wpAny_bind ?_
  simp only [List.zipIdx_cons, List.zipIdx_nil, List.forIn_cons, List.forIn_nil]
  refine wpAny_bind (wpAny_bind (wpAny_onRaise ?_))
  show wpAny _ _ (Builtin.SmallTypes.nextOf (.ref i1) >>= _) _ _ _
  cases hx : xs[i]? with
  | none =>
    refine wpAny_bind (end_sub hh (h1.move fun o e => hsa.extBut _ _ D.i1z e) (hl1.move fun o e => hsa.extBut _ _ o1.1 e) hx fun hb e hsb he => ?_)
    obtain ⟨oe, hoe, hce⟩ := he
    have hzb : IsZip hb z TI TO .ellipsis := hsb _ _ D.i1z.symm hza
    have hez : e ≠ z := fun q => by subst q; rw [hzb] at hoe; cases hoe; simp at hce
    exact wpAny_setField_rec hzb (by simp) fun hc _ hsc => hE hc e (fun c o c1 _ c3 _ q => hsc.extBut _ _ c1 (hsb _ _ c3 (hsa.extBut _ _ c1 q))) ⟨oe, hsc.extBut _ _ hez hoe, hce⟩
  | some x =>
    have hy : ys[i]? = none := by rcases hend with h | h; (rw [hx] at h; cases h); exact h
    refine wpAny_bind (next_sub (h1.move fun o e => hsa.extBut _ _ D.i1z e) (hl1.move fun o e => hsa.extBut _ _ o1.1 e) hx fun hb h1b hsb => wpAny_pure ?_)
    have tob : IsPair hb TO a b := hsb.extBut _ _ D.TOi1 (hsa.extBut _ _ D.TOz hTO)
    refine wpAny_bind (wpAny_seqItems tob rfl (wpAny_bind (wpAny_updateSeq_pair tob fun hc toc hsc => wpAny_bind (wpAny_letGo (wpAny_pure ?_)))))
    refine wpAny_bind (wpAny_bind (wpAny_onRaise ?_))
    show wpAny _ _ (Builtin.SmallTypes.nextOf (.ref i2) >>= _) _ _ _
    have mv : ∀ c o, c ≠ z → c ≠ TO → c ≠ i1 → s.heap.get? c = some o → hc.get? c = some o := fun c o n1 n2 n3 e => hsc.extBut _ _ n2 (hsb.extBut _ _ n3 (hsa.extBut _ _ n1 e))
    refine wpAny_bind (end_sub hh (h2.move fun o e => mv _ o D.i2z D.TOi2.symm D.i12.symm e) (hl2.move fun o e => mv _ o o2.1 o2.2.1 o2.2.2.1 e) hy fun hd e hsd he => ?_)
    obtain ⟨oe, hoe, hce⟩ := he
    have hzd : IsZip hd z TI TO .ellipsis := hsd _ _ D.i2z.symm (hsc.extBut _ _ D.TOz.symm (hsb.extBut _ _ D.i1z.symm hza))
    have hez : e ≠ z := fun q => by subst q; rw [hzd] at hoe; cases hoe; simp at hce
    exact wpAny_setField_rec hzd (by simp) fun hg' _ hsg => hE hg' e (fun c o c1 c2 c3 c4 q => hsg.extBut _ _ c1 (hsd _ _ c4 (mv c o c1 c2 c3 q))) ⟨oe, hsg.extBut _ _ hez hoe, hce⟩
theorem meets_zip2 (k1 k2 : Bool) (l1 l2 : Addr) (xs ys : Array Value) :
    Meets (Builtin.«zip.__new__» ⟨[.type "zip", .ref l1, .ref l2], []⟩) (fun _ R s => IsSeq k1 s.heap l1 xs ∧ IsSeq k2 s.heap l2 ys ∧
      R (.ok (.ret (.ref (s.heap.objs.size + 4)))) { s with heap := ((((s.heap.push (subObj k1 l1)).push (subObj k2 l2)).push { cls := .type "tuple", data := .seq #[.ref s.heap.objs.size, .ref (s.heap.objs.size + 1)] }).push { cls := .type "tuple", data := .seq #[.none, .none] }).push { cls := .type "zip", data := .fields #[.none, .bool false, .bool false, .ref (s.heap.objs.size + 2), .ref (s.heap.objs.size + 3)] } }) :=
  .of_wp fun prog w A R s h => by
    obtain ⟨hp, g, d, tk, os⟩ := s; obtain ⟨hl1, hl2, h⟩ := h
    have hsub := sub_zip
    have hL1 : IsSeq k1 (Shared.heap ⟨hp, g, d, tk, os⟩) l1 xs := hl1
    have hL2 : IsSeq k2 (Shared.heap ⟨hp.push (subObj k1 l1), g, d, tk, os⟩) l2 ys := hl2.move fun o e => Heap.get?_push_of_some _ e
    have z1 : ∀ (h : Heap) (o : Obj), (h.push o).objs.size = h.objs.size + 1 := fun h o => Heap.size_push ..
    simp only [z1] at h ⊢
    wp_walk using iter_sub hL1, iter_sub hL2
    exact ⟨_, rfl, by simp only [z1]; exact h⟩
theorem call_zip (hl1 : IsSeq k1 s.heap l1 xs) (hl2 : IsSeq k2 s.heap l2 ys) {Q : Value → Shared → Prop}
    (h : ∀ h', ZipSt k1 k2 (s.heap.objs.size + 4) (s.heap.objs.size + 2) (s.heap.objs.size + 3) s.heap.objs.size (s.heap.objs.size + 1) l1 l2 0 h' → (∀ c o, s.heap.get? c = some o → h'.get? c = some o) → Q (.ref (s.heap.objs.size + 4)) { s with heap := h' }) :
    wpAny (model prog w) A (call (.type "zip") [.ref l1, .ref l2]) Q E s := by
  refine callType_new F.called_zip (by decide) (F.typeCall_zip_2 _ _) (F.newCall_zip_2 _ _) (fun obj => F.args_object_init_3 obj _ _) F.entry_zip_new (meets_zip2 k1 k2 l1 l2 xs ys) ⟨hl1, hl2, ?_⟩
  have z1 : ∀ (h : Heap) (o : Obj), (h.push o).objs.size = h.objs.size + 1 := fun h o => Heap.size_push ..
  have pg : ∀ (h : Heap) (o : Obj) (n : Nat), o.isFreed = false → h.objs.size = n → (h.push o).get? n = some o := fun h o n hf e => by subst e; exact Heap.get?_push_size _ hf
  have up : ∀ (h : Heap) (o u : Obj) (n : Nat), h.get? n = some u → (h.push o).get? n = some u := fun h o u n e => Heap.get?_push_of_some _ e
  refine ⟨⟨_, pg _ _ _ rfl (by simp only [z1]), rfl⟩, h _ ⟨pg _ _ _ rfl (by simp only [z1]), up _ _ _ _ (up _ _ _ _ (pg _ _ _ rfl (by simp only [z1]))), ⟨.none, .none, up _ _ _ _ (pg _ _ _ rfl (by simp only [z1]))⟩, ?_, ?_⟩ fun c o e => up _ _ _ _ (up _ _ _ _ (up _ _ _ _ (up _ _ _ _ (up _ _ _ _ e))))⟩
  · exact IsSub.mk' (up _ _ _ _ (up _ _ _ _ (up _ _ _ _ (up _ _ _ _ (pg _ _ _ rfl rfl)))))
  · exact IsSub.mk' (up _ _ _ _ (up _ _ _ _ (up _ _ _ _ (pg _ _ _ rfl (by simp only [z1])))))
end
theorem apart_new (n : Nat) : Apart5 (n + 4) (n + 2) (n + 3) n (n + 1) := by
  constructor <;> (show (_ : Nat) ≠ _; omega)

/-! ### as a walk -/
def SqK (k : Bool) (K : PySem.W.Frag) (H : Hp) (a : Addr) (xs : List V) : Prop := if k = true then SqL K H a xs else SqT K H a xs
def Itz (K : PySem.W.Frag) (k1 k2 : Bool) (l1 l2 : Addr) : It :=
  ⟨fun i H => ∃ xs ys x y, SqK k1 K H l1 xs ∧ SqK k2 K H l2 ys ∧ xs[i]? = some x ∧ ys[i]? = some y,
   fun i H v H' => ∃ p x y, H p = none ∧ v = .ref p ∧ H' = upd H p (.tup [x, y]) ∧ (∀ xs, SqK k1 K H l1 xs → xs[i]? = some x) ∧ ∀ ys, SqK k2 K H l2 ys → ys[i]? = some y,
   fun i H => ∃ xs ys, SqK k1 K H l1 xs ∧ SqK k2 K H l2 ys ∧ (xs.length ≤ i ∨ ys.length ≤ i)⟩
section
variable {X : Cx} {pins : List (Addr × Obj)} {σ : St} {H : Hp} {s : Shared}
theorem _root_.L2.Inv.seqK (I : Inv X pins σ H s) {k : Bool} {a : Addr} {xs : List V} (h : SqK k X.K H a xs) : ∃ its : List Value, Vals xs its ∧ IsSeq k s.heap a its.toArray ∧ xs.length ≤ sizeLine := by
  cases k with
  | true => obtain ⟨its, r, p, z⟩ := I.list h; exact ⟨its, r, p.isList, z⟩
  | false => obtain ⟨its, r, p, z⟩ := I.tuple h; exact ⟨its, r, p, z⟩
theorem _root_.L2.Inv.seqK_inj (I : Inv X pins σ H s) {k : Bool} {a : Addr} {xs ys : List V} (h : SqK k X.K H a xs) (h' : SqK k X.K H a ys) : xs = ys := by
  cases k with
  | true => exact I.list_inj h h'
  | false => exact I.tuple_inj h h'
/-- what is read is none of an iterator's records -/
theorem off_rec (I : Inv X pins σ H s) {k : Bool} {l b : Addr} {xs : List V} (h : SqK k X.K H l xs) (hb : FpOk X pins H b) : l ≠ b := by
  rintro rfl
  have kk : ∀ o, X.K.lookup l = some o → False := fun o e => by
    have e1 := I.mod.kin l o e
    rcases hb.2.2.2.1 with z | z
    · exact I.ok.noex l o e1 z
    · exact absurd (Nat.lt_of_lt_of_le (Heap.lt_size e1) (Nat.le_trans I.ok.bsz z)) (Nat.lt_irrefl _)
  cases k with
  | true =>
    rcases (h : SqL X.K H l xs) with (h | ⟨o, h⟩) | ⟨o, its, n, h, _⟩
    · rw [hb.1] at h; cases h
    · rw [hb.1] at h; cases h
    · exact kk o h
  | false =>
    rcases (h : SqT X.K H l xs) with (h | ⟨o, h⟩) | ⟨o, its, n, h, _⟩
    · rw [hb.1] at h; cases h
    · rw [hb.1] at h; cases h
    · exact kk o h
end
theorem turn_zip {P : Program} {w : World} {K : PySem.W.Frag} {elts : List Expr} {kt : Nat} {pt : Pos} {k1 k2 : Bool} {z TI TO i1 i2 l1 l2 : Addr} (D : Apart5 z TI TO i1 i2) :
    Turn P w K (.Tuple elts kt pt) (Itz K k1 k2 l1 l2) [z, TI, TO, i1, i2] z (fun i h => ZipSt k1 k2 z TI TO i1 i2 l1 l2 i h) where
  mem := by simp
  obj := fun i h st b hb => by
    obtain ⟨hz, hTI, ⟨a, b', hTO⟩, h1, h2⟩ := st
    have hb' : b = z ∨ b = TI ∨ b = TO ∨ b = i1 ∨ b = i2 := by simpa using hb
    rcases hb' with rfl | rfl | rfl | rfl | rfl
    · exact ⟨_, hz, fun v q => by cases q⟩
    · exact ⟨_, hTI, fun v q => by cases q⟩
    · exact ⟨_, hTO, fun v q => by cases q⟩
    · exact h1.there
    · exact h2.there
  keep := fun i h h' st k => by
    obtain ⟨hz, hTI, ⟨a, b', hTO⟩, h1, h2⟩ := st
    exact ⟨k z (by simp) _ hz, k TI (by simp) _ hTI, ⟨a, b', k TO (by simp) _ hTO⟩, h1.move fun o e => k i1 (by simp) o e, h2.move fun o e => k i2 (by simp) o e⟩
  item := by
    intro X hP hw hK hc i pins s σ H E I hf st hg
    subst hP hw hK
    obtain ⟨xs, ys, x, y, q1, q2, hx, hy⟩ := hg
    obtain ⟨its, r1, p1, _⟩ := I.seqK q1
    obtain ⟨its2, r2, p2, _⟩ := I.seqK q2
    obtain ⟨u, hu, ru⟩ := r1.get hx
    obtain ⟨v, hv, rv⟩ := r2.get hy
    have off : ∀ {k : Bool} {l : Addr} {xs : List V}, SqK k X.K H l xs → Off l z TO i1 i2 := fun q => ⟨off_rec I q (hf z (by simp)), off_rec I q (hf TO (by simp)), off_rec I q (hf i1 (by simp)), off_rec I q (hf i2 (by simp))⟩
    have hT : s.TypeIs (.ref z) "zip" := ⟨_, st.z, rfl⟩
    unfold pyNext
    refine wpAny_bind (wpAny_attempt (wpAny_callSpecial?_slot (name := Str.ofString "__next__") hT F.slot_zip_next (wpAny_call_entry F.slot_zip_next hT F.entry_zip_next
      (zip_item D (off q1) (off q2) st p1 p2 (x := u) (y := v) (by simpa using hu) (by simpa using hv) fun h' a1 a2 a3 a4 a5 a6 => wpAny_pure ⟨_, rfl, ?_⟩) (F.args_zip_next_1 _))))
    refine wpAny_letOwnedTupleGo_zip a1 fun h2 z2 sb2 => ?_
    have hpn : H s.heap.objs.size = none := I.hok.fresh (Nat.le_refl _)
    have I0 : Inv X pins σ (upd H s.heap.objs.size (.tup [x, y])) { s with heap := s.heap.push { cls := .type "tuple", data := .seq #[u, v] } } :=
      I.laid (t' := s.toks) (o := .tup [x, y]) (fun b o e => Heap.get?_push_of_some _ e) (Nat.le_refl _) ⟨by show 2 ≤ sizeLine; decide, [u, v], .cons ru (.cons rv .nil), ⟨_, Heap.get?_push_size _ rfl, rfl, _, rfl⟩⟩
    have lt : ∀ b ∈ [z, TI, TO, i1, i2], b < s.heap.objs.size := fun b hb => by
      have : ∃ o, s.heap.get? b = some o := by
        obtain ⟨hz, hTI, ⟨a, b', hTO⟩, g1, g2⟩ := st
        have hb' : b = z ∨ b = TI ∨ b = TO ∨ b = i1 ∨ b = i2 := by simpa using hb
        rcases hb' with rfl | rfl | rfl | rfl | rfl
        · exact ⟨_, hz⟩
        · exact ⟨_, hTI⟩
        · exact ⟨_, hTO⟩
        · obtain ⟨o, e, _⟩ := g1.there; exact ⟨o, e⟩
        · obtain ⟨o, e, _⟩ := g2.there; exact ⟨o, e⟩
      obtain ⟨o, e⟩ := this
      exact Heap.lt_size e
    have fr : ∀ b ∈ [z, TI, TO, i1, i2], upd H s.heap.objs.size (.tup [x, y]) b = none := fun b hb => by rw [upd_ne (Nat.ne_of_lt (lt b hb))]; exact (hf b hb).1
    have zne : s.heap.objs.size ≠ z := Nat.ne_of_gt (lt z (by simp))
    have mv : ∀ b o, b ∉ [z, TI, TO, i1, i2] → (s.heap.push { cls := .type "tuple", data := .seq #[u, v] }).get? b = some o → h2.get? b = some o := fun b o hb e => by
      simp only [List.mem_cons, List.not_mem_nil, or_false, not_or] at hb
      refine sb2.extBut _ _ hb.1 ?_
      by_cases hbs : b = s.heap.objs.size
      · subst hbs
        rw [Heap.get?_push_size _ rfl] at e
        cases e
        exact a5
      · rw [Heap.get?_push_ne _ _ _ hbs] at e
        exact a6 b o hb.1 hb.2.2.1 hb.2.2.2.1 hb.2.2.2.2 e
    have I2 := I0.turnedL (h' := h2) (t' := s.toks) mv fun b hb => let ⟨_, c2, c3, c4, c5, c6⟩ := hf b hb; ⟨fr b hb, c2, c3, c4, c5, c6⟩
    refine ⟨.ref s.heap.objs.size, _, I2, rfl, ⟨s.heap.objs.size, x, y, hpn, rfl, rfl, fun zs hz => ?_, fun zs hz => ?_⟩, ⟨z2, ?_, ⟨u, v, ?_⟩, ?_, ?_⟩, fr⟩
    · rw [I.seqK_inj hz q1]; exact hx
    · rw [I.seqK_inj hz q2]; exact hy
    · exact sb2.extBut _ _ D.TIz (a6 TI _ D.TIz D.TITO D.TIi1 D.TIi2 st.ti)
    · exact sb2.extBut _ _ D.TOz a2
    · exact a3.move fun o e => sb2.extBut _ _ D.i1z e
    · exact a4.move fun o e => sb2.extBut _ _ D.i2z e
  done := by
    intro X hP hw hK hc i pins s σ H E I hf st hg
    subst hP hw hK
    obtain ⟨xs, ys, q1, q2, hx⟩ := hg
    obtain ⟨its, r1, p1, _⟩ := I.seqK q1
    obtain ⟨its2, r2, p2, _⟩ := I.seqK q2
    have off : ∀ {k : Bool} {l : Addr} {xs : List V}, SqK k X.K H l xs → Off l z TO i1 i2 := fun q => ⟨off_rec I q (hf z (by simp)), off_rec I q (hf TO (by simp)), off_rec I q (hf i1 (by simp)), off_rec I q (hf i2 (by simp))⟩
    have hT : s.TypeIs (.ref z) "zip" := ⟨_, st.z, rfl⟩
    have e1 := r1.length
    have e2 := r2.length
    unfold pyNext
    refine wpAny_bind (wpAny_attempt (wpAny_callSpecial?_slot (name := Str.ofString "__next__") hT F.slot_zip_next (wpAny_call_entry F.slot_zip_next hT F.entry_zip_next
      (zip_end (I.ok.hd hc) D (off q1) (off q2) st p1 p2 (by rcases hx with h | h; (exact .inl (by simp; omega)); exact .inr (by simp; omega)) fun h' e hk he => ?_) (F.args_zip_next_1 _))))
    obtain ⟨o, ho, hcl⟩ := he
    refine wpAny_bind (wpAny_isInstance (T := "StopIteration") (b := true) ⟨o, ho, hcl⟩ isSubtype_stop (wpAny_pure ⟨rfl, ?_⟩))
    refine I.turnedL (h' := h') (t' := s.toks) (fun b o hb e => ?_) hf
    simp only [List.mem_cons, List.not_mem_nil, or_false, not_or] at hb
    exact hk b o hb.1 hb.2.2.1 hb.2.2.2.1 hb.2.2.2.2 e
  self := fun _ _ _ _ _ st h => wpAny_pyIter_zip st.z h
end M
end L2

namespace L2
namespace M
open PySem PySem.Spec PyProof.Rows

/-! ## what zip and enumerate walk -/
structure Sr where
  k : Bool
  ds : List MV
  gs : List (Nat × List MV)
def srcOf (S : Sto) : Er → Option Sr
  | .val (.tup ds) => some ⟨false, ds, []⟩
  | .new ds => some ⟨true, ds, []⟩
  | .val (.scr ds) => some ⟨true, ds, []⟩
  | .val (.loc l) => match S[l]? with
    | some (.lst ds) => some ⟨true, ds, [(l, ds)]⟩
    | _ => none
  | _ => none
structure SrcD (X : Cx) (q : Sr) (l : Addr) (P : List Addr → Sto → Hp → Prop) : Prop where
  get : ∀ α S H, P α S H → ∃ vs, SqK q.k X.K H l vs ∧ DenL X.K α H q.ds vs
  stays : ∀ α1 S1 H1 α2 S2 H2, P α1 S1 H1 → Ext α1 H1 α2 H2 → Wd X.g α2 S2 H2 → stay q.gs S2 → P α2 S2 H2
  st : ∀ α S H, P α S H → stay q.gs S
theorem src_ok {X : Cx} {α : List Addr} {S : Sto} {H : Hp} (wd : Wd X.g α S H) {r : Er} {x : V} {q : Sr} (e : srcOf S r = some q) (d : DenX X.K α H r x) : ∃ l P, x = .ref l ∧ P α S H ∧ SrcD X q l P := by
  unfold srcOf at e
  split at e
  · rename_i ds
    cases e
    obtain ⟨a, vs, rfl, s, l⟩ := xe_tup d
    exact ⟨a, fun α S H => ∃ vs, SqT X.K H a vs ∧ DenL X.K α H ds vs, rfl, ⟨vs, s, l⟩, fun α S H h => h, fun α1 S1 H1 α2 S2 H2 ⟨vs, h1, h2⟩ x w _ => ⟨vs, x.sqT h1, h2.ext x⟩, fun _ _ _ _ => stay_nil⟩
  · rename_i ds
    cases e
    obtain ⟨b, vs, rfl, h, n, l⟩ := d
    exact ⟨b, fun α S H => ∃ vs, H b = some (.lst vs) ∧ b ∉ α ∧ DenL X.K α H ds vs, rfl, ⟨vs, h, n, l⟩, fun α S H ⟨vs, h1, _, h2⟩ => ⟨vs, (SqL.of h1 : SqL X.K H b vs), h2⟩,
      fun α1 S1 H1 α2 S2 H2 ⟨vs, h1, h2, h3⟩ x w _ => ⟨vs, x.keep b _ h1 h2, x.out h1 h2, h3.ext x⟩, fun _ _ _ _ => stay_nil⟩
  · rename_i ds
    cases e
    obtain ⟨a, vs, rfl, s, l⟩ := xe_scr d
    exact ⟨a, fun α S H => ∃ vs, SqF X.K H a vs ∧ DenL X.K α H ds vs, rfl, ⟨vs, s, l⟩, fun α S H ⟨vs, h1, h2⟩ => ⟨vs, h1.l, h2⟩, fun α1 S1 H1 α2 S2 H2 ⟨vs, h1, h2⟩ x w _ => ⟨vs, x.sqF h1, h2.ext x⟩, fun _ _ _ _ => stay_nil⟩
  · rename_i n
    split at e
    · rename_i ds hS
      cases e
      obtain ⟨a, rfl, h⟩ := xe_loc d
      obtain ⟨vs, h1, h2⟩ := wd.obj n a _ h hS
      refine ⟨a, fun α S H => ∃ vs, H a = some (.lst vs) ∧ DenL X.K α H ds vs ∧ α[n]? = some a ∧ S[n]? = some (.lst ds), rfl, ⟨vs, h1, h2, h, hS⟩, fun α S H ⟨vs, h1, h2, _⟩ => ⟨vs, (SqL.of h1 : SqL X.K H a vs), h2⟩, ?_, ?_⟩
      · intro α1 S1 H1 α2 S2 H2 ⟨vs, a1, a2, a3, a4⟩ x w hs
        have hs' := hs (n, ds) (by simp)
        obtain ⟨us, b1, b2⟩ := w.obj n a _ (x.at a3) hs'
        exact ⟨us, b1, b2, x.at a3, hs'⟩
      · intro α S H ⟨vs, _, _, _, a4⟩ p hp
        have : p = (n, ds) := by simpa using hp
        subst this
        exact a4
    · cases e
  · cases e
def iZip (K : PySem.W.Frag) (ta : TA) : TI := fun σ H R => ta σ H fun vs H1 => ∃ k1 k2 l1 l2, vs = [.ref l1, .ref l2] ∧ (∃ xs, SqK k1 K H1 l1 xs) ∧ (∃ ys, SqK k2 K H1 l2 ys) ∧ R (Itz K k1 k2 l1 l2) H1
section
variable {X : Cx} {W : XW} {a b : Expr} {elts : List Expr} {kt : Nat} {pt p pos : Pos} {ta : TA} {af : Rho → Sto → R (List Er)}
theorem bt_zip : bootBuiltins "zip" = some (.type "zip") := by decide +kernel
theorem bt_enum : bootBuiltins "enumerate" = some (.type "enumerate") := by decide +kernel
theorem pi_zip (hg : Gl X "zip") (hm : X.mg "zip" = none) (ha : PA X [a, b] ta) (hs : starEach [a, b] X.env = [(false, eval a X.env), (false, eval b X.env)] := by rfl) (hs2 : starEach [b] X.env = [(false, eval b X.env)] := by rfl) :
    PI X (.Tuple elts kt pt) (.Call (.Name "zip" p) [a, b] [] pos) (iZip X.K ta) := by
  intro pins s σ H R I h
  refine Call_ (ld_blt I hg hm bt_zip (PyProof.Rows.callWith_type1 (thn (ha pos pins s σ H _ I h) fun us s1 ⟨vs, H1, I1, r1, q1⟩ => ?_) (by rw [hs, hs2]) (by rw [hs2]; rfl)))
  obtain ⟨k1, k2, l1, l2, rfl, ⟨xs, c1⟩, ⟨ys, c2⟩, q⟩ := q1
  cases r1 with
  | cons r rr =>
    cases rr with
    | cons r' rr =>
      cases rr
      cases r
      cases r'
      obtain ⟨its, v1, p1, _⟩ := I1.seqK c1
      obtain ⟨its2, v2, p2, _⟩ := I1.seqK c2
      refine call_zip p1 p2 fun h' st hk => wpAny_pyIter_zip st.z ?_
      have I2 : Inv X pins σ H1 { s1 with heap := h' } := I1.kept (t' := s1.toks) hk
      refine ⟨_, _, _, _, H1, rfl, I2, turn_zip (apart_new _), st, fun b hb => ?_, q⟩
      have hle : s1.heap.objs.size ≤ b := by
        have hb' : b = s1.heap.objs.size + 4 ∨ b = s1.heap.objs.size + 2 ∨ b = s1.heap.objs.size + 3 ∨ b = s1.heap.objs.size ∨ b = s1.heap.objs.size + 1 := by simpa using hb
        rcases hb' with h | h | h | h | h <;> rw [h] <;> (first | exact Nat.le_refl _ | exact Nat.le_add_right _ _)
      exact I1.fpOk hle (I1.hok.fresh hle)
def pairs (xs ys : List MV) : List MV := List.zipWith (fun x y => .tup [x, y]) xs ys
def itZ (rs : List Er) (S : Sto) : R Wk := match rs with
  | [p, q] => match srcOf S p with
    | some a => match srcOf S q with
      | some b => .ok ⟨pairs a.ds b.ds, a.gs ++ b.gs⟩ S
      | none => .no
    | none => .no
  | _ => .no
theorem im_zip (hg : Gl X "zip") (hm : X.mg "zip" = none) (ha : PAm X W [a, b] af) (hs : starEach [a, b] X.env = [(false, eval a X.env), (false, eval b X.env)] := by rfl) (hs2 : starEach [b] X.env = [(false, eval b X.env)] := by rfl) :
    PIm X W (.Tuple elts kt pt) (.Call (.Name "zip" p) [a, b] [] pos) (fun ρ S => (af ρ S).bind itZ) := by
  obtain ⟨t, ha, k⟩ := ha
  refine ⟨_, pi_zip hg hm ha hs hs2, fun α ρ S σ H Rc wd sl q => k α ρ S σ H _ wd sl (q.bind fun vs rs S1 α1 H1 e x1 w1 d1 q1 => ?_)⟩
  replace q1 := q1.shift x1
  unfold itZ at q1
  split at q1
  · rename_i r1 r2
    split at q1
    · rename_i s1 e1
      split at q1
      · rename_i s2 e2
        obtain ⟨u, v, rfl, du, dv⟩ := args2 d1
        obtain ⟨l1, P1, rfl, p1, D1⟩ := src_ok w1 e1 du
        obtain ⟨l2, P2, rfl, p2, D2⟩ := src_ok w1 e2 dv
        have g1 := D1.get _ _ _ p1
        have g2 := D2.get _ _ _ p2
        refine ⟨s1.k, s2.k, l1, l2, rfl, ⟨_, g1.choose_spec.1⟩, ⟨_, g2.choose_spec.1⟩, q1.here (u := Itz X.K s1.k s2.k l1 l2) w1 ⟨fun α S H => P1 α S H ∧ P2 α S H, ?_, ⟨p1, p2⟩, ?_, ?_⟩⟩
        · intro i α2 S2 H2 ⟨b1, b2⟩ w2
          obtain ⟨us, c1, c2⟩ := D1.get _ _ _ b1
          obtain ⟨ws, c3, c4⟩ := D2.get _ _ _ b2
          have hl : (pairs s1.ds s2.ds).length = min us.length ws.length := by unfold pairs; rw [List.length_zipWith, c2.length, c4.length]
          refine ⟨fun hi => ?_, fun hi => ?_⟩
          · have hi : i < (pairs s1.ds s2.ds).length := hi
            have h1 : i < us.length := by omega
            have h2 : i < ws.length := by omega
            refine ⟨⟨us, ws, us[i], ws[i], c1, c3, List.getElem?_eq_getElem h1, List.getElem?_eq_getElem h2⟩, ?_⟩
            rintro x H' ⟨pp, xx, yy, hp, rfl, rfl, hx, hy⟩
            obtain ⟨d, hd, dd⟩ := c2.get (hx us c1)
            obtain ⟨f, hf, df⟩ := c4.get (hy ws c3)
            have xn := w2.newx (o := .tup [xx, yy]) hp
            have wn := w2.new (o := .tup [xx, yy]) hp
            refine ⟨xn, wn, ⟨D1.stays _ _ _ _ _ _ b1 xn wn (D1.st _ _ _ b1), D2.stays _ _ _ _ _ _ b2 xn wn (D2.st _ _ _ b2)⟩, .tup [d, f], ?_, ?_⟩
            · unfold pairs; rw [List.getElem?_zipWith, hd, hf]
            · exact den_tup (.of upd_same) (denl_cons (dd.ext xn) (denl_cons (df.ext xn) denl_nil))
          · have hi : (pairs s1.ds s2.ds).length ≤ i := hi
            refine ⟨us, ws, c1, c3, ?_⟩
            by_cases h1 : us.length ≤ i
            · exact .inl h1
            · exact .inr (by omega)
        · intro α1 S1 H1 α2 S2 H2 ⟨b1, b2⟩ x w hs
          exact ⟨D1.stays _ _ _ _ _ _ b1 x w fun p hp => hs p (List.mem_append_left _ hp), D2.stays _ _ _ _ _ _ b2 x w fun p hp => hs p (List.mem_append_right _ hp)⟩
        · intro p hp
          rcases List.mem_append.mp hp with h | h
          · exact D1.st _ _ _ p1 p h
          · exact D2.st _ _ _ p2 p h
      · exact q1.elim
    · exact q1.elim
  · exact q1.elim
end

/-! ## enumerate -/
structure EnSt (k : Bool) (e it l : Addr) (i : Nat) (h : Heap) : Prop where
  e : ∃ old, IsEnum h e it i old
  s : IsSub k h it l i
section
variable {prog : Program} {w : World} {A : Around} {E : Value → Shared → Prop} {s : Shared} {k : Bool} {e it l : Addr} {i : Nat} {its : Array Value}
theorem en_item {x old : Value} {Q : Value → Shared → Prop} (he : IsEnum s.heap e it i old) (hit : IsSub k s.heap it l i) (hl : IsSeq k s.heap l its) (hx : its[i]? = some x) (hne : e ≠ it)
    (hQ : ∀ h', IsEnumOut h' e it ((i : Int) + 1) x s.heap.objs.size → IsSub k h' it l (i + 1) → h'.get? s.heap.objs.size = some { cls := .type "tuple", data := .seq #[.int i s.toks, x] } →
      (∀ b o, b ≠ e → b ≠ it → s.heap.get? b = some o → h'.get? b = some o) → Q (.ref s.heap.objs.size) { s with heap := h', toks := s.toks + 1 }) :
    wpAny (model prog w) A (Builtin.«enumerate.__next__» ⟨[.ref e], []⟩) (fun fin s' => ∃ v, fin = .done (.ret v) ∧ Q v s') E s := by
  obtain ⟨hp, g, d, tk, os⟩ := s
  show wpAny _ _ (field (.ref e) 2 >>= _) _ _ _
  refine wpAny_bind (wpAny_field he rfl (x := .ref it) rfl (wpAny_bind (next_sub hit hl hx fun ha ita hsa => ?_)))
  replace hsa : Heap.SameBut it hp ha := hsa
  have ea : IsEnum ha e it i old := (hsa.2 e hne).trans he
  show wpAny _ _ (field (.ref e) 3 >>= _) _ _ ⟨ha, g, d, tk, os⟩
  refine wpAny_bind (wpAny_field ea rfl (x := rawInt i) rfl ?_)
  show wpAny _ _ (field (.ref e) 4 >>= _) _ _ ⟨ha, g, d, tk, os⟩
  refine wpAny_bind (wpAny_field ea rfl (x := .none) rfl ?_)
  show wpAny _ _ (mkInt i >>= _) _ _ ⟨ha, g, d, tk, os⟩
  refine wpAny_bind (wpAny_mkInt ?_)
  show wpAny _ _ (setField (.ref e) 3 (rawInt ((i : Int) + 1)) >>= _) _ _ ⟨ha, g, d, tk + 1, os⟩
  refine wpAny_bind (wpAny_setField_rec ea (by simp) fun hb eb hsb => ?_)
  replace hsb : Heap.SameBut e ha hb := hsb
  replace eb : IsEnum hb e it ((i : Int) + 1) old := eb
  show wpAny _ _ (setField (.ref e) 4 .none >>= _) _ _ ⟨hb, g, d, tk + 1, os⟩
  refine wpAny_bind (wpAny_setField_rec eb (by simp) fun hc ec hsc => ?_)
  replace hsc : Heap.SameBut e hb hc := hsc
  replace ec : IsEnum hc e it ((i : Int) + 1) old := ec
  show wpAny _ _ (newTuple [.int i tk, x] >>= _) _ _ ⟨hc, g, d, tk + 1, os⟩
  refine wpAny_bind (wpAny_newTuple ?_)
  have hsz : hc.objs.size = hp.objs.size := by rw [hsc.1, hsb.1, hsa.1]
  have hel : e < hp.objs.size := Heap.lt_size he
  have ed : IsEnum (hc.push { cls := .type "tuple", data := .seq #[.int i tk, x] }) e it ((i : Int) + 1) old := Heap.get?_push_of_some _ ec
  have td : (hc.push { cls := .type "tuple", data := .seq #[.int i tk, x] }).get? hp.objs.size = some { cls := .type "tuple", data := .seq #[.int i tk, x] } := by rw [← hsz]; exact Heap.get?_push_size _ rfl
  have kd : ∀ b o, b ≠ e → b ≠ it → hp.get? b = some o → (hc.push { cls := .type "tuple", data := .seq #[.int i tk, x] }).get? b = some o := fun b o n1 n2 q =>
    Heap.get?_push_of_some _ (hsc.extBut b o n1 (hsb.extBut b o n1 (hsa.extBut b o n2 q)))
  have sd : IsSub k (hc.push { cls := .type "tuple", data := .seq #[.int i tk, x] }) it l (i + 1) := ita.move fun o q => Heap.get?_push_of_some _ (hsc.extBut _ o (Ne.symm hne) (hsb.extBut _ o (Ne.symm hne) q))
  generalize hc.push { cls := .type "tuple", data := .seq #[.int i tk, x] } = hd at ed td kd sd ⊢
  show wpAny _ _ (Builtin.SmallTypes.ownedTupleIsFree (.ref e) >>= _) _ _ ⟨hd, g, d, tk + 1, os⟩
  rw [hsz]
  refine wpAny_bind ?_
  unfold Builtin.SmallTypes.ownedTupleIsFree
  refine wpAny_bind (wpAny_field ed rfl (x := .none) rfl (wpAny_pure ?_))
  simp only [if_true]
  refine wpAny_bind (wpAny_rule (wpAny_bind (wpAny_field ed rfl (x := old) rfl (wpAny_bind (wpAny_setField_rec ed (by simp) fun hf ef hsf => ?_)))))
  replace hsf : Heap.SameBut e hd hf := hsf
  replace ef : IsEnum hf e it ((i : Int) + 1) x := ef
  show wpAny _ _ (Builtin.SmallTypes.ownedTupleHandOut (.ref e) (.ref hp.objs.size) >>= _) _ _ ⟨hf, g, d, tk + 1, os⟩
  refine wpAny_bind ?_
  unfold Builtin.SmallTypes.ownedTupleHandOut
  refine wpAny_bind (wpAny_setField_rec ef (by simp) fun hg' eg hsg => ?_)
  replace hsg : Heap.SameBut e hf hg' := hsg
  replace eg : IsEnumOut hg' e it ((i : Int) + 1) x hp.objs.size := eg
  refine wpAny_setField_rec eg (by simp) fun hh' eh hsh => ?_
  replace hsh : Heap.SameBut e hg' hh' := hsh
  replace eh : IsEnumOut hh' e it ((i : Int) + 1) x hp.objs.size := eh
  have up : ∀ b o, b ≠ e → hd.get? b = some o → hh'.get? b = some o := fun b o n q => hsh.extBut b o n (hsg.extBut b o n (hsf.extBut b o n q))
  exact wpAny_bind (wpAny_letGo (wpAny_pure ⟨_, rfl, hQ hh' eh (sd.move fun o q => up _ o (Ne.symm hne) q) (up _ _ (Nat.ne_of_gt hel) td) fun b o n1 n2 q => up b o n1 (kd b o n1 n2 q)⟩))
theorem meets_enum (k : Bool) (l : Addr) (its : Array Value) :
    Meets (Builtin.«enumerate.__new__» ⟨[.type "enumerate", .ref l], []⟩) (fun _ R s => IsSeq k s.heap l its ∧
      R (.ok (.ret (.ref (s.heap.objs.size + 1)))) { s with heap := (s.heap.push (subObj k l)).push { cls := .type "enumerate", data := .fields #[.none, .bool false, .ref s.heap.objs.size, rawInt 0, .none, .none] } }) :=
  .of_wp fun prog w A R s h => by
    obtain ⟨hp, g, d, tk, os⟩ := s; obtain ⟨hl, h⟩ := h
    have hsub := sub_enumerate
    have hL : IsSeq k (Shared.heap ⟨hp, g, d, tk, os⟩) l its := hl
    have z1 : ∀ (h : Heap) (o : Obj), (h.push o).objs.size = h.objs.size + 1 := fun h o => Heap.size_push ..
    wp_walk
    refine wpAny_stack_any fun st => wpAny_pure ?_
    split
    · rename_i c _ _ _ _ _
      cases (c == Value.type "enumerate")
      · wp_walk using iter_sub hL
        exact ⟨_, rfl, by simp only [z1]; exact h⟩
      · wp_walk using iter_sub hL
        exact ⟨_, rfl, by simp only [z1]; exact h⟩
    · wp_walk using iter_sub hL
      exact ⟨_, rfl, by simp only [z1]; exact h⟩
end
end M
end L2

namespace L2
namespace M
open PySem PySem.Spec PyProof.Rows

/-! ## the head -/
/-- the law's own promise: from an empty store, whatever the module's names are -/
def spLaw (K : PySem.W.Frag) (F : List MV → Sto → R Er) : Sp := fun vs H Q _ => ∃ ds, DenL K [] H ds vs ∧ ds.length = 1 ∧ ∀ g : Gm, g.K = K → Post g W0 [] H (F ds []) Q
theorem spLaw_of {g : Gm} {F : List MV → Sto → R Er} : ∀ vs H Q E, spLaw g.K F vs H Q E → spM g 1 F vs H Q E := fun vs H Q E ⟨ds, l, hl, q⟩ => ⟨[], [], ds, ⟨rfl, by simp, fun l a o h => by simp at h⟩, l, hl, q g rfl⟩
theorem sqF_of {K : PySem.W.Frag} {H : Hp} {a : Addr} {xs : List V} (hO : Only H) (h : SqL K H a xs) : SqF K H a xs := by
  rcases h with (h | ⟨o, h⟩) | h
  · rcases hO a with z | ⟨o, ys, z⟩
    · rw [z] at h; cases h
    · rw [z] at h; cases h
  · exact .inl ⟨o, h⟩
  · exact .inr h
theorem law_head {K : PySem.W.Frag} {F : List MV → Sto → R Er} {H : Hp} {a : Addr} {ns : List Int} (hO : Only H) (hS : SqL K H a (ns.map V.int)) (h : ∃ S, F [.scr (ns.map MV.int)] [] = .ok (.val (.bl true)) S) : spLaw K F [.ref a] H (fun v _ => v = .bl true) fun _ _ _ => False := by
  obtain ⟨S, h⟩ := h
  refine ⟨_, denl_cons (den_scr (sqF_of hO hS) (denl_ints ns)) denl_nil, rfl, fun g _ => ?_⟩
  rw [h]
  exact fun v α' H' x w d => xe_bl d.1

/-! ## reckoning -/
/-- on purpose not by rfl alone: simp must leave a proof, or the kernel unfolds too much -/
theorem bok {β γ : Type} (b : β) (S : Sto) (k : β → Sto → R γ) : (R.ok b S).bind k = k b S := by
  have h := R.bind_ok b S k
  exact Eq.trans h rfl
theorem rd_some (d : MV) (S : Sto) : rdSl (some (some d)) S = .ok (.val d) S := rfl
theorem get0 {α : Type} (a : α) (l : List α) : (a :: l)[0]? = some a := rfl
theorem getS {α : Type} (a : α) (l : List α) (n : Nat) : (a :: l)[n + 1]? = l[n]? := rfl
theorem cut_refl {S T : Sto} : cutOk S (S ++ T) := ⟨by rw [List.length_append]; omega, fun l hl => .inl (List.getElem?_append_left hl)⟩
theorem cut_same {S : Sto} : cutOk S S := ⟨Nat.le_refl _, fun l hl => .inl rfl⟩
theorem lo_int (n : Nat) (i : Int) : lo n (.int i) := by unfold lo; trivial
theorem lo_str (n : Nat) (i : List Nat) : lo n (.str i) := by unfold lo; trivial
theorem lo_bl (n : Nat) (i : Bool) : lo n (.bl i) := by unfold lo; trivial
theorem lo_non (n : Nat) : lo n .non := by unfold lo; trivial
theorem lo_tup {n : Nat} {ds : List MV} (h : loL n ds) : lo n (.tup ds) := by unfold lo; exact h
theorem lo_loc {n l : Nat} (h : l < n) : lo n (.loc l) := by unfold lo; exact h
theorem loL_of {n : Nat} : ∀ {ds : List MV}, (∀ d ∈ ds, lo n d) → loL n ds
  | [], _ => by unfold loL; trivial
  | d :: ds, h => by unfold loL; exact ⟨h d List.mem_cons_self, loL_of fun e he => h e (List.mem_cons_of_mem _ he)⟩
theorem trim_val {S T : Sto} {d : MV} (h : lo S.length d) (hn : ∀ l, d ≠ .loc l) : trimF S (.val d) (S ++ T) = .ok (.val d) S := by
  unfold trimF
  rw [if_pos cut_refl]
  have e : (S ++ T).take S.length = S := by simp
  cases d with
  | loc l => exact absurd rfl (hn l)
  | _ => dsimp only; rw [if_pos h, e]
theorem trim_new {S T : Sto} {ds : List MV} (h : loL S.length ds) : trimF S (.new ds) (S ++ T) = .ok (.new ds) S := by
  unfold trimF
  rw [if_pos cut_refl]
  have e : (S ++ T).take S.length = S := by simp
  dsimp only
  rw [if_pos h, e]
theorem trim_loc {S T : Sto} {l : Nat} {ds : List MV} (hl : S.length ≤ l) (hS : (S ++ T)[l]? = some (.lst ds)) (h : loL S.length ds) : trimF S (.val (.loc l)) (S ++ T) = .ok (.new ds) S := by
  unfold trimF
  rw [if_pos cut_refl]
  have e : (S ++ T).take S.length = S := by simp
  dsimp only
  rw [if_neg (by omega), hS]
  dsimp only
  rw [if_pos h, e]
/-- a call whose body leaves the old part of the store as it is -/
theorem call_val {n : Nat} {F : List MV → Sto → R Er} {rs : List Er} {S T : Sto} {d : MV} (hn : rs.length = n) (hF : F (enterA rs S).1 (enterA rs S).2 = .ok (.val d) (S ++ T)) (h : lo S.length d) (hd : ∀ l, d ≠ .loc l) : callF n F rs S = .ok (.val d) S := by
  unfold callF
  rw [if_pos hn, hF]
  exact trim_val h hd
theorem call_new {n : Nat} {F : List MV → Sto → R Er} {rs : List Er} {S T : Sto} {ds : List MV} (hn : rs.length = n) (hF : F (enterA rs S).1 (enterA rs S).2 = .ok (.new ds) (S ++ T)) (h : loL S.length ds) : callF n F rs S = .ok (.new ds) S := by
  unfold callF
  rw [if_pos hn, hF]
  exact trim_new h
theorem call_loc {n : Nat} {F : List MV → Sto → R Er} {rs : List Er} {S T : Sto} {l : Nat} {ds : List MV} (hn : rs.length = n) (hF : F (enterA rs S).1 (enterA rs S).2 = .ok (.val (.loc l)) (S ++ T)) (hl : S.length ≤ l) (hS : (S ++ T)[l]? = some (.lst ds)) (h : loL S.length ds) : callF n F rs S = .ok (.new ds) S := by
  unfold callF
  rw [if_pos hn, hF]
  exact trim_loc hl hS h
theorem call_pure {n : Nat} {F : List MV → Sto → R Er} {rs : List Er} {S : Sto} {d : MV} (hn : rs.length = n) (hF : F (enterA rs S).1 (enterA rs S).2 = .ok (.val d) S) (h : lo S.length d) (hd : ∀ l, d ≠ .loc l) : callF n F rs S = .ok (.val d) S := call_val (T := []) hn (by rw [List.append_nil]; exact hF) h hd
/-- a walk with an invariant by the turn -/
theorem for_from {gf : MV → Rho → Sto → R Rho} {body : Rho → Sto → R Fl} {gs : List (Nat × List MV)} {L : List MV} (I : Nat → Rho → Sto → Prop)
    (st : ∀ i d, L[i]? = some d → ∀ ρ S, I i ρ S → ∃ ρ' S', ((gf d ρ S).bind fun ρ0 S0 => body ρ0 S0) = .ok (.next ρ') S' ∧ stay gs S' ∧ I (i + 1) ρ' S') :
    ∀ (n i : Nat) {ρ : Rho} {S : Sto}, n + i = L.length → I i ρ S → ∃ ρ' S', forF gf body gs (L.drop i) ρ S = .ok (.next ρ') S' ∧ I L.length ρ' S'
  | 0, i, ρ, S, hn, h => by
    have e : i = L.length := by omega
    subst e
    rw [List.drop_length]
    exact ⟨ρ, S, rfl, h⟩
  | n + 1, i, ρ, S, hn, h => by
    have hi : i < L.length := by omega
    obtain ⟨ρ1, S1, e, hs, h1⟩ := st i L[i] (List.getElem?_eq_getElem hi) ρ S h
    obtain ⟨ρ2, S2, e2, h2⟩ := for_from I st n (i + 1) (by omega) h1
    refine ⟨ρ2, S2, ?_, h2⟩
    rw [List.drop_eq_getElem_cons hi]
    unfold forF
    cases z : gf L[i] ρ S with
    | ok ρ0 S0 =>
      rw [z] at e
      have e : body ρ0 S0 = .ok (.next ρ1) S1 := e
      rw [bok]
      show (body ρ0 S0).bind _ = _
      rw [e, bok]
      dsimp only
      rw [if_pos hs]
      exact e2
    | exc c fs S0 => rw [z] at e; cases e
    | no => rw [z] at e; cases e
theorem for_ix {gf : MV → Rho → Sto → R Rho} {body : Rho → Sto → R Fl} {gs : List (Nat × List MV)} {L : List MV} (I : Nat → Rho → Sto → Prop)
    (st : ∀ i d, L[i]? = some d → ∀ ρ S, I i ρ S → ∃ ρ' S', ((gf d ρ S).bind fun ρ0 S0 => body ρ0 S0) = .ok (.next ρ') S' ∧ stay gs S' ∧ I (i + 1) ρ' S') {ρ : Rho} {S : Sto} (h : I 0 ρ S) :
    ∃ ρ' S', forF gf body gs L ρ S = .ok (.next ρ') S' ∧ I L.length ρ' S' := for_from I st L.length 0 (by omega) h
end M
end L2

namespace L2
namespace M
open PySem PySem.Spec PyProof.Rows
/-! ## reckoning with the functions -/
section
variable {S : Sto}
theorem as_bl (b : Bool) (S : Sto) : asB (.val (.bl b)) S = .ok b S := rfl
theorem as_int (i : Int) (S : Sto) : asI (.val (.int i)) S = .ok (some i) S := rfl
theorem tru_bl (b : Bool) (S : Sto) : truF (.val (.bl b)) S = .ok b S := rfl
theorem add_int (i j : Int) (S : Sto) : addF (.val (.int i)) (.val (.int j)) S = .ok (.val (.int (i + j))) S := rfl
theorem sub_int (i j : Int) (S : Sto) : subF (.val (.int i)) (.val (.int j)) S = .ok (.val (.int (i - j))) S := rfl
theorem add_str {x y : List Nat} (h : x.length + y.length ≤ sizeLine) : addF (.val (.str x)) (.val (.str y)) S = .ok (.val (.str (x ++ y))) S := if_pos h
theorem add_tup {x y : List MV} (h : x.length + y.length ≤ sizeLine) : addF (.val (.tup x)) (.val (.tup y)) S = .ok (.val (.tup (x ++ y))) S := if_pos h
theorem add_ls {p q : Er} {x y : List MV} (h1 : lsW S p = some x) (h2 : lsW S q = some y) (h : x.length + y.length ≤ sizeLine) : addF p q S = .ok (.new (x ++ y)) S := by
  have e : catLF p q S = .ok (.new (x ++ y)) S := by
    unfold catLF
    rw [h1, h2]
    exact if_pos h
  unfold addF
  split
  · cases h1
  · cases h1
  · cases h1
  · exact e
theorem ib_int {g : Int → Int → Bool} (i j : Int) (S : Sto) : ibF g (.val (.int i)) (.val (.int j)) S = .ok (.val (.bl (g i j))) S := rfl
theorem eqV_int (i j : Int) : eqV (.int i) (.int j) = decide (i = j) := by
  show (i == j) = _
  by_cases h : i = j
  · subst h; simp
  · rw [decide_eq_false h]; simpa using h
theorem eqV_str (x y : List Nat) : eqV (.str (mkS x)) (.str (mkS y)) = decide (x = y) := by
  show (mkS x == mkS y) = _
  by_cases h : x = y
  · subst h; simp
  · rw [decide_eq_false h]
    have : mkS x ≠ mkS y := fun z => h (mkS_inj z)
    simpa using this
theorem eqv_int (n : Nat) (i j : Int) : eqv S (n + 1) (.int i) (.int j) = some (decide (i = j)) := by rw [← eqV_int]; rfl
theorem eqv_str (n : Nat) (x y : List Nat) : eqv S (n + 1) (.str x) (.str y) = some (decide (x = y)) := by rw [← eqV_str]; rfl
theorem eqv_is (n : Nat) (x : Int) (y : List Nat) : eqv S (n + 1) (.int x) (.str y) = some false := rfl
theorem eqv_si (n : Nat) (x : List Nat) (y : Int) : eqv S (n + 1) (.str x) (.int y) = some false := rfl
theorem eqv_bl (n : Nat) (x y : Bool) : eqv S (n + 1) (.bl x) (.bl y) = some (x == y) := rfl
theorem eqF_val (d f : MV) : eqF (.val d) (.val f) S = match eqv S (depthE + 1) d f with | some k => .ok (.val (.bl k)) S | none => .no := rfl
theorem neF_val (d f : MV) : neF (.val d) (.val f) S = match eqv S (depthE + 1) d f with | some k => .ok (.val (.bl !k)) S | none => .no := rfl
theorem eq_val {d f : MV} {k : Bool} (h : eqv S (depthE + 1) d f = some k) : eqF (.val d) (.val f) S = .ok (.val (.bl k)) S := by rw [eqF_val, h]
theorem ne_val {d f : MV} {k : Bool} (h : eqv S (depthE + 1) d f = some k) : neF (.val d) (.val f) S = .ok (.val (.bl !k)) S := by rw [neF_val, h]
theorem eq_int (i j : Int) (S : Sto) : eqF (.val (.int i)) (.val (.int j)) S = .ok (.val (.bl (decide (i = j)))) S := eq_val (eqv_int _ i j)
theorem eq_str (x y : List Nat) (S : Sto) : eqF (.val (.str x)) (.val (.str y)) S = .ok (.val (.bl (decide (x = y)))) S := eq_val (eqv_str _ x y)
theorem ne_int (i j : Int) (S : Sto) : neF (.val (.int i)) (.val (.int j)) S = .ok (.val (.bl (!decide (i = j)))) S := ne_val (eqv_int _ i j)
theorem ne_bl (x y : Bool) (S : Sto) : neF (.val (.bl x)) (.val (.bl y)) S = .ok (.val (.bl (!(x == y)))) S := ne_val (eqv_bl _ x y)
theorem lt_val {d f : MV} {k : Bool} (h : ltv S depthE d f = some k) : ltF (.val d) (.val f) S = .ok (.val (.bl k)) S := by
  show (match ltv S depthE d f with | some k => R.ok (Er.val (.bl k)) S | none => .no) = _
  rw [h]
theorem lt_int (i j : Int) (S : Sto) : ltF (.val (.int i)) (.val (.int j)) S = .ok (.val (.bl (decide (i < j)))) S := rfl
theorem lt_str (i j : List Nat) (S : Sto) : ltF (.val (.str i)) (.val (.str j)) S = .ok (.val (.bl (decide (i < j)))) S := rfl
theorem div_lit {b : Int} (h : 0 < b) (h2 : b < 1073741824) (a : Int) (S : Sto) : divF (.val (.int a)) (.val (.int b)) S = .ok (.val (.int (a / b))) S := by
  refine if_pos ⟨h, ?_⟩
  have h3 : b.natAbs < 2 ^ 30 := by omega
  have := (Nat.log2_lt (by omega : b.natAbs ≠ 0)).mpr h3
  omega
theorem mod_lit {b : Int} (h : 0 < b) (a : Int) (S : Sto) : modF (.val (.int a)) (.val (.int b)) S = .ok (.val (.int (a % b))) S := if_pos h
theorem mul_lit {b : Int} (h : -(2 ^ 64) < b ∧ b < 2 ^ 64) (a : Int) (S : Sto) : mulF (.val (.int a)) (.val (.int b)) S = .ok (.val (.int (a * b))) S := if_pos (Or.inr h)
theorem mul_litL {a : Int} (h : -(2 ^ 64) < a ∧ a < 2 ^ 64) (b : Int) (S : Sto) : mulF (.val (.int a)) (.val (.int b)) S = .ok (.val (.int (a * b))) S := if_pos (Or.inl h)
theorem pow_lit {a b : Int} (h : powC a b) (S : Sto) : powF (.val (.int a)) (.val (.int b)) S = .ok (.val (.int (a ^ b.toNat))) S := if_pos h
theorem set_val (ρ : Rho) (i : Nat) (d : MV) (S : Sto) : setF ρ i (.val d) S = .ok (.next (ρ.set i (some d))) S := rfl
theorem set_new (ρ : Rho) (i : Nat) (ds : List MV) (S : Sto) : setF ρ i (.new ds) S = .ok (.next (ρ.set i (some (.loc S.length)))) (S ++ [.lst ds]) := rfl
theorem set0 {α : Type} (a b : α) (l : List α) : (a :: l).set 0 b = b :: l := rfl
theorem setS {α : Type} (a b : α) (l : List α) (n : Nat) : (a :: l).set (n + 1) b = a :: l.set n b := rfl
theorem ent_nil (S : Sto) : enterA [] S = ([], S) := rfl
theorem ent_val (d : MV) (rs : List Er) (S : Sto) : enterA (.val d :: rs) S = (d :: (enterA rs S).1, (enterA rs S).2) := rfl
theorem seq_next {F G : Rho → Sto → R Fl} {ρ ρ' : Rho} {S S' : Sto} (h : F ρ S = .ok (.next ρ') S') : seqF F G ρ S = G ρ' S' := by unfold seqF; rw [h]; rfl
theorem seq_ret {F G : Rho → Sto → R Fl} {ρ : Rho} {S S' : Sto} {r : Er} (h : F ρ S = .ok (.ret r) S') : seqF F G ρ S = .ok (.ret r) S' := by unfold seqF; rw [h]; rfl
theorem stay0 (S : Sto) : stay [] S := stay_nil
theorem for_next {gf : MV → Rho → Sto → R Rho} {b : Rho → Sto → R Fl} {gs : List (Nat × List MV)} {d : MV} {ds : List MV} {ρ ρ0 ρ' : Rho} {S0 S' : Sto} (hg : gf d ρ S = .ok ρ0 S0) (h : b ρ0 S0 = .ok (.next ρ') S') (hs : stay gs S') : forF gf b gs (d :: ds) ρ S = forF gf b gs ds ρ' S' := by
  conv => lhs; unfold forF
  rw [hg, bok, h, bok]
  dsimp only
  rw [if_pos hs]
theorem for_ret {gf : MV → Rho → Sto → R Rho} {b : Rho → Sto → R Fl} {gs : List (Nat × List MV)} {d : MV} {ds : List MV} {ρ ρ0 : Rho} {S0 S' : Sto} {r : Er} (hg : gf d ρ S = .ok ρ0 S0) (h : b ρ0 S0 = .ok (.ret r) S') : forF gf b gs (d :: ds) ρ S = .ok (.ret r) S' := by
  conv => lhs; unfold forF
  rw [hg, bok, h, bok]
theorem while_next {t : Rho → Sto → R Bool} {b : Rho → Sto → R Fl} {n : Nat} {ρ ρ' : Rho} {S1 S2 : Sto} (h1 : t ρ S = .ok true S1) (h2 : b ρ S1 = .ok (.next ρ') S2) : whileF t b (n + 1) ρ S = whileF t b n ρ' S2 := by
  conv => lhs; unfold whileF
  rw [h1, bok, if_pos rfl, h2, bok]
theorem while_end {t : Rho → Sto → R Bool} {b : Rho → Sto → R Fl} {n : Nat} {ρ : Rho} {S1 : Sto} (h1 : t ρ S = .ok false S1) : whileF t b (n + 1) ρ S = .ok (.next ρ) S1 := by
  conv => lhs; unfold whileF
  rw [h1, bok, if_neg Bool.false_ne_true]
theorem atI_pos {α : Type} {xs : List α} {i : Int} (h0 : 0 ≤ i) (h1 : i < xs.length) : ∃ c, atI xs i = some c := by
  refine ⟨xs[i.toNat]'(by omega), ?_⟩
  unfold atI ixN
  rw [if_pos h0, if_pos h1]
  exact List.getElem?_eq_getElem _
theorem atI_any {α : Type} {xs : List α} {i : Int} (h0 : -(xs.length : Int) ≤ i) (h1 : i < xs.length) : ∃ c, atI xs i = some c := by
  by_cases h : 0 ≤ i
  · exact atI_pos h h1
  · refine ⟨xs[(i + xs.length).toNat]'(by omega), ?_⟩
    unfold atI ixN
    rw [if_neg h, if_pos h0]
    exact List.getElem?_eq_getElem _
theorem atI_all {α : Type} {P : α → Prop} {xs : List α} {i : Int} {e : α} (h : ∀ e ∈ xs, P e) (z : atI xs i = some e) : P e := by
  unfold atI at z
  cases q : ixN xs.length i with
  | none => rw [q] at z; cases z
  | some j => rw [q] at z; exact h e (List.mem_of_getElem? (show xs[j]? = some e from z))
theorem ix_str {x : List Nat} {i : Int} {c : Nat} (h : x.length ≤ sizeLine) (hk : atI x i = some c) : ixF (.val (.str x)) (.val (.int i)) S = .ok (.val (.str [c])) S := by
  show (if x.length ≤ sizeLine then match atI x i with | some c => R.ok (Er.val (.str [c])) S | none => .no else .no) = _
  rw [if_pos h, hk]
theorem ix_tup {ds : List MV} {i : Int} {d : MV} (hk : atI ds i = some d) : ixF (.val (.tup ds)) (.val (.int i)) S = .ok (.val d) S := by
  show (match atI ds i with | some d => R.ok (Er.val d) S | none => .no) = _
  rw [hk]
theorem ix_new {ds : List MV} {i : Int} {d : MV} (hk : atI ds i = some d) : ixF (.new ds) (.val (.int i)) S = .ok (.val d) S := by
  show (match atI ds i with | some d => R.ok (Er.val d) S | none => .no) = _
  rw [hk]
theorem ix_loc {l : Nat} {ds : List MV} {i : Int} {d : MV} (hS : S[l]? = some (.lst ds)) (hk : atI ds i = some d) : ixF (.val (.loc l)) (.val (.int i)) S = .ok (.val d) S := by
  have e : lsOf S (.val (.loc l)) = some ds := by unfold lsOf; dsimp only; rw [hS]
  show (match lsOf S (.val (.loc l)) with | some ds => getL ds (.val (.int i)) S | none => .no) = _
  rw [e]
  show (match atI ds i with | some d => R.ok (Er.val d) S | none => .no) = _
  rw [hk]
theorem len_loc {l : Nat} {ds : List MV} (hS : S[l]? = some (.lst ds)) : lenF [.val (.loc l)] S = .ok (.val (.int ds.length)) S := by
  have e : lsOf S (.val (.loc l)) = some ds := by unfold lsOf; dsimp only; rw [hS]
  have e2 : itemsOf S (.val (.loc l)) = some ds := by unfold itemsOf; exact e
  show (match itemsOf S (.val (.loc l)) with | some ds => R.ok (Er.val (.int ds.length)) S | none => .no) = _
  rw [e2]
theorem lsOf_loc {l : Nat} {ds : List MV} (hS : S[l]? = some (.lst ds)) : lsOf S (.val (.loc l)) = some ds := by unfold lsOf; dsimp only; rw [hS]
theorem lsW_loc {l : Nat} {ds : List MV} (hS : S[l]? = some (.lst ds)) : lsW S (.val (.loc l)) = some ds := by unfold lsW; dsimp only; rw [hS]
theorem itL_loc {l : Nat} {ds : List MV} (hS : S[l]? = some (.lst ds)) : itL (.val (.loc l)) S = .ok ⟨ds, [(l, ds)]⟩ S := by unfold itL; dsimp only; rw [hS]
theorem stay_loc {l : Nat} {ds : List MV} (hS : S[l]? = some (.lst ds)) : stay [(l, ds)] S := fun p hp => by
  have : p = (l, ds) := by simpa using hp
  subst this; exact hS
theorem rng_ok {j : Int} (h : -(2 ^ 62) ≤ j ∧ j < 2 ^ 62) : rng1F [.val (.int j)] S = .ok ⟨(List.range j.toNat).map fun k => .int (k : Nat), []⟩ S := if_pos h
theorem rng2_ok {i j : Int} (h : -(2 ^ 62) ≤ i ∧ i < 2 ^ 62 ∧ -(2 ^ 62) ≤ j ∧ j < 2 ^ 62) : rng2F [.val (.int i), .val (.int j)] S = .ok ⟨(List.range (j - i).toNat).map fun k => .int (i + (k : Nat)), []⟩ S := if_pos h
theorem cut_str {x : List Nat} (h : x.length ≤ sizeLine) (lo hi : Option Int) : cutF (.val (.str x)) lo hi S = .ok (.val (.str (cutL x lo hi))) S := if_pos h
theorem cutL_len {α : Type} (x : List α) (lo hi : Option Int) : (cutL x lo hi).length ≤ x.length := by
  unfold cutL
  rw [List.length_take, List.length_drop]
  omega
theorem cutL_mem {α : Type} {x : List α} {lo hi : Option Int} {a : α} (h : a ∈ cutL x lo hi) : a ∈ x := List.mem_of_mem_drop (List.mem_of_mem_take h)
theorem cutL_map {α β : Type} (f : α → β) (x : List α) (lo hi : Option Int) : cutL (x.map f) lo hi = (cutL x lo hi).map f := by
  unfold cutL
  rw [List.length_map, List.map_take, List.map_drop]
theorem cutL_to {α : Type} (x : List α) (k : Int) (h0 : 0 ≤ k) : cutL x none (some k) = x.take k.toNat := by
  unfold cutL
  have h1 : HT.sIx x.length 0 none = 0 := rfl
  rw [h1]
  have h2 : HT.sIx x.length x.length (some k) = min k.toNat x.length := by
    unfold HT.sIx
    simp only
    split <;> omega
  rw [h2, List.drop_zero, Nat.sub_zero]
  by_cases hk : k.toNat ≤ x.length
  · rw [Nat.min_eq_left hk]
  · rw [Nat.min_eq_right (by omega), List.take_length, List.take_of_length_le (by omega)]
theorem fits {n : Nat} (h : n ≤ 1000000) : n ≤ sizeLine := by rw [sizeLine_eq]; exact Nat.le_trans h (by decide)
theorem lst_ok {rs : List Er} (h : rs.length ≤ 1000000) : lstF rs S = .ok (.new (enterA rs S).1) (enterA rs S).2 := if_pos (fits h)
theorem tup_ok {rs : List Er} (h : rs.length ≤ 1000000) : tupF rs S = .ok (.val (.tup (enterA rs S).1)) (enterA rs S).2 := if_pos (fits h)
theorem lst0 (S : Sto) : lstF [] S = .ok (.new []) S := lst_ok (by simp)
theorem lst1 (a : MV) (S : Sto) : lstF [.val a] S = .ok (.new [a]) S := lst_ok (by simp)
theorem lst2 (a b : MV) (S : Sto) : lstF [.val a, .val b] S = .ok (.new [a, b]) S := lst_ok (by simp)
theorem lst3 (a b c : MV) (S : Sto) : lstF [.val a, .val b, .val c] S = .ok (.new [a, b, c]) S := lst_ok (by simp)
theorem lst6 (a b c d e f : MV) (S : Sto) : lstF [.val a, .val b, .val c, .val d, .val e, .val f] S = .ok (.new [a, b, c, d, e, f]) S := lst_ok (by simp)
theorem tup2 (a b : MV) (S : Sto) : tupF [.val a, .val b] S = .ok (.val (.tup [a, b])) S := tup_ok (by simp)
theorem tup3 (a b c : MV) (S : Sto) : tupF [.val a, .val b, .val c] S = .ok (.val (.tup [a, b, c])) S := tup_ok (by simp)
theorem isi_is (i : Int) (S : Sto) : isiF [.val (.int i), .val (.typ "str")] S = .ok (.val (.bl false)) S := rfl
theorem isi_ss (i : List Nat) (S : Sto) : isiF [.val (.str i), .val (.typ "str")] S = .ok (.val (.bl true)) S := rfl
theorem isi_it (i : Int) (S : Sto) : isiF [.val (.int i), .val (.typ "tuple")] S = .ok (.val (.bl false)) S := rfl
theorem isi_st (i : List Nat) (S : Sto) : isiF [.val (.str i), .val (.typ "tuple")] S = .ok (.val (.bl false)) S := rfl
theorem isi_tt (i : List MV) (S : Sto) : isiF [.val (.tup i), .val (.typ "tuple")] S = .ok (.val (.bl true)) S := rfl
theorem isi_bb (i : Bool) (S : Sto) : isiF [.val (.bl i), .val (.typ "bool")] S = .ok (.val (.bl true)) S := rfl
/-! comprehensions -/
theorem comp_all {gf : MV → Rho → Sto → R Rho} {cf : Rho → Sto → R Bool} {ef : Rho → Sto → R Er} {ρb : Rho} {gs : List (Nat × List MV)} {P : MV → Prop} (hs : stay gs S) :
    ∀ {ds : List MV}, (∀ d ∈ ds, ∃ ρ1 y, gf d ρb S = .ok ρ1 S ∧ cf ρ1 S = .ok true S ∧ ef ρ1 S = .ok (.val y) S ∧ P y) → ∃ out, compF gf cf ef ρb gs ds S = .ok out S ∧ out.length = ds.length ∧ ∀ o ∈ out, P o
  | [], _ => ⟨[], rfl, rfl, fun o h => by simp at h⟩
  | d :: ds, st => by
    obtain ⟨ρ1, y, h1, h2, h3, h4⟩ := st d List.mem_cons_self
    obtain ⟨out, e, hl, hp⟩ := comp_all hs (ds := ds) fun d hd => st d (List.mem_cons_of_mem _ hd)
    refine ⟨y :: out, ?_, by rw [List.length_cons, List.length_cons, hl], fun o ho => (List.mem_cons.mp ho).elim (fun z => z ▸ h4) (hp o)⟩
    unfold compF
    rw [h1, noX_ok, bok, h2, noX_ok, bok, if_pos rfl, h3, noX_ok, bok]
    unfold enter1
    rw [bok, if_pos hs, e]
    rfl
theorem comp_map {gf : MV → Rho → Sto → R Rho} {cf : Rho → Sto → R Bool} {ef : Rho → Sto → R Er} {ρb : Rho} {gs : List (Nat × List MV)} {F : MV → MV} (hs : stay gs S) :
    ∀ {ds : List MV}, (∀ d ∈ ds, ∃ ρ1, gf d ρb S = .ok ρ1 S ∧ cf ρ1 S = .ok true S ∧ ef ρ1 S = .ok (.val (F d)) S) → compF gf cf ef ρb gs ds S = .ok (ds.map F) S
  | [], _ => rfl
  | d :: ds, st => by
    obtain ⟨ρ1, h1, h2, h3⟩ := st d List.mem_cons_self
    have e := comp_map hs (ds := ds) fun d hd => st d (List.mem_cons_of_mem _ hd)
    unfold compF
    rw [h1, noX_ok, bok, h2, noX_ok, bok, if_pos rfl, h3, noX_ok, bok]
    unfold enter1
    rw [bok, if_pos hs, e]
    rfl
theorem comp_none {gf : MV → Rho → Sto → R Rho} {cf : Rho → Sto → R Bool} {ef : Rho → Sto → R Er} {ρb : Rho} {gs : List (Nat × List MV)} (hs : stay gs S) :
    ∀ {ds : List MV}, (∀ d ∈ ds, ∃ ρ1, gf d ρb S = .ok ρ1 S ∧ cf ρ1 S = .ok false S) → compF gf cf ef ρb gs ds S = .ok [] S
  | [], _ => rfl
  | d :: ds, st => by
    obtain ⟨ρ1, h1, h2⟩ := st d List.mem_cons_self
    have e := comp_none hs (ef := ef) (ds := ds) fun d hd => st d (List.mem_cons_of_mem _ hd)
    unfold compF
    rw [h1, noX_ok, bok, h2, noX_ok, bok, if_neg Bool.false_ne_true, if_pos hs, e]
/-! ### names and values of the document -/
def Nm (x : List Nat) : Prop := 1 ≤ x.length ∧ x.length ≤ 8 ∧ ∀ c ∈ x, 97 ≤ c ∧ c ≤ 122
def Vl : MV → Prop
  | .int i => -(10 ^ 30) < i ∧ i < 10 ^ 30
  | .str x => Nm x
  | _ => False
theorem Vl.cases {d : MV} (h : Vl d) : (∃ i, d = .int i ∧ -(10 ^ 30) < i ∧ i < 10 ^ 30) ∨ ∃ x, d = .str x ∧ Nm x := by
  cases d with
  | int i => exact .inl ⟨i, rfl, h⟩
  | str x => exact .inr ⟨x, rfl, h⟩
  | _ => exact h.elim
theorem Vl.lo {d : MV} (h : Vl d) (n : Nat) : lo n d := by
  rcases h.cases with ⟨i, rfl, _⟩ | ⟨x, rfl, _⟩
  · exact lo_int n i
  · exact lo_str n x
theorem Vl.noloc {d : MV} (h : Vl d) (l : Nat) : d ≠ .loc l := fun e => by subst e; exact h.elim
end
end M
end L2

namespace L2
namespace M
namespace My
open PySem PySem.Spec PyProof.Rows
noncomputable def F_value_rank_1 : Rho → Sto → R Fl := (fun ρ S => ((((rdSl (ρ[0]?) S).bind fun p1 S2 => ((R.ok (.val (.typ "str")) S2).bind fun p5 S6 => (R.ok [] S6).bind fun l7 S8 => .ok (p5 :: l7) S8).bind fun l3 S4 => .ok (p1 :: l3) S4).bind isiF).bind truF).bind fun k S1 => if k = true then ((fun ρ S => (((R.ok (.val (.int 1)) S).bind fun p9 S10 => ((R.ok (.val (.int 0)) S10).bind fun p13 S14 => ((rdSl (ρ[0]?) S14).bind fun p17 S18 => (R.ok [] S18).bind fun l19 S20 => .ok (p17 :: l19) S20).bind fun l15 S16 => .ok (p13 :: l15) S16).bind fun l11 S12 => .ok (p9 :: l11) S12).bind tupF).bind fun r S1 => .ok (.ret r) S1)) ρ S1 else (fun ρ S => .ok (.next ρ) S) ρ S1)
noncomputable def F_value_rank_2 : Rho → Sto → R Fl := (fun ρ S => (((R.ok (.val (.int 0)) S).bind fun p21 S22 => ((rdSl (ρ[0]?) S22).bind fun p25 S26 => ((R.ok (.val (.str [])) S26).bind fun p29 S30 => (R.ok [] S30).bind fun l31 S32 => .ok (p29 :: l31) S32).bind fun l27 S28 => .ok (p25 :: l27) S28).bind fun l23 S24 => .ok (p21 :: l23) S24).bind tupF).bind fun r S1 => .ok (.ret r) S1)
noncomputable def F_value_rank : Rho → Sto → R Fl := seqF F_value_rank_1 (F_value_rank_2)
noncomputable def f_value_rank (ds : List MV) (S : Sto) : R Er := finF (F_value_rank (startR ["value"] ds) S)
noncomputable def C_tuple_rank_1_c : Rho → Sto → R Bool := fun ρ S => (R.ok true S)
noncomputable def C_tuple_rank_1_e : Rho → Sto → R Er := fun ρ S => (((rdSl (ρ[0]?) S).bind fun p39 S40 => (R.ok [] S40).bind fun l41 S42 => .ok (p39 :: l41) S42).bind fun r37 S38 => callF 1 f_value_rank r37 S38)
noncomputable def F_tuple_rank_1 : Rho → Sto → R Fl := (fun ρ S => (((((rdSl (ρ[0]?) S).bind itT).bind fun k33 S34 => if k33.ds.length < 1000000 then (compF (gNm 0) C_tuple_rank_1_c C_tuple_rank_1_e (blk 1 [] ρ) k33.gs k33.ds S34).bind fun o35 S36 => .ok (.new o35) S36 else .no).bind fun p43 S44 => (R.ok [] S44).bind fun l45 S46 => .ok (p43 :: l45) S46).bind tupleF).bind fun r S1 => .ok (.ret r) S1)
noncomputable def F_tuple_rank : Rho → Sto → R Fl := F_tuple_rank_1
noncomputable def f_tuple_rank (ds : List MV) (S : Sto) : R Er := finF (F_tuple_rank (startR ["values"] ds) S)
noncomputable def F_ahead_1 : Rho → Sto → R Fl := (fun ρ S => ((((rdSl (ρ[0]?) S).bind fun p47 S48 => ((R.ok (.val (.typ "tuple")) S48).bind fun p51 S52 => (R.ok [] S52).bind fun l53 S54 => .ok (p51 :: l53) S54).bind fun l49 S50 => .ok (p47 :: l49) S50).bind isiF).bind truF).bind fun k S1 => if k = true then ((fun ρ S => ((((rdSl (ρ[0]?) S).bind fun p57 S58 => (R.ok [] S58).bind fun l59 S60 => .ok (p57 :: l59) S60).bind fun r55 S56 => callF 1 f_tuple_rank r55 S56).bind fun p61 S62 => (((rdSl (ρ[1]?) S62).bind fun p67 S68 => (R.ok [] S68).bind fun l69 S70 => .ok (p67 :: l69) S70).bind fun r65 S66 => callF 1 f_tuple_rank r65 S66).bind fun q63 S64 => ltF p61 q63 S64).bind fun r S1 => .ok (.ret r) S1)) ρ S1 else (fun ρ S => .ok (.next ρ) S) ρ S1)
noncomputable def F_ahead_2 : Rho → Sto → R Fl := (fun ρ S => ((((rdSl (ρ[0]?) S).bind fun p73 S74 => (R.ok [] S74).bind fun l75 S76 => .ok (p73 :: l75) S76).bind fun r71 S72 => callF 1 f_value_rank r71 S72).bind fun p77 S78 => (((rdSl (ρ[1]?) S78).bind fun p83 S84 => (R.ok [] S84).bind fun l85 S86 => .ok (p83 :: l85) S86).bind fun r81 S82 => callF 1 f_value_rank r81 S82).bind fun q79 S80 => ltF p77 q79 S80).bind fun r S1 => .ok (.ret r) S1)
noncomputable def F_ahead : Rho → Sto → R Fl := seqF F_ahead_1 (F_ahead_2)
noncomputable def f_ahead (ds : List MV) (S : Sto) : R Er := finF (F_ahead (startR ["one", "other"] ds) S)
noncomputable def B__law_name_1_1 : Rho → Sto → R Fl := (fun ρ S => ((rdSl (ρ[3]?) S).bind fun p103 S104 => ((rdSl (ρ[1]?) S104).bind fun p107 S108 => ((rdSl (ρ[2]?) S108).bind fun p111 S112 => (R.ok (.val (.int 26)) S112).bind fun q113 S114 => modF p111 q113 S114).bind fun q109 S110 => ixF p107 q109 S110).bind fun q105 S106 => addF p103 q105 S106).bind (setF ρ 3))
noncomputable def B__law_name_1_2 : Rho → Sto → R Fl := (fun ρ S => ((rdSl (ρ[2]?) S).bind fun p115 S116 => (R.ok (.val (.int 26)) S116).bind fun q117 S118 => divF p115 q117 S118).bind (setF ρ 2))
noncomputable def B__law_name_1 : Rho → Sto → R Fl := seqF B__law_name_1_1 (B__law_name_1_2)
noncomputable def F__law_name_1 : Rho → Sto → R Fl := (fun ρ S => (R.ok (.val (.str [97, 98, 99, 100, 101, 102, 103, 104, 105, 106, 107, 108, 109, 110, 111, 112, 113, 114, 115, 116, 117, 118, 119, 120, 121, 122])) S).bind (setF ρ 1))
noncomputable def F__law_name_2 : Rho → Sto → R Fl := (fun ρ S => ((rdSl (ρ[0]?) S).bind fun p87 S88 => (R.ok (.val (.int 8)) S88).bind fun q89 S90 => divF p87 q89 S90).bind (setF ρ 2))
noncomputable def F__law_name_3 : Rho → Sto → R Fl := (fun ρ S => (R.ok (.val (.str [])) S).bind (setF ρ 3))
noncomputable def F__law_name_4 : Rho → Sto → R Fl := (fun ρ S => ((((R.ok (.val (.int 1)) S).bind fun p91 S92 => ((rdSl (ρ[0]?) S92).bind fun p95 S96 => (R.ok (.val (.int 8)) S96).bind fun q97 S98 => modF p95 q97 S98).bind fun q93 S94 => addF p91 q93 S94).bind fun p99 S100 => (R.ok [] S100).bind fun l101 S102 => .ok (p99 :: l101) S102).bind rng1F).bind fun k S1 => forF (gNm 4) B__law_name_1 k.gs k.ds ρ S1)
noncomputable def F__law_name_5 : Rho → Sto → R Fl := (fun ρ S => (rdSl (ρ[3]?) S).bind fun r S1 => .ok (.ret r) S1)
noncomputable def F__law_name : Rho → Sto → R Fl := seqF F__law_name_1 (seqF F__law_name_2 (seqF F__law_name_3 (seqF F__law_name_4 (F__law_name_5))))
noncomputable def f__law_name (ds : List MV) (S : Sto) : R Er := finF (F__law_name (startR ["_law_cell", "_law_letters", "_law_number", "_law_name_here", "_law_k"] ds) S)
noncomputable def F__law_value_1 : Rho → Sto → R Fl := (fun ρ S => ((rdSl (ρ[0]?) S).bind fun p119 S120 => (R.ok (.val (.int 5)) S120).bind fun q121 S122 => divF p119 q121 S122).bind (setF ρ 1))
noncomputable def F__law_value_2 : Rho → Sto → R Fl := (fun ρ S => ((((rdSl (ρ[0]?) S).bind fun p123 S124 => (R.ok (.val (.int 5)) S124).bind fun q125 S126 => modF p123 q125 S126).bind fun p127 S128 => (R.ok (.val (.int 0)) S128).bind fun q129 S130 => eqF p127 q129 S130).bind asB).bind fun k S1 => if k = true then ((fun ρ S => ((((R.ok (.val (.int 0)) S).bind fun p131 S132 => ((R.ok (.val (.int 1)) S132).bind fun p135 S136 => ((R.ok (.val (.int (-1))) S136).bind fun p139 S140 => ((((R.ok (.val (.int 10)) S140).bind fun p143 S144 => (R.ok (.val (.int 30)) S144).bind fun q145 S146 => powF p143 q145 S146).bind fun p147 S148 => (R.ok (.val (.int 1)) S148).bind fun q149 S150 => subF p147 q149 S150).bind fun p151 S152 => (((R.ok (.val (.int 1)) S152).bind fun p155 S156 => ((R.ok (.val (.int 10)) S156).bind fun p159 S160 => (R.ok (.val (.int 30)) S160).bind fun q161 S162 => powF p159 q161 S162).bind fun q157 S158 => subF p155 q157 S158).bind fun p163 S164 => (((R.ok (.val (.int 10)) S164).bind fun p167 S168 => (R.ok (.val (.int 29)) S168).bind fun q169 S170 => powF p167 q169 S170).bind fun p171 S172 => (R.ok [] S172).bind fun l173 S174 => .ok (p171 :: l173) S174).bind fun l165 S166 => .ok (p163 :: l165) S166).bind fun l153 S154 => .ok (p151 :: l153) S154).bind fun l141 S142 => .ok (p139 :: l141) S142).bind fun l137 S138 => .ok (p135 :: l137) S138).bind fun l133 S134 => .ok (p131 :: l133) S134).bind lstF).bind fun p175 S176 => ((rdSl (ρ[1]?) S176).bind fun p179 S180 => (R.ok (.val (.int 6)) S180).bind fun q181 S182 => modF p179 q181 S182).bind fun q177 S178 => ixF p175 q177 S178).bind fun r S1 => .ok (.ret r) S1)) ρ S1 else (fun ρ S => .ok (.next ρ) S) ρ S1)
noncomputable def F__law_value_3 : Rho → Sto → R Fl := (fun ρ S => ((((rdSl (ρ[0]?) S).bind fun p183 S184 => (R.ok (.val (.int 5)) S184).bind fun q185 S186 => modF p183 q185 S186).bind fun p187 S188 => (R.ok (.val (.int 1)) S188).bind fun q189 S190 => eqF p187 q189 S190).bind asB).bind fun k S1 => if k = true then ((fun ρ S => (((rdSl (ρ[1]?) S).bind fun p191 S192 => (R.ok (.val (.int 23)) S192).bind fun q193 S194 => modF p191 q193 S194).bind fun p195 S196 => (R.ok (.val (.int 11)) S196).bind fun q197 S198 => subF p195 q197 S198).bind fun r S1 => .ok (.ret r) S1)) ρ S1 else (fun ρ S => .ok (.next ρ) S) ρ S1)
noncomputable def F__law_value_4 : Rho → Sto → R Fl := (fun ρ S => ((((rdSl (ρ[0]?) S).bind fun p199 S200 => (R.ok (.val (.int 5)) S200).bind fun q201 S202 => modF p199 q201 S202).bind fun p203 S204 => (R.ok (.val (.int 2)) S204).bind fun q205 S206 => eqF p203 q205 S206).bind asB).bind fun k S1 => if k = true then ((fun ρ S => ((((((((rdSl (ρ[1]?) S).bind fun p207 S208 => ((R.ok (.val (.int 10)) S208).bind fun p211 S212 => (R.ok (.val (.int 12)) S212).bind fun q213 S214 => powF p211 q213 S214).bind fun q209 S210 => modF p207 q209 S210).bind fun p215 S216 => (R.ok (.val (.int 48271)) S216).bind fun q217 S218 => mulF p215 q217 S218).bind fun p219 S220 => (R.ok (.val (.int 11)) S220).bind fun q221 S222 => addF p219 q221 S222).bind fun p223 S224 => (R.ok (.val (.int 5)) S224).bind fun q225 S226 => powF p223 q225 S226).bind fun p227 S228 => (((R.ok (.val (.int 2)) S228).bind fun p231 S232 => ((R.ok (.val (.int 10)) S232).bind fun p235 S236 => (R.ok (.val (.int 30)) S236).bind fun q237 S238 => powF p235 q237 S238).bind fun q233 S234 => mulF p231 q233 S234).bind fun p239 S240 => (R.ok (.val (.int 1)) S240).bind fun q241 S242 => subF p239 q241 S242).bind fun q229 S230 => modF p227 q229 S230).bind fun p243 S244 => ((R.ok (.val (.int 10)) S244).bind fun p247 S248 => (R.ok (.val (.int 30)) S248).bind fun q249 S250 => powF p247 q249 S250).bind fun q245 S246 => subF p243 q245 S246).bind fun p251 S252 => (R.ok (.val (.int 1)) S252).bind fun q253 S254 => addF p251 q253 S254).bind fun r S1 => .ok (.ret r) S1)) ρ S1 else (fun ρ S => .ok (.next ρ) S) ρ S1)
noncomputable def F__law_value_5 : Rho → Sto → R Fl := (fun ρ S => ((((rdSl (ρ[0]?) S).bind fun p255 S256 => (R.ok (.val (.int 5)) S256).bind fun q257 S258 => modF p255 q257 S258).bind fun p259 S260 => (R.ok (.val (.int 3)) S260).bind fun q261 S262 => eqF p259 q261 S262).bind asB).bind fun k S1 => if k = true then ((fun ρ S => ((((rdSl (ρ[1]?) S).bind fun p263 S264 => (((R.ok (.val (.int 2)) S264).bind fun p267 S268 => ((R.ok (.val (.int 10)) S268).bind fun p271 S272 => (R.ok (.val (.int 30)) S272).bind fun q273 S274 => powF p271 q273 S274).bind fun q269 S270 => mulF p267 q269 S270).bind fun p275 S276 => (R.ok (.val (.int 1)) S276).bind fun q277 S278 => subF p275 q277 S278).bind fun q265 S266 => modF p263 q265 S266).bind fun p279 S280 => ((R.ok (.val (.int 10)) S280).bind fun p283 S284 => (R.ok (.val (.int 30)) S284).bind fun q285 S286 => powF p283 q285 S286).bind fun q281 S282 => subF p279 q281 S282).bind fun p287 S288 => (R.ok (.val (.int 1)) S288).bind fun q289 S290 => addF p287 q289 S290).bind fun r S1 => .ok (.ret r) S1)) ρ S1 else (fun ρ S => .ok (.next ρ) S) ρ S1)
noncomputable def F__law_value_6 : Rho → Sto → R Fl := (fun ρ S => (((rdSl (ρ[1]?) S).bind fun p293 S294 => (R.ok [] S294).bind fun l295 S296 => .ok (p293 :: l295) S296).bind fun r291 S292 => callF 1 f__law_name r291 S292).bind fun r S1 => .ok (.ret r) S1)
noncomputable def F__law_value : Rho → Sto → R Fl := seqF F__law_value_1 (seqF F__law_value_2 (seqF F__law_value_3 (seqF F__law_value_4 (seqF F__law_value_5 (F__law_value_6)))))
noncomputable def f__law_value (ds : List MV) (S : Sto) : R Er := finF (F__law_value (startR ["_law_cell", "_law_rest"] ds) S)
noncomputable def F__law_values_1 : Rho → Sto → R Fl := (fun ρ S => (((rdSl (ρ[0]?) S).bind fun p299 S300 => (R.ok [] S300).bind fun l301 S302 => .ok (p299 :: l301) S302).bind fun r297 S298 => callF 1 f__law_value r297 S298).bind (setF ρ 1))
noncomputable def F__law_values_2 : Rho → Sto → R Fl := (fun ρ S => ((((rdSl (ρ[1]?) S).bind fun p303 S304 => ((R.ok (.val (.typ "str")) S304).bind fun p307 S308 => (R.ok [] S308).bind fun l309 S310 => .ok (p307 :: l309) S310).bind fun l305 S306 => .ok (p303 :: l305) S306).bind isiF).bind truF).bind fun k S1 => if k = true then ((fun ρ S => (((rdSl (ρ[1]?) S).bind fun p311 S312 => ((((rdSl (ρ[1]?) S312).bind fun p315 S316 => (R.ok none S316).bind fun l317 S318 => ((R.ok (.val (.int (-1))) S318).bind asI).bind fun u319 S320 => cutF p315 l317 u319 S320).bind fun p321 S322 => (R.ok (.val (.str [109])) S322).bind fun q323 S324 => addF p321 q323 S324).bind fun p325 S326 => ((((rdSl (ρ[1]?) S326).bind fun p329 S330 => (R.ok (.val (.str [97])) S330).bind fun q331 S332 => addF p329 q331 S332).bind fun p333 S334 => (R.ok none S334).bind fun l335 S336 => ((R.ok (.val (.int 8)) S336).bind asI).bind fun u337 S338 => cutF p333 l335 u337 S338).bind fun p339 S340 => (R.ok [] S340).bind fun l341 S342 => .ok (p339 :: l341) S342).bind fun l327 S328 => .ok (p325 :: l327) S328).bind fun l313 S314 => .ok (p311 :: l313) S314).bind lstF).bind fun r S1 => .ok (.ret r) S1)) ρ S1 else (fun ρ S => .ok (.next ρ) S) ρ S1)
noncomputable def F__law_values_3 : Rho → Sto → R Fl := (fun ρ S => (((rdSl (ρ[1]?) S).bind fun p343 S344 => (((R.ok (.val (.int 0)) S344).bind fun p347 S348 => (rdSl (ρ[1]?) S348).bind fun q349 S350 => subF p347 q349 S350).bind fun p351 S352 => (((rdSl (ρ[1]?) S352).bind fun p355 S356 => (R.ok (.val (.int 2)) S356).bind fun q357 S358 => divF p355 q357 S358).bind fun p359 S360 => (R.ok [] S360).bind fun l361 S362 => .ok (p359 :: l361) S362).bind fun l353 S354 => .ok (p351 :: l353) S354).bind fun l345 S346 => .ok (p343 :: l345) S346).bind lstF).bind fun r S1 => .ok (.ret r) S1)
noncomputable def F__law_values : Rho → Sto → R Fl := seqF F__law_values_1 (seqF F__law_values_2 (F__law_values_3))
noncomputable def f__law_values (ds : List MV) (S : Sto) : R Er := finF (F__law_values (startR ["_law_cell", "_law_value_here"] ds) S)
noncomputable def F__law_before_1 : Rho → Sto → R Fl := (fun ρ S => (((((rdSl (ρ[0]?) S).bind fun p363 S364 => ((R.ok (.val (.typ "str")) S364).bind fun p367 S368 => (R.ok [] S368).bind fun l369 S370 => .ok (p367 :: l369) S370).bind fun l365 S366 => .ok (p363 :: l365) S366).bind isiF).bind fun p371 S372 => (((rdSl (ρ[1]?) S372).bind fun p375 S376 => ((R.ok (.val (.typ "str")) S376).bind fun p379 S380 => (R.ok [] S380).bind fun l381 S382 => .ok (p379 :: l381) S382).bind fun l377 S378 => .ok (p375 :: l377) S378).bind isiF).bind fun q373 S374 => neF p371 q373 S374).bind asB).bind fun k S1 => if k = true then ((fun ρ S => (((rdSl (ρ[1]?) S).bind fun p383 S384 => ((R.ok (.val (.typ "str")) S384).bind fun p387 S388 => (R.ok [] S388).bind fun l389 S390 => .ok (p387 :: l389) S390).bind fun l385 S386 => .ok (p383 :: l385) S386).bind isiF).bind fun r S1 => .ok (.ret r) S1)) ρ S1 else (fun ρ S => .ok (.next ρ) S) ρ S1)
noncomputable def F__law_before_2 : Rho → Sto → R Fl := (fun ρ S => ((rdSl (ρ[0]?) S).bind fun p391 S392 => (rdSl (ρ[1]?) S392).bind fun q393 S394 => ltF p391 q393 S394).bind fun r S1 => .ok (.ret r) S1)
noncomputable def F__law_before : Rho → Sto → R Fl := seqF F__law_before_1 (F__law_before_2)
noncomputable def f__law_before (ds : List MV) (S : Sto) : R Er := finF (F__law_before (startR ["_law_one", "_law_other"] ds) S)
noncomputable def B__law_rows_before_1_1 : Rho → Sto → R Fl := (fun ρ S => (((rdSl (ρ[2]?) S).bind fun p403 S404 => (rdSl (ρ[3]?) S404).bind fun q405 S406 => neF p403 q405 S406).bind asB).bind fun k S1 => if k = true then ((fun ρ S => (((rdSl (ρ[2]?) S).bind fun p409 S410 => ((rdSl (ρ[3]?) S410).bind fun p413 S414 => (R.ok [] S414).bind fun l415 S416 => .ok (p413 :: l415) S416).bind fun l411 S412 => .ok (p409 :: l411) S412).bind fun r407 S408 => callF 2 f__law_before r407 S408).bind fun r S1 => .ok (.ret r) S1)) ρ S1 else (fun ρ S => .ok (.next ρ) S) ρ S1)
noncomputable def B__law_rows_before_1 : Rho → Sto → R Fl := B__law_rows_before_1_1
noncomputable def F__law_rows_before_1 : Rho → Sto → R Fl := (fun ρ S => (((rdSl (ρ[0]?) S).bind fun p395 S396 => ((rdSl (ρ[1]?) S396).bind fun p399 S400 => (R.ok [] S400).bind fun l401 S402 => .ok (p399 :: l401) S402).bind fun l397 S398 => .ok (p395 :: l397) S398).bind itZ).bind fun k S1 => forF (gTp 2 (gsCons (gNm 2) (gsCons (gNm 3) gsNil))) B__law_rows_before_1 k.gs k.ds ρ S1)
noncomputable def F__law_rows_before_2 : Rho → Sto → R Fl := (fun ρ S => (R.ok (.val (.bl false)) S).bind fun r S1 => .ok (.ret r) S1)
noncomputable def F__law_rows_before : Rho → Sto → R Fl := seqF F__law_rows_before_1 (F__law_rows_before_2)
noncomputable def f__law_rows_before (ds : List MV) (S : Sto) : R Er := finF (F__law_rows_before (startR ["_law_one", "_law_other", "_law_here", "_law_there"] ds) S)
noncomputable def C__law_right_1_c : Rho → Sto → R Bool := fun ρ S => (((((rdSl (ρ[0]?) S).bind fun p542 S543 => ((R.ok (.val (.typ "bool")) S543).bind fun p546 S547 => (R.ok [] S547).bind fun l548 S549 => .ok (p546 :: l548) S549).bind fun l544 S545 => .ok (p542 :: l544) S545).bind isiF).bind truF).bind fun k550 S551 => .ok (!k550) S551)
noncomputable def C__law_right_1_e : Rho → Sto → R Er := fun ρ S => (rdSl (ρ[0]?) S)
noncomputable def F__law_right_1 : Rho → Sto → R Fl := (fun ρ S => (((((rdSl (ρ[0]?) S).bind fun p419 S420 => ((rdSl (ρ[1]?) S420).bind fun p423 S424 => (R.ok [] S424).bind fun l425 S426 => .ok (p423 :: l425) S426).bind fun l421 S422 => .ok (p419 :: l421) S422).bind fun r417 S418 => callF 2 f_ahead r417 S418).bind fun p427 S428 => ((((rdSl (ρ[1]?) S428).bind fun p433 S434 => ((rdSl (ρ[0]?) S434).bind fun p437 S438 => (R.ok [] S438).bind fun l439 S440 => .ok (p437 :: l439) S440).bind fun l435 S436 => .ok (p433 :: l435) S436).bind fun r431 S432 => callF 2 f_ahead r431 S432).bind fun p441 S442 => ((((rdSl (ρ[0]?) S442).bind fun p447 S448 => ((rdSl (ρ[0]?) S448).bind fun p451 S452 => (R.ok [] S452).bind fun l453 S454 => .ok (p451 :: l453) S454).bind fun l449 S450 => .ok (p447 :: l449) S450).bind fun r445 S446 => callF 2 f_ahead r445 S446).bind fun p455 S456 => (R.ok [] S456).bind fun l457 S458 => .ok (p455 :: l457) S458).bind fun l443 S444 => .ok (p441 :: l443) S444).bind fun l429 S430 => .ok (p427 :: l429) S430).bind lstF).bind (setF ρ 2))
noncomputable def F__law_right_2 : Rho → Sto → R Fl := (fun ρ S => ((((rdSl (ρ[0]?) S).bind fun p459 S460 => ((R.ok (.val (.typ "tuple")) S460).bind fun p463 S464 => (R.ok [] S464).bind fun l465 S466 => .ok (p463 :: l465) S466).bind fun l461 S462 => .ok (p459 :: l461) S462).bind isiF).bind truF).bind fun k S1 => if k = true then ((fun ρ S => (((((rdSl (ρ[0]?) S).bind fun p469 S470 => ((rdSl (ρ[1]?) S470).bind fun p473 S474 => (R.ok [] S474).bind fun l475 S476 => .ok (p473 :: l475) S476).bind fun l471 S472 => .ok (p469 :: l471) S472).bind fun r467 S468 => callF 2 f__law_rows_before r467 S468).bind fun p477 S478 => ((((rdSl (ρ[1]?) S478).bind fun p483 S484 => ((rdSl (ρ[0]?) S484).bind fun p487 S488 => (R.ok [] S488).bind fun l489 S490 => .ok (p487 :: l489) S490).bind fun l485 S486 => .ok (p483 :: l485) S486).bind fun r481 S482 => callF 2 f__law_rows_before r481 S482).bind fun p491 S492 => ((R.ok (.val (.bl false)) S492).bind fun p495 S496 => (R.ok [] S496).bind fun l497 S498 => .ok (p495 :: l497) S498).bind fun l493 S494 => .ok (p491 :: l493) S494).bind fun l479 S480 => .ok (p477 :: l479) S480).bind lstF).bind (setF ρ 3))) ρ S1 else ((fun ρ S => (((((rdSl (ρ[0]?) S).bind fun p501 S502 => ((rdSl (ρ[1]?) S502).bind fun p505 S506 => (R.ok [] S506).bind fun l507 S508 => .ok (p505 :: l507) S508).bind fun l503 S504 => .ok (p501 :: l503) S504).bind fun r499 S500 => callF 2 f__law_before r499 S500).bind fun p509 S510 => ((((rdSl (ρ[1]?) S510).bind fun p515 S516 => ((rdSl (ρ[0]?) S516).bind fun p519 S520 => (R.ok [] S520).bind fun l521 S522 => .ok (p519 :: l521) S522).bind fun l517 S518 => .ok (p515 :: l517) S518).bind fun r513 S514 => callF 2 f__law_before r513 S514).bind fun p523 S524 => ((R.ok (.val (.bl false)) S524).bind fun p527 S528 => (R.ok [] S528).bind fun l529 S530 => .ok (p527 :: l529) S530).bind fun l525 S526 => .ok (p523 :: l525) S526).bind fun l511 S512 => .ok (p509 :: l511) S512).bind lstF).bind (setF ρ 3))) ρ S1)
noncomputable def F__law_right_3 : Rho → Sto → R Fl := (fun ρ S => (((rdSl (ρ[2]?) S).bind fun p531 S532 => (rdSl (ρ[3]?) S532).bind fun q533 S534 => eqF p531 q533 S534).bind fun p535 S536 => andF p535 S536 fun S537 => ((((rdSl (ρ[2]?) S537).bind itL).bind fun k538 S539 => if k538.ds.length < 1000000 then (compF (gNm 0) C__law_right_1_c C__law_right_1_e (blk 1 [] ρ) k538.gs k538.ds S539).bind fun o540 S541 => .ok (.new o540) S541 else .no).bind fun p552 S553 => ((R.ok [] S553).bind lstF).bind fun q554 S555 => eqF p552 q554 S555)).bind fun r S1 => .ok (.ret r) S1)
noncomputable def F__law_right : Rho → Sto → R Fl := seqF F__law_right_1 (seqF F__law_right_2 (F__law_right_3))
noncomputable def f__law_right (ds : List MV) (S : Sto) : R Er := finF (F__law_right (startR ["_law_one", "_law_other", "_law_told", "_law_due"] ds) S)
noncomputable def B_law_1_1 : Rho → Sto → R Fl := (fun ρ S => ((rdSl (ρ[1]?) S).bind fun p578 S579 => (((rdSl (ρ[2]?) S579).bind fun p584 S585 => (R.ok [] S585).bind fun l586 S587 => .ok (p584 :: l586) S587).bind fun r582 S583 => callF 1 f__law_values r582 S583).bind fun q580 S581 => addF p578 q580 S581).bind (setF ρ 1))
noncomputable def B_law_1 : Rho → Sto → R Fl := B_law_1_1
noncomputable def C_law_3_c : Rho → Sto → R Bool := fun ρ S => (R.ok true S)
noncomputable def C_law_3_e : Rho → Sto → R Er := fun ρ S => ((rdSl (ρ[1]?) S).bind fun p666 S667 => (((rdSl (ρ[2]?) S667).bind fun p670 S671 => (rdSl (ρ[0]?) S671).bind fun q672 S673 => addF p670 q672 S673).bind fun p674 S675 => (((rdSl (ρ[1]?) S675).bind fun p678 S679 => (R.ok [] S679).bind fun l680 S681 => .ok (p678 :: l680) S681).bind lenF).bind fun q676 S677 => modF p674 q676 S677).bind fun q668 S669 => ixF p666 q668 S669)
noncomputable def C_law_4_c : Rho → Sto → R Bool := fun ρ S => (R.ok true S)
noncomputable def C_law_4_e : Rho → Sto → R Er := fun ρ S => ((rdSl (ρ[1]?) S).bind fun p702 S703 => ((((rdSl (ρ[2]?) S703).bind fun p706 S707 => (rdSl (ρ[2]?) S707).bind fun q708 S709 => mulF p706 q708 S709).bind fun p710 S711 => (rdSl (ρ[0]?) S711).bind fun q712 S713 => addF p710 q712 S713).bind fun p714 S715 => (((rdSl (ρ[1]?) S715).bind fun p718 S719 => (R.ok [] S719).bind fun l720 S721 => .ok (p718 :: l720) S721).bind lenF).bind fun q716 S717 => modF p714 q716 S717).bind fun q704 S705 => ixF p702 q704 S705)
noncomputable def B_law_2_1 : Rho → Sto → R Fl := (fun ρ S => ((rdSl (ρ[1]?) S).bind fun p596 S597 => (((rdSl (ρ[3]?) S597).bind fun p600 S601 => (rdSl (ρ[3]?) S601).bind fun q602 S603 => mulF p600 q602 S603).bind fun p604 S605 => (((rdSl (ρ[1]?) S605).bind fun p608 S609 => (R.ok [] S609).bind fun l610 S611 => .ok (p608 :: l610) S611).bind lenF).bind fun q606 S607 => modF p604 q606 S607).bind fun q598 S599 => ixF p596 q598 S599).bind (setF ρ 4))
noncomputable def B_law_2_2 : Rho → Sto → R Fl := (fun ρ S => (((((((rdSl (ρ[1]?) S).bind fun p614 S615 => (rdSl (ρ[3]?) S615).bind fun q616 S617 => ixF p614 q616 S617).bind fun p618 S619 => (((rdSl (ρ[1]?) S619).bind fun p622 S623 => ((rdSl (ρ[3]?) S623).bind fun p626 S627 => (R.ok (.val (.int 1)) S627).bind fun q628 S629 => subF p626 q628 S629).bind fun q624 S625 => ixF p622 q624 S625).bind fun p630 S631 => (R.ok [] S631).bind fun l632 S633 => .ok (p630 :: l632) S633).bind fun l620 S621 => .ok (p618 :: l620) S621).bind fun r612 S613 => callF 2 f__law_right r612 S613).bind truF).bind fun k634 S635 => .ok (!k634) S635).bind fun k636 S637 => if k636 = true then .ok true S637 else ((((((rdSl (ρ[1]?) S637).bind fun p640 S641 => (rdSl (ρ[3]?) S641).bind fun q642 S643 => ixF p640 q642 S643).bind fun p644 S645 => ((rdSl (ρ[4]?) S645).bind fun p648 S649 => (R.ok [] S649).bind fun l650 S651 => .ok (p648 :: l650) S651).bind fun l646 S647 => .ok (p644 :: l646) S647).bind fun r638 S639 => callF 2 f__law_right r638 S639).bind truF).bind fun k652 S653 => .ok (!k652) S653)).bind fun k S1 => if k = true then ((fun ρ S => (R.ok (.val (.bl false)) S).bind fun r S1 => .ok (.ret r) S1)) ρ S1 else (fun ρ S => .ok (.next ρ) S) ρ S1)
noncomputable def B_law_2_3 : Rho → Sto → R Fl := (fun ρ S => ((rdSl (ρ[3]?) S).bind fun p654 S655 => (R.ok (.val (.int 5)) S655).bind fun q656 S657 => modF p654 q656 S657).bind (setF ρ 5))
noncomputable def B_law_2_4 : Rho → Sto → R Fl := (fun ρ S => ((((((rdSl (ρ[5]?) S).bind fun p658 S659 => (R.ok [] S659).bind fun l660 S661 => .ok (p658 :: l660) S661).bind rng1F).bind fun k662 S663 => if k662.ds.length < 1000000 then (compF (gNm 0) C_law_3_c C_law_3_e (blk 1 [1, 3] ρ) k662.gs k662.ds S663).bind fun o664 S665 => .ok (.new o664) S665 else .no).bind fun p682 S683 => (R.ok [] S683).bind fun l684 S685 => .ok (p682 :: l684) S685).bind tupleF).bind (setF ρ 6))
noncomputable def B_law_2_5 : Rho → Sto → R Fl := (fun ρ S => (((((rdSl (ρ[5]?) S).bind fun p686 S687 => (R.ok (.val (.int 2)) S687).bind fun q688 S689 => divF p686 q688 S689).bind fun p690 S691 => ((rdSl (ρ[5]?) S691).bind fun p694 S695 => (R.ok [] S695).bind fun l696 S697 => .ok (p694 :: l696) S697).bind fun l692 S693 => .ok (p690 :: l692) S693).bind rng2F).bind fun k698 S699 => if k698.ds.length < 1000000 then (compF (gNm 0) C_law_4_c C_law_4_e (blk 1 [1, 3] ρ) k698.gs k698.ds S699).bind fun o700 S701 => .ok (.new o700) S701 else .no).bind (setF ρ 7))
noncomputable def B_law_2_6 : Rho → Sto → R Fl := (fun ρ S => (((rdSl (ρ[6]?) S).bind fun p722 S723 => (R.ok none S723).bind fun l724 S725 => (((rdSl (ρ[5]?) S725).bind fun p728 S729 => (R.ok (.val (.int 2)) S729).bind fun q730 S731 => divF p728 q730 S731).bind asI).bind fun u726 S727 => cutF p722 l724 u726 S727).bind fun p732 S733 => (((rdSl (ρ[7]?) S733).bind fun p736 S737 => (R.ok [] S737).bind fun l738 S739 => .ok (p736 :: l738) S739).bind tupleF).bind fun q734 S735 => addF p732 q734 S735).bind (setF ρ 8))
noncomputable def B_law_2_7 : Rho → Sto → R Fl := (fun ρ S => (((((rdSl (ρ[6]?) S).bind fun p742 S743 => ((rdSl (ρ[8]?) S743).bind fun p746 S747 => (R.ok [] S747).bind fun l748 S749 => .ok (p746 :: l748) S749).bind fun l744 S745 => .ok (p742 :: l744) S745).bind fun r740 S741 => callF 2 f__law_right r740 S741).bind truF).bind fun k750 S751 => .ok (!k750) S751).bind fun k S1 => if k = true then ((fun ρ S => (R.ok (.val (.bl false)) S).bind fun r S1 => .ok (.ret r) S1)) ρ S1 else (fun ρ S => .ok (.next ρ) S) ρ S1)
noncomputable def B_law_2 : Rho → Sto → R Fl := seqF B_law_2_1 (seqF B_law_2_2 (seqF B_law_2_3 (seqF B_law_2_4 (seqF B_law_2_5 (seqF B_law_2_6 (B_law_2_7))))))
noncomputable def F_law_1 : Rho → Sto → R Fl := (fun ρ S => ((R.ok [] S).bind lstF).bind (setF ρ 1))
noncomputable def F_law_2 : Rho → Sto → R Fl := (fun ρ S => ((((rdSl (ρ[0]?) S).bind fun p556 S557 => (R.ok none S557).bind fun l558 S559 => ((R.ok (.val (.int 24)) S559).bind asI).bind fun u560 S561 => cutF p556 l558 u560 S561).bind fun p562 S563 => (((R.ok (.val (.int 3)) S563).bind fun p566 S567 => ((R.ok (.val (.int 5)) S567).bind fun p570 S571 => ((R.ok (.val (.int 7)) S571).bind fun p574 S575 => (R.ok [] S575).bind fun l576 S577 => .ok (p574 :: l576) S577).bind fun l572 S573 => .ok (p570 :: l572) S573).bind fun l568 S569 => .ok (p566 :: l568) S569).bind lstF).bind fun q564 S565 => addF p562 q564 S565).bind itL).bind fun k S1 => forF (gNm 2) B_law_1 k.gs k.ds ρ S1)
noncomputable def F_law_3 : Rho → Sto → R Fl := (fun ρ S => (((((rdSl (ρ[1]?) S).bind fun p588 S589 => (R.ok [] S589).bind fun l590 S591 => .ok (p588 :: l590) S591).bind lenF).bind fun p592 S593 => (R.ok [] S593).bind fun l594 S595 => .ok (p592 :: l594) S595).bind rng1F).bind fun k S1 => forF (gNm 3) B_law_2 k.gs k.ds ρ S1)
noncomputable def F_law_4 : Rho → Sto → R Fl := (fun ρ S => (R.ok (.val (.bl true)) S).bind fun r S1 => .ok (.ret r) S1)
noncomputable def F_law : Rho → Sto → R Fl := seqF F_law_1 (seqF F_law_2 (seqF F_law_3 (F_law_4)))
noncomputable def f_law (ds : List MV) (S : Sto) : R Er := finF (F_law (startR ["_law_script", "_law_values_here", "_law_cell", "_law_k", "_law_far", "_law_many", "_law_one", "_law_more", "_law_other"] ds) S)

/-! ### a name drawn by a cell -/
def abc : List Nat := [97, 98, 99, 100, 101, 102, 103, 104, 105, 106, 107, 108, 109, 110, 111, 112, 113, 114, 115, 116, 117, 118, 119, 120, 121, 122]
theorem name_turn (c n : Int) (x : List Nat) (s : Option MV) (S : Sto) (h : x.length ≤ 1000) : ∃ k, (97 ≤ k ∧ k ≤ 122) ∧ B__law_name_1 [some (.int c), some (.str abc), some (.int n), some (.str x), s] S =
    .ok (.next [some (.int c), some (.str abc), some (.int (n / 26)), some (.str (x ++ [k])), s]) S := by
  obtain ⟨k, hk⟩ := atI_pos (xs := abc) (i := n % 26) (Int.emod_nonneg _ (by decide)) (by have := Int.emod_lt_of_pos n (show (0 : Int) < 26 by decide); show n % 26 < 26; exact this)
  refine ⟨k, atI_all (P := fun k => 97 ≤ k ∧ k ≤ 122) (by decide) hk, ?_⟩
  have h1 : B__law_name_1_1 [some (.int c), some (.str abc), some (.int n), some (.str x), s] S = .ok (.next [some (.int c), some (.str abc), some (.int n), some (.str (x ++ [k])), s]) S := by
    unfold B__law_name_1_1
    simp only [List.getElem?_cons_zero, List.getElem?_cons_succ, rd_some, bok, as_int, as_bl, tru_bl, add_int, sub_int, eq_int, ib_int, lst0, lst1, lst2, lst3, lst6, tup2, tup3, isi_is, isi_ss, isi_it, isi_st, isi_tt, isi_bb, set_val, set_new, List.set_cons_zero, List.set_cons_succ, if_true, ent_val, ent_nil, mod_lit (show (0 : Int) < 26 by decide), ix_str (show abc.length ≤ sizeLine by rw [sizeLine_eq]; decide) hk]
    rw [add_str (fits (by rw [List.length_singleton]; omega))]
    rfl
  have h2 : B__law_name_1_2 [some (.int c), some (.str abc), some (.int n), some (.str (x ++ [k])), s] S = .ok (.next [some (.int c), some (.str abc), some (.int (n / 26)), some (.str (x ++ [k])), s]) S := by
    unfold B__law_name_1_2
    simp only [List.getElem?_cons_zero, List.getElem?_cons_succ, rd_some, bok, as_int, as_bl, tru_bl, add_int, sub_int, eq_int, ib_int, lst0, lst1, lst2, lst3, lst6, tup2, tup3, isi_is, isi_ss, isi_it, isi_st, isi_tt, isi_bb, set_val, set_new, List.set_cons_zero, List.set_cons_succ, if_true, ent_val, ent_nil, div_lit (show (0 : Int) < 26 by decide) (show (26 : Int) < 1073741824 by decide)]
  unfold B__law_name_1
  rw [seq_next h1, h2]
theorem name_loop (c : Int) (S : Sto) : ∀ (ds : List MV) (n : Int) (x : List Nat) (s : Option MV), x.length + ds.length ≤ 1000 → (∀ c ∈ x, 97 ≤ c ∧ c ≤ 122) → ∃ n' x' s', forF (gNm 4) B__law_name_1 [] ds [some (.int c), some (.str abc), some (.int n), some (.str x), s] S =
    .ok (.next [some (.int c), some (.str abc), some (.int n'), some (.str x'), s']) S ∧ x'.length = x.length + ds.length ∧ ∀ c ∈ x', 97 ≤ c ∧ c ≤ 122
  | [], n, x, s, _, hx => ⟨n, x, s, rfl, rfl, hx⟩
  | d :: ds, n, x, s, h, hx => by
    rw [List.length_cons] at h
    obtain ⟨k, hl, hk⟩ := name_turn c n x (some d) S (by omega)
    obtain ⟨n', x', s', h1, h2, h3⟩ := name_loop c S ds (n / 26) (x ++ [k]) (some d) (by rw [List.length_append, List.length_singleton]; omega) (by
      intro c hc
      rw [List.mem_append, List.mem_singleton] at hc
      rcases hc with hc | rfl
      · exact hx c hc
      · exact hl)
    refine ⟨n', x', s', ?_, by rw [h2, List.length_append, List.length_singleton, List.length_cons]; omega, h3⟩
    rw [for_next rfl hk (stay0 S)]
    exact h1
theorem name_ok (c : Int) (S : Sto) : ∃ x, f__law_name [.int c] S = .ok (.val (.str x)) S ∧ Nm x := by
  have hm0 : 0 ≤ c % 8 := Int.emod_nonneg _ (by decide)
  have hm1 : c % 8 < 8 := Int.emod_lt_of_pos _ (by decide)
  have hn : ((List.range (1 + c % 8).toNat).map fun k => MV.int (k : Nat)).length = (1 + c % 8).toNat := by rw [List.length_map, List.length_range]
  obtain ⟨n', x', s', h1, h2, h3⟩ := name_loop c S ((List.range (1 + c % 8).toNat).map fun k => MV.int (k : Nat)) (c / 8) [] none (by rw [hn]; simp only [List.length_nil]; omega) (by simp)
  rw [hn, List.length_nil] at h2
  refine ⟨x', ?_, by omega, by omega, h3⟩
  have e1 : F__law_name_1 [some (.int c), none, none, none, none] S = .ok (.next [some (.int c), some (.str abc), none, none, none]) S := rfl
  have e2 : F__law_name_2 [some (.int c), some (.str abc), none, none, none] S = .ok (.next [some (.int c), some (.str abc), some (.int (c / 8)), none, none]) S := by
    unfold F__law_name_2
    simp only [List.getElem?_cons_zero, List.getElem?_cons_succ, rd_some, bok, as_int, as_bl, tru_bl, add_int, sub_int, eq_int, ib_int, lst0, lst1, lst2, lst3, lst6, tup2, tup3, isi_is, isi_ss, isi_it, isi_st, isi_tt, isi_bb, set_val, set_new, List.set_cons_zero, List.set_cons_succ, if_true, ent_val, ent_nil, div_lit (show (0 : Int) < 8 by decide) (show (8 : Int) < 1073741824 by decide)]
  have e3 : F__law_name_3 [some (.int c), some (.str abc), some (.int (c / 8)), none, none] S = .ok (.next [some (.int c), some (.str abc), some (.int (c / 8)), some (.str []), none]) S := rfl
  have e4 : F__law_name_4 [some (.int c), some (.str abc), some (.int (c / 8)), some (.str []), none] S = .ok (.next [some (.int c), some (.str abc), some (.int n'), some (.str x'), s']) S := by
    unfold F__law_name_4
    simp only [List.getElem?_cons_zero, List.getElem?_cons_succ, rd_some, bok, as_int, as_bl, tru_bl, add_int, sub_int, eq_int, ib_int, lst0, lst1, lst2, lst3, lst6, tup2, tup3, isi_is, isi_ss, isi_it, isi_st, isi_tt, isi_bb, set_val, set_new, List.set_cons_zero, List.set_cons_succ, if_true, ent_val, ent_nil, mod_lit (show (0 : Int) < 8 by decide)]
    rw [rng_ok (by omega), bok]
    exact h1
  have hs : startR ["_law_cell", "_law_letters", "_law_number", "_law_name_here", "_law_k"] [.int c] = [some (.int c), none, none, none, none] := rfl
  unfold f__law_name F__law_name
  rw [hs, seq_next e1, seq_next e2, seq_next e3, seq_next e4]
  rfl

/-! ### a value drawn by a cell -/
theorem p1030 (S : Sto) : powF (.val (.int 10)) (.val (.int 30)) S = .ok (.val (.int (10 ^ 30))) S := rfl
theorem p1012 (S : Sto) : powF (.val (.int 10)) (.val (.int 12)) S = .ok (.val (.int 1000000000000)) S := rfl
theorem p1029 (S : Sto) : powF (.val (.int 10)) (.val (.int 29)) S = .ok (.val (.int (10 ^ 29))) S := rfl
abbrev V2 (c r : Int) : Rho := [some (.int c), some (.int r)]
theorem val2 (c r : Int) (S : Sto) : ∃ d, Vl d ∧ F__law_value_2 (V2 c r) S = if decide (c % 5 = 0) = true then .ok (.ret (.val d)) S else .ok (.next (V2 c r)) S := by
  have h0 : 0 ≤ r % 6 := Int.emod_nonneg _ (by decide)
  have h1 : r % 6 < 6 := Int.emod_lt_of_pos _ (by decide)
  obtain ⟨e, he⟩ := atI_pos (xs := [MV.int 0, MV.int 1, MV.int (-1), MV.int (10 ^ 30 - 1), MV.int (1 - 10 ^ 30), MV.int (10 ^ 29)]) (i := r % 6) h0 (by show r % 6 < 6; exact h1)
  obtain ⟨v, rfl, hv⟩ : ∃ v, e = .int v ∧ Vl (.int v) := atI_all (P := fun e => ∃ v, e = .int v ∧ Vl (.int v)) (by
    intro e he; simp only [List.mem_cons, List.not_mem_nil, or_false] at he
    rcases he with rfl | rfl | rfl | rfl | rfl | rfl <;> exact ⟨_, rfl, by decide, by decide⟩) he
  refine ⟨.int v, hv, ?_⟩
  unfold F__law_value_2
  simp only [List.getElem?_cons_zero, List.getElem?_cons_succ, rd_some, bok, as_int, as_bl, tru_bl, add_int, sub_int, eq_int, ib_int, lst0, lst1, lst2, lst3, lst6, tup2, tup3, isi_is, isi_ss, isi_it, isi_st, isi_tt, isi_bb, set_val, set_new, List.set_cons_zero, List.set_cons_succ, if_true, ent_val, ent_nil, mod_lit (show (0 : Int) < 5 by decide), p1030, p1029, mod_lit (show (0 : Int) < 6 by decide), ix_new he]
theorem val3 (c r : Int) (S : Sto) : ∃ d, Vl d ∧ F__law_value_3 (V2 c r) S = if decide (c % 5 = 1) = true then .ok (.ret (.val d)) S else .ok (.next (V2 c r)) S := by
  have h0 : 0 ≤ r % 23 := Int.emod_nonneg _ (by decide)
  have h1 : r % 23 < 23 := Int.emod_lt_of_pos _ (by decide)
  refine ⟨.int (r % 23 - 11), ⟨by omega, by omega⟩, ?_⟩
  unfold F__law_value_3
  simp only [List.getElem?_cons_zero, List.getElem?_cons_succ, rd_some, bok, as_int, as_bl, tru_bl, add_int, sub_int, eq_int, ib_int, lst0, lst1, lst2, lst3, lst6, tup2, tup3, isi_is, isi_ss, isi_it, isi_st, isi_tt, isi_bb, set_val, set_new, List.set_cons_zero, List.set_cons_succ, if_true, ent_val, ent_nil, mod_lit (show (0 : Int) < 5 by decide), mod_lit (show (0 : Int) < 23 by decide)]
theorem val4 (c r : Int) (S : Sto) : ∃ d, Vl d ∧ F__law_value_4 (V2 c r) S = if decide (c % 5 = 2) = true then .ok (.ret (.val d)) S else .ok (.next (V2 c r)) S := by
  have h0 : 0 ≤ r % 1000000000000 := Int.emod_nonneg _ (by decide)
  have h1 : r % 1000000000000 < 1000000000000 := Int.emod_lt_of_pos _ (by decide)
  have h2 : 0 ≤ (r % 1000000000000 * 48271 + 11) ^ (5 : Int).toNat % (2 * 10 ^ 30 - 1) := Int.emod_nonneg _ (by decide)
  have h3 : (r % 1000000000000 * 48271 + 11) ^ (5 : Int).toNat % (2 * 10 ^ 30 - 1) < 2 * 10 ^ 30 - 1 := Int.emod_lt_of_pos _ (by decide)
  have h4 : powC (r % 1000000000000 * 48271 + 11) 5 := by
    refine ⟨by decide, ?_⟩
    have hb : Builtin.Int.intBits (r % 1000000000000 * 48271 + 11) ≤ 64 := by
      unfold Builtin.Int.intBits
      split
      · omega
      · rename_i hn
        have hn' : (r % 1000000000000 * 48271 + 11).natAbs ≠ 0 := by omega
        have := (Nat.log2_lt hn').mpr (show (r % 1000000000000 * 48271 + 11).natAbs < 2 ^ 63 by omega)
        omega
    omega
  refine ⟨.int ((r % 1000000000000 * 48271 + 11) ^ (5 : Int).toNat % (2 * 10 ^ 30 - 1) - 10 ^ 30 + 1), ⟨by omega, by omega⟩, ?_⟩
  unfold F__law_value_4
  simp only [List.getElem?_cons_zero, List.getElem?_cons_succ, rd_some, bok, as_int, as_bl, tru_bl, add_int, sub_int, eq_int, ib_int, lst0, lst1, lst2, lst3, lst6, tup2, tup3, isi_is, isi_ss, isi_it, isi_st, isi_tt, isi_bb, set_val, set_new, List.set_cons_zero, List.set_cons_succ, if_true, ent_val, ent_nil, mod_lit (show (0 : Int) < 5 by decide), p1012, mod_lit (show (0 : Int) < 1000000000000 by decide), mul_lit (show -(2 ^ 64) < (48271 : Int) ∧ (48271 : Int) < 2 ^ 64 by decide), pow_lit h4, p1030, mul_litL (show -(2 ^ 64) < (2 : Int) ∧ (2 : Int) < 2 ^ 64 by decide), mod_lit (show (0 : Int) < 2 * 10 ^ 30 - 1 by decide)]
theorem val5 (c r : Int) (S : Sto) : ∃ d, Vl d ∧ F__law_value_5 (V2 c r) S = if decide (c % 5 = 3) = true then .ok (.ret (.val d)) S else .ok (.next (V2 c r)) S := by
  have h2 : 0 ≤ r % (2 * 10 ^ 30 - 1) := Int.emod_nonneg _ (by decide)
  have h3 : r % (2 * 10 ^ 30 - 1) < 2 * 10 ^ 30 - 1 := Int.emod_lt_of_pos _ (by decide)
  refine ⟨.int (r % (2 * 10 ^ 30 - 1) - 10 ^ 30 + 1), ⟨by omega, by omega⟩, ?_⟩
  unfold F__law_value_5
  simp only [List.getElem?_cons_zero, List.getElem?_cons_succ, rd_some, bok, as_int, as_bl, tru_bl, add_int, sub_int, eq_int, ib_int, lst0, lst1, lst2, lst3, lst6, tup2, tup3, isi_is, isi_ss, isi_it, isi_st, isi_tt, isi_bb, set_val, set_new, List.set_cons_zero, List.set_cons_succ, if_true, ent_val, ent_nil, mod_lit (show (0 : Int) < 5 by decide), p1030, mul_litL (show -(2 ^ 64) < (2 : Int) ∧ (2 : Int) < 2 ^ 64 by decide), mod_lit (show (0 : Int) < 2 * 10 ^ 30 - 1 by decide)]
theorem val6 (c r : Int) (S : Sto) : ∃ d, Vl d ∧ F__law_value_6 (V2 c r) S = .ok (.ret (.val d)) S := by
  obtain ⟨x, hx, hn⟩ := name_ok r S
  refine ⟨.str x, hn, ?_⟩
  unfold F__law_value_6
  have hc : callF 1 f__law_name [.val (.int r)] S = .ok (.val (.str x)) S := call_pure rfl hx (lo_str _ x) (fun l => by simp)
  simp only [List.getElem?_cons_zero, List.getElem?_cons_succ, rd_some, bok, as_int, as_bl, tru_bl, add_int, sub_int, eq_int, ib_int, lst0, lst1, lst2, lst3, lst6, tup2, tup3, isi_is, isi_ss, isi_it, isi_st, isi_tt, isi_bb, set_val, set_new, List.set_cons_zero, List.set_cons_succ, if_true, ent_val, ent_nil, hc]
theorem or_next {F G : Rho → Sto → R Fl} {ρ : Rho} {S : Sto} {d : MV} {b : Bool} (h : F ρ S = if b = true then .ok (.ret (.val d)) S else .ok (.next ρ) S) (hd : Vl d) (k : ∃ d, Vl d ∧ G ρ S = .ok (.ret (.val d)) S) : ∃ d, Vl d ∧ seqF F G ρ S = .ok (.ret (.val d)) S := by
  cases b with
  | true => exact ⟨d, hd, seq_ret (by rw [h, if_pos rfl])⟩
  | false =>
    obtain ⟨d', hd', e⟩ := k
    exact ⟨d', hd', by rw [seq_next (by rw [h, if_neg Bool.false_ne_true]), e]⟩
theorem drawn_ok (c : Int) (S : Sto) : ∃ d, f__law_value [.int c] S = .ok (.val d) S ∧ Vl d := by
  have hs : startR ["_law_cell", "_law_rest"] [.int c] = [some (.int c), none] := rfl
  have e1 : F__law_value_1 [some (.int c), none] S = .ok (.next (V2 c (c / 5))) S := by
    unfold F__law_value_1
    simp only [List.getElem?_cons_zero, List.getElem?_cons_succ, rd_some, bok, as_int, as_bl, tru_bl, add_int, sub_int, eq_int, ib_int, lst0, lst1, lst2, lst3, lst6, tup2, tup3, isi_is, isi_ss, isi_it, isi_st, isi_tt, isi_bb, set_val, set_new, List.set_cons_zero, List.set_cons_succ, if_true, ent_val, ent_nil, div_lit (show (0 : Int) < 5 by decide) (show (5 : Int) < 1073741824 by decide)]
  obtain ⟨d2, v2, e2⟩ := val2 c (c / 5) S
  obtain ⟨d3, v3, e3⟩ := val3 c (c / 5) S
  obtain ⟨d4, v4, e4⟩ := val4 c (c / 5) S
  obtain ⟨d5, v5, e5⟩ := val5 c (c / 5) S
  obtain ⟨d, hd, e⟩ := or_next e2 v2 (or_next e3 v3 (or_next e4 v4 (or_next e5 v5 (val6 c (c / 5) S))))
  refine ⟨d, ?_, hd⟩
  unfold f__law_value F__law_value
  rw [hs, seq_next e1, e]
  rfl

/-! ### the rank of a value -/
def rk : MV → MV
  | .str x => .tup [.int 1, .int 0, .str x]
  | d => .tup [.int 0, d, .str []]
def bef : MV → MV → Bool
  | .int i, .int j => decide (i < j)
  | .str x, .str y => decide (x < y)
  | .int _, .str _ => true
  | _, _ => false
def same : MV → MV → Bool
  | .int i, .int j => decide (i = j)
  | .str x, .str y => decide (x = y)
  | _, _ => false
def rows : List MV → List MV → Bool
  | d :: ds, e :: es => if same d e = true then rows ds es else bef d e
  | _, _ => false
theorem rk_lo {d : MV} (h : Vl d) (n : Nat) : lo n (rk d) := by
  rcases h.cases with ⟨i, rfl, _⟩ | ⟨x, rfl, _⟩
  · exact lo_tup (loL_of (by intro e he; simp at he; rcases he with rfl | rfl | rfl <;> first | exact lo_int _ _ | exact lo_str _ _))
  · exact lo_tup (loL_of (by intro e he; simp at he; rcases he with rfl | rfl | rfl <;> first | exact lo_int _ _ | exact lo_str _ _))
theorem rk_noloc (d : MV) (l : Nat) : rk d ≠ .loc l := by cases d <;> (intro h; cases h)
theorem f_rank {d : MV} (h : Vl d) (S : Sto) : f_value_rank [d] S = .ok (.val (rk d)) S := by
  have hs : startR ["value"] [d] = [some d] := rfl
  rcases h.cases with ⟨i, rfl, _⟩ | ⟨x, rfl, _⟩
  · have e1 : F_value_rank_1 [some (.int i)] S = .ok (.next [some (.int i)]) S := by
      unfold F_value_rank_1
      simp only [List.getElem?_cons_zero, List.getElem?_cons_succ, rd_some, bok, as_int, as_bl, tru_bl, add_int, sub_int, eq_int, ib_int, lst0, lst1, lst2, lst3, lst6, tup2, tup3, isi_is, isi_ss, isi_it, isi_st, isi_tt, isi_bb, set_val, set_new, List.set_cons_zero, List.set_cons_succ, if_true, ent_val, ent_nil]
      rfl
    unfold f_value_rank F_value_rank
    rw [hs, seq_next e1]
    unfold F_value_rank_2
    simp only [List.getElem?_cons_zero, List.getElem?_cons_succ, rd_some, bok, as_int, as_bl, tru_bl, add_int, sub_int, eq_int, ib_int, lst0, lst1, lst2, lst3, lst6, tup2, tup3, isi_is, isi_ss, isi_it, isi_st, isi_tt, isi_bb, set_val, set_new, List.set_cons_zero, List.set_cons_succ, if_true, ent_val, ent_nil]
    rfl
  · have e1 : F_value_rank_1 [some (.str x)] S = .ok (.ret (.val (rk (.str x)))) S := by
      unfold F_value_rank_1
      simp only [List.getElem?_cons_zero, List.getElem?_cons_succ, rd_some, bok, as_int, as_bl, tru_bl, add_int, sub_int, eq_int, ib_int, lst0, lst1, lst2, lst3, lst6, tup2, tup3, isi_is, isi_ss, isi_it, isi_st, isi_tt, isi_bb, set_val, set_new, List.set_cons_zero, List.set_cons_succ, if_true, ent_val, ent_nil]
      rfl
    unfold f_value_rank F_value_rank
    rw [hs, seq_ret e1]
    rfl
theorem c_rank {d : MV} (h : Vl d) (S : Sto) : callF 1 f_value_rank [.val d] S = .ok (.val (rk d)) S := call_pure rfl (f_rank h S) (rk_lo h _) (rk_noloc d)
theorem f_trank {ds : List MV} (h : ∀ d ∈ ds, Vl d) (hl : ds.length < 1000000) (S : Sto) : f_tuple_rank [.tup ds] S = .ok (.val (.tup (ds.map rk))) S := by
  have hs : startR ["values"] [.tup ds] = [some (.tup ds)] := rfl
  have hc : compF (gNm 0) C_tuple_rank_1_c C_tuple_rank_1_e (blk 1 [] [some (.tup ds)]) [] ds S = .ok (ds.map rk) S := comp_map (stay0 S) fun d hd => by
    refine ⟨[some d], rfl, rfl, ?_⟩
    unfold C_tuple_rank_1_e
    simp only [List.getElem?_cons_zero, List.getElem?_cons_succ, rd_some, bok, as_int, as_bl, tru_bl, add_int, sub_int, eq_int, ib_int, lst0, lst1, lst2, lst3, lst6, tup2, tup3, isi_is, isi_ss, isi_it, isi_st, isi_tt, isi_bb, set_val, set_new, List.set_cons_zero, List.set_cons_succ, if_true, ent_val, ent_nil, c_rank (h d hd)]
  have e1 : F_tuple_rank_1 [some (.tup ds)] S = .ok (.ret (.val (.tup (ds.map rk)))) S := by
    unfold F_tuple_rank_1
    simp only [List.getElem?_cons_zero, List.getElem?_cons_succ, rd_some, bok, as_int, as_bl, tru_bl, add_int, sub_int, eq_int, ib_int, lst0, lst1, lst2, lst3, lst6, tup2, tup3, isi_is, isi_ss, isi_it, isi_st, isi_tt, isi_bb, set_val, set_new, List.set_cons_zero, List.set_cons_succ, if_true, ent_val, ent_nil]
    show ((((if ds.length < 1000000 then (compF (gNm 0) C_tuple_rank_1_c C_tuple_rank_1_e (blk 1 [] [some (.tup ds)]) [] ds S).bind fun o S => R.ok (Er.new o) S else .no).bind fun p S1 => R.ok [p] S1).bind tupleF).bind fun r S1 => R.ok (Fl.ret r) S1) = _
    rw [if_pos hl, hc]
    rfl
  unfold f_tuple_rank F_tuple_rank
  rw [hs, e1]
  rfl
theorem c_trank {ds : List MV} (h : ∀ d ∈ ds, Vl d) (hl : ds.length < 1000000) (S : Sto) : callF 1 f_tuple_rank [.val (.tup ds)] S = .ok (.val (.tup (ds.map rk))) S := call_pure rfl (f_trank h hl S) (lo_tup (loL_of fun e he => by
  obtain ⟨d, hd, rfl⟩ := List.mem_map.mp he
  exact rk_lo (h d hd) _)) (fun l => by simp)
/-! ### which is ahead -/
theorem lex3 (e l : MV → MV → Option Bool) {a b c a' b' c' : MV} {x y z : Bool} (h1 : e a a' = some x) (h2 : e b b' = some y) (h3 : e c c' = some z) :
    lexv e l [a, b, c] [a', b', c'] = if x = true then (if y = true then (if z = true then some false else l c c') else l b b') else l a a' := by
  unfold lexv
  rw [h1]
  show (if x = true then lexv e l [b, c] [b', c'] else l a a') = _
  unfold lexv
  rw [h2]
  show (if x = true then (if y = true then lexv e l [c] [c'] else l b b') else l a a') = _
  unfold lexv
  rw [h3]
  rfl
theorem rk_lt {S : Sto} {d e : MV} (hd : Vl d) (he : Vl e) (n : Nat) : ltv S (n + 2) (rk d) (rk e) = some (bef d e) := by
  rcases hd.cases with ⟨i, rfl, _⟩ | ⟨x, rfl, _⟩ <;> rcases he.cases with ⟨j, rfl, _⟩ | ⟨y, rfl, _⟩
  · show lexv (eqv S (n + 1)) (ltv S (n + 1)) [.int 0, .int i, .str []] [.int 0, .int j, .str []] = some (decide (i < j))
    rw [lex3 _ _ (eqv_int n 0 0) (eqv_int n i j) (eqv_str n [] [])]
    by_cases h : i = j
    · subst h; simp
    · rw [if_pos (by decide), if_neg (by simpa using h)]; rfl
  · show lexv (eqv S (n + 1)) (ltv S (n + 1)) [.int 0, .int i, .str []] [.int 1, .int 0, .str y] = some true
    rw [lex3 _ _ (eqv_int n 0 1) (eqv_int n i 0) (eqv_str n [] y)]
    rfl
  · show lexv (eqv S (n + 1)) (ltv S (n + 1)) [.int 1, .int 0, .str x] [.int 0, .int j, .str []] = some false
    rw [lex3 _ _ (eqv_int n 1 0) (eqv_int n 0 j) (eqv_str n x [])]
    rfl
  · show lexv (eqv S (n + 1)) (ltv S (n + 1)) [.int 1, .int 0, .str x] [.int 1, .int 0, .str y] = some (decide (x < y))
    rw [lex3 _ _ (eqv_int n 1 1) (eqv_int n 0 0) (eqv_str n x y)]
    by_cases h : x = y
    · subst h; simp
    · rw [if_pos (by decide), if_pos (by decide), if_neg (by simpa using h)]; rfl
theorem prs3 (e : MV → MV → Option Bool) {a b c a' b' c' : MV} {x y z : Bool} (h1 : e a a' = some x) (h2 : e b b' = some y) (h3 : e c c' = some z) : prs e [a, b, c] [a', b', c'] = some [x, y, z] := by
  unfold prs
  rw [h1]
  unfold prs
  rw [h2]
  unfold prs
  rw [h3]
  rfl
theorem rk_eq {S : Sto} {d e : MV} (hd : Vl d) (he : Vl e) (n : Nat) : eqv S (n + 2) (rk d) (rk e) = some (same d e) := by
  rcases hd.cases with ⟨i, rfl, _⟩ | ⟨x, rfl, _⟩ <;> rcases he.cases with ⟨j, rfl, _⟩ | ⟨y, rfl, _⟩
  · show ((prs (eqv S (n + 1)) [.int 0, .int i, .str []] [.int 0, .int j, .str []]).map fun bs => bs.all id && (3 : Nat) == 3) = some (decide (i = j))
    rw [prs3 _ (eqv_int n 0 0) (eqv_int n i j) (eqv_str n [] [])]
    simp
  · show ((prs (eqv S (n + 1)) [.int 0, .int i, .str []] [.int 1, .int 0, .str y]).map fun bs => bs.all id && (3 : Nat) == 3) = some false
    rw [prs3 _ (eqv_int n 0 1) (eqv_int n i 0) (eqv_str n [] y)]
    simp
  · show ((prs (eqv S (n + 1)) [.int 1, .int 0, .str x] [.int 0, .int j, .str []]).map fun bs => bs.all id && (3 : Nat) == 3) = some false
    rw [prs3 _ (eqv_int n 1 0) (eqv_int n 0 j) (eqv_str n x [])]
    simp
  · show ((prs (eqv S (n + 1)) [.int 1, .int 0, .str x] [.int 1, .int 0, .str y]).map fun bs => bs.all id && (3 : Nat) == 3) = some (decide (x = y))
    rw [prs3 _ (eqv_int n 1 1) (eqv_int n 0 0) (eqv_str n x y)]
    simp
theorem v_eq {S : Sto} {d e : MV} (hd : Vl d) (he : Vl e) (n : Nat) : eqv S (n + 1) d e = some (same d e) := by
  rcases hd.cases with ⟨i, rfl, _⟩ | ⟨x, rfl, _⟩ <;> rcases he.cases with ⟨j, rfl, _⟩ | ⟨y, rfl, _⟩
  · exact eqv_int n i j
  · rfl
  · rfl
  · exact eqv_str n x y
theorem rows_lt {S : Sto} (n : Nat) : ∀ {ds es : List MV}, (∀ d ∈ ds, Vl d) → (∀ e ∈ es, Vl e) → ds.length = es.length → lexv (eqv S (n + 2)) (ltv S (n + 2)) (ds.map rk) (es.map rk) = some (rows ds es)
  | [], [], _, _, _ => rfl
  | [], _ :: _, _, _, h => by simp at h
  | _ :: _, [], _, _, h => by simp at h
  | d :: ds, e :: es, hd, he, h => by
    have ih := rows_lt (S := S) n (ds := ds) (es := es) (fun x hx => hd x (List.mem_cons_of_mem _ hx)) (fun x hx => he x (List.mem_cons_of_mem _ hx)) (by simpa using h)
    rw [List.map_cons, List.map_cons]
    unfold lexv rows
    rw [rk_eq (hd d List.mem_cons_self) (he e List.mem_cons_self)]
    show (if same d e = true then lexv (eqv S (n + 2)) (ltv S (n + 2)) (ds.map rk) (es.map rk) else ltv S (n + 2) (rk d) (rk e)) = _
    rw [ih, rk_lt (hd d List.mem_cons_self) (he e List.mem_cons_self)]
    split <;> rfl
theorem f_ahv {d e : MV} (hd : Vl d) (he : Vl e) (S : Sto) : f_ahead [d, e] S = .ok (.val (.bl (bef d e))) S := by
  have hs : startR ["one", "other"] [d, e] = [some d, some e] := rfl
  have e1 : F_ahead_1 [some d, some e] S = .ok (.next [some d, some e]) S := by
    unfold F_ahead_1
    rcases hd.cases with ⟨i, rfl, _⟩ | ⟨x, rfl, _⟩
    · simp only [List.getElem?_cons_zero, List.getElem?_cons_succ, rd_some, bok, as_int, as_bl, tru_bl, add_int, sub_int, eq_int, ib_int, lst0, lst1, lst2, lst3, lst6, tup2, tup3, isi_is, isi_ss, isi_it, isi_st, isi_tt, isi_bb, set_val, set_new, List.set_cons_zero, List.set_cons_succ, if_true, ent_val, ent_nil]
      rfl
    · simp only [List.getElem?_cons_zero, List.getElem?_cons_succ, rd_some, bok, as_int, as_bl, tru_bl, add_int, sub_int, eq_int, ib_int, lst0, lst1, lst2, lst3, lst6, tup2, tup3, isi_is, isi_ss, isi_it, isi_st, isi_tt, isi_bb, set_val, set_new, List.set_cons_zero, List.set_cons_succ, if_true, ent_val, ent_nil]
      rfl
  have e2 : F_ahead_2 [some d, some e] S = .ok (.ret (.val (.bl (bef d e)))) S := by
    unfold F_ahead_2
    simp only [List.getElem?_cons_zero, List.getElem?_cons_succ, rd_some, bok, as_int, as_bl, tru_bl, add_int, sub_int, eq_int, ib_int, lst0, lst1, lst2, lst3, lst6, tup2, tup3, isi_is, isi_ss, isi_it, isi_st, isi_tt, isi_bb, set_val, set_new, List.set_cons_zero, List.set_cons_succ, if_true, ent_val, ent_nil, c_rank hd, c_rank he, lt_val (rk_lt (S := S) hd he 38)]
  unfold f_ahead F_ahead
  rw [hs, seq_next e1, e2]
  rfl
theorem f_aht {ds es : List MV} (hd : ∀ d ∈ ds, Vl d) (he : ∀ e ∈ es, Vl e) (hl : ds.length = es.length) (hm : ds.length < 1000000) (S : Sto) : f_ahead [.tup ds, .tup es] S = .ok (.val (.bl (rows ds es))) S := by
  have hs : startR ["one", "other"] [.tup ds, .tup es] = [some (.tup ds), some (.tup es)] := rfl
  have hlt : ltv S depthE (.tup (ds.map rk)) (.tup (es.map rk)) = some (rows ds es) := rows_lt (S := S) 37 hd he hl
  have e1 : F_ahead_1 [some (.tup ds), some (.tup es)] S = .ok (.ret (.val (.bl (rows ds es)))) S := by
    unfold F_ahead_1
    simp only [List.getElem?_cons_zero, List.getElem?_cons_succ, rd_some, bok, as_int, as_bl, tru_bl, add_int, sub_int, eq_int, ib_int, lst0, lst1, lst2, lst3, lst6, tup2, tup3, isi_is, isi_ss, isi_it, isi_st, isi_tt, isi_bb, set_val, set_new, List.set_cons_zero, List.set_cons_succ, if_true, ent_val, ent_nil, c_trank hd hm, c_trank he (hl ▸ hm), lt_val hlt]
  unfold f_ahead F_ahead
  rw [hs, seq_ret e1]
  rfl
/-! ### what the law holds against it -/
theorem f_bef {d e : MV} (hd : Vl d) (he : Vl e) (S : Sto) : f__law_before [d, e] S = .ok (.val (.bl (bef d e))) S := by
  have hs : startR ["_law_one", "_law_other"] [d, e] = [some d, some e] := rfl
  unfold f__law_before F__law_before
  rw [hs]
  rcases hd.cases with ⟨i, rfl, _⟩ | ⟨x, rfl, _⟩ <;> rcases he.cases with ⟨j, rfl, _⟩ | ⟨y, rfl, _⟩
  · rw [seq_next (show F__law_before_1 [some (.int i), some (.int j)] S = .ok (.next [some (.int i), some (.int j)]) S by unfold F__law_before_1; simp only [List.getElem?_cons_zero, List.getElem?_cons_succ, rd_some, bok, as_int, as_bl, tru_bl, add_int, sub_int, eq_int, ib_int, lst0, lst1, lst2, lst3, lst6, tup2, tup3, isi_is, isi_ss, isi_it, isi_st, isi_tt, isi_bb, set_val, set_new, List.set_cons_zero, List.set_cons_succ, if_true, ent_val, ent_nil, ne_bl]; rfl)]
    rfl
  · rw [seq_ret (show F__law_before_1 [some (.int i), some (.str y)] S = .ok (.ret (.val (.bl true))) S by unfold F__law_before_1; simp only [List.getElem?_cons_zero, List.getElem?_cons_succ, rd_some, bok, as_int, as_bl, tru_bl, add_int, sub_int, eq_int, ib_int, lst0, lst1, lst2, lst3, lst6, tup2, tup3, isi_is, isi_ss, isi_it, isi_st, isi_tt, isi_bb, set_val, set_new, List.set_cons_zero, List.set_cons_succ, if_true, ent_val, ent_nil, ne_bl]; rfl)]
    rfl
  · rw [seq_ret (show F__law_before_1 [some (.str x), some (.int j)] S = .ok (.ret (.val (.bl false))) S by unfold F__law_before_1; simp only [List.getElem?_cons_zero, List.getElem?_cons_succ, rd_some, bok, as_int, as_bl, tru_bl, add_int, sub_int, eq_int, ib_int, lst0, lst1, lst2, lst3, lst6, tup2, tup3, isi_is, isi_ss, isi_it, isi_st, isi_tt, isi_bb, set_val, set_new, List.set_cons_zero, List.set_cons_succ, if_true, ent_val, ent_nil, ne_bl]; rfl)]
    rfl
  · rw [seq_next (show F__law_before_1 [some (.str x), some (.str y)] S = .ok (.next [some (.str x), some (.str y)]) S by unfold F__law_before_1; simp only [List.getElem?_cons_zero, List.getElem?_cons_succ, rd_some, bok, as_int, as_bl, tru_bl, add_int, sub_int, eq_int, ib_int, lst0, lst1, lst2, lst3, lst6, tup2, tup3, isi_is, isi_ss, isi_it, isi_st, isi_tt, isi_bb, set_val, set_new, List.set_cons_zero, List.set_cons_succ, if_true, ent_val, ent_nil, ne_bl]; rfl)]
    rfl
theorem c_bef {d e : MV} (hd : Vl d) (he : Vl e) (S : Sto) : callF 2 f__law_before [.val d, .val e] S = .ok (.val (.bl (bef d e))) S := call_pure rfl (f_bef hd he S) (lo_bl _ _) (fun l => by simp)
theorem rows_loop (S : Sto) (a b : Option MV) : ∀ {ds es : List MV} {x y : Option MV}, (∀ d ∈ ds, Vl d) → (∀ e ∈ es, Vl e) → ds.length = es.length →
    (∃ ρ, forF (gTp 2 (gsCons (gNm 2) (gsCons (gNm 3) gsNil))) B__law_rows_before_1 [] (pairs ds es) [a, b, x, y] S = .ok (.next ρ) S ∧ rows ds es = false) ∨
    forF (gTp 2 (gsCons (gNm 2) (gsCons (gNm 3) gsNil))) B__law_rows_before_1 [] (pairs ds es) [a, b, x, y] S = .ok (.ret (.val (.bl (rows ds es)))) S
  | [], [], x, y, _, _, _ => .inl ⟨_, rfl, rfl⟩
  | [], _ :: _, _, _, _, _, h => by simp at h
  | _ :: _, [], _, _, _, _, h => by simp at h
  | d :: ds, e :: es, x, y, hd, he, h => by
    have ih := rows_loop S a b (ds := ds) (es := es) (x := some d) (y := some e) (fun z hz => hd z (List.mem_cons_of_mem _ hz)) (fun z hz => he z (List.mem_cons_of_mem _ hz)) (by simpa using h)
    have vd := hd d List.mem_cons_self
    have ve := he e List.mem_cons_self
    have hp : pairs (d :: ds) (e :: es) = .tup [d, e] :: pairs ds es := rfl
    rw [hp]
    unfold rows
    cases hk : same d e with
    | true =>
      have hb : B__law_rows_before_1 [a, b, some d, some e] S = .ok (.next [a, b, some d, some e]) S := by
        unfold B__law_rows_before_1 B__law_rows_before_1_1
        simp only [List.getElem?_cons_zero, List.getElem?_cons_succ, rd_some, bok, as_int, as_bl, tru_bl, add_int, sub_int, eq_int, ib_int, lst0, lst1, lst2, lst3, lst6, tup2, tup3, isi_is, isi_ss, isi_it, isi_st, isi_tt, isi_bb, set_val, set_new, List.set_cons_zero, List.set_cons_succ, if_true, ent_val, ent_nil, ne_val (v_eq (S := S) vd ve depthE), hk]
        rfl
      rw [for_next rfl hb (stay0 S), if_pos rfl]
      exact ih
    | false =>
      have hb : B__law_rows_before_1 [a, b, some d, some e] S = .ok (.ret (.val (.bl (bef d e)))) S := by
        unfold B__law_rows_before_1 B__law_rows_before_1_1
        simp only [List.getElem?_cons_zero, List.getElem?_cons_succ, rd_some, bok, as_int, as_bl, tru_bl, add_int, sub_int, eq_int, ib_int, lst0, lst1, lst2, lst3, lst6, tup2, tup3, isi_is, isi_ss, isi_it, isi_st, isi_tt, isi_bb, set_val, set_new, List.set_cons_zero, List.set_cons_succ, if_true, ent_val, ent_nil, ne_val (v_eq (S := S) vd ve depthE), hk, c_bef vd ve]
        rfl
      rw [for_ret rfl hb, if_neg Bool.false_ne_true]
      exact .inr rfl
theorem f_rows {ds es : List MV} (hd : ∀ d ∈ ds, Vl d) (he : ∀ e ∈ es, Vl e) (hl : ds.length = es.length) (S : Sto) : f__law_rows_before [.tup ds, .tup es] S = .ok (.val (.bl (rows ds es))) S := by
  have hs : startR ["_law_one", "_law_other", "_law_here", "_law_there"] [.tup ds, .tup es] = [some (.tup ds), some (.tup es), none, none] := rfl
  have e0 : F__law_rows_before_1 [some (.tup ds), some (.tup es), none, none] S = forF (gTp 2 (gsCons (gNm 2) (gsCons (gNm 3) gsNil))) B__law_rows_before_1 [] (pairs ds es) [some (.tup ds), some (.tup es), none, none] S := by
    unfold F__law_rows_before_1
    simp only [List.getElem?_cons_zero, List.getElem?_cons_succ, rd_some, bok, as_int, as_bl, tru_bl, add_int, sub_int, eq_int, ib_int, lst0, lst1, lst2, lst3, lst6, tup2, tup3, isi_is, isi_ss, isi_it, isi_st, isi_tt, isi_bb, set_val, set_new, List.set_cons_zero, List.set_cons_succ, if_true, ent_val, ent_nil]
    rfl
  unfold f__law_rows_before F__law_rows_before
  rw [hs]
  rcases rows_loop S (some (.tup ds)) (some (.tup es)) (x := none) (y := none) hd he hl with ⟨ρ, h, hf⟩ | h
  · rw [seq_next (e0.trans h), hf]
    rfl
  · rw [seq_ret (e0.trans h)]
    rfl
theorem c_rows {ds es : List MV} (hd : ∀ d ∈ ds, Vl d) (he : ∀ e ∈ es, Vl e) (hl : ds.length = es.length) (S : Sto) : callF 2 f__law_rows_before [.val (.tup ds), .val (.tup es)] S = .ok (.val (.bl (rows ds es))) S := call_pure rfl (f_rows hd he hl S) (lo_bl _ _) (fun l => by simp)
theorem bef_self {d : MV} (hd : Vl d) : bef d d = false := by
  rcases hd.cases with ⟨i, rfl, _⟩ | ⟨x, rfl, _⟩
  · exact decide_eq_false (Int.lt_irrefl i)
  · exact decide_eq_false (List.lt_irrefl x)
theorem same_self {d : MV} (hd : Vl d) : same d d = true := by
  rcases hd.cases with ⟨i, rfl, _⟩ | ⟨x, rfl, _⟩
  · exact decide_eq_true rfl
  · exact decide_eq_true rfl
theorem rows_self : ∀ {ds : List MV}, (∀ d ∈ ds, Vl d) → rows ds ds = false
  | [], _ => rfl
  | d :: ds, h => by
    unfold rows
    rw [if_pos (same_self (h d List.mem_cons_self))]
    exact rows_self fun x hx => h x (List.mem_cons_of_mem _ hx)
theorem c_ahv {d e : MV} (hd : Vl d) (he : Vl e) (S : Sto) : callF 2 f_ahead [.val d, .val e] S = .ok (.val (.bl (bef d e))) S := call_pure rfl (f_ahv hd he S) (lo_bl _ _) (fun l => by simp)
theorem c_aht {ds es : List MV} (hd : ∀ d ∈ ds, Vl d) (he : ∀ e ∈ es, Vl e) (hl : ds.length = es.length) (hm : ds.length < 1000000) (S : Sto) : callF 2 f_ahead [.val (.tup ds), .val (.tup es)] S = .ok (.val (.bl (rows ds es))) S := call_pure rfl (f_aht hd he hl hm S) (lo_bl _ _) (fun l => by simp)
/-- told and due are alike, and nothing but truths is told -/
theorem right3 {one other : MV} {x y z : Bool} (S : Sto) : F__law_right_3 [some one, some other, some (.loc S.length), some (.loc (S.length + 1))] (S ++ [.lst [.bl x, .bl y, .bl z]] ++ [.lst [.bl x, .bl y, .bl z]]) = .ok (.ret (.val (.bl true))) (S ++ [.lst [.bl x, .bl y, .bl z]] ++ [.lst [.bl x, .bl y, .bl z]]) := by
  generalize hT : S ++ [.lst [.bl x, .bl y, .bl z]] ++ [.lst [.bl x, .bl y, .bl z]] = T
  have h0 : T[S.length]? = some (.lst [.bl x, .bl y, .bl z]) := by rw [← hT]; simp
  have h1 : T[S.length + 1]? = some (.lst [.bl x, .bl y, .bl z]) := by rw [← hT]; simp
  have he : eqF (.val (.loc S.length)) (.val (.loc (S.length + 1))) T = .ok (.val (.bl true)) T := by
    refine eq_val ?_
    show ((vwE T (.val (.loc S.length))).bind fun x => (vwE T (.val (.loc (S.length + 1)))).bind fun y => eqW (eqv T depthE) x y) = some true
    have v0 : vwE T (.val (.loc S.length)) = some (.ls [.bl x, .bl y, .bl z]) := by
      show (lsOf T (.val (.loc S.length))).map Vw.ls = _
      rw [lsOf_loc h0]; rfl
    have v1 : vwE T (.val (.loc (S.length + 1))) = some (.ls [.bl x, .bl y, .bl z]) := by
      show (lsOf T (.val (.loc (S.length + 1)))).map Vw.ls = _
      rw [lsOf_loc h1]; rfl
    rw [v0, v1]
    show ((prs (eqv T 40) [.bl x, .bl y, .bl z] [.bl x, .bl y, .bl z]).map fun bs => bs.all id) = some true
    rw [prs3 _ (eqv_bl 39 x x) (eqv_bl 39 y y) (eqv_bl 39 z z)]
    simp
  have hc : compF (gNm 0) C__law_right_1_c C__law_right_1_e (blk 1 [] [some one, some other, some (.loc S.length), some (.loc (S.length + 1))]) [(S.length, [.bl x, .bl y, .bl z])] [.bl x, .bl y, .bl z] T = .ok [] T := comp_none (stay_loc h0) fun d hd => by
    obtain ⟨k, rfl⟩ : ∃ k, d = .bl k := by simp at hd; rcases hd with rfl | rfl | rfl <;> exact ⟨_, rfl⟩
    refine ⟨[some (.bl k)], rfl, ?_⟩
    unfold C__law_right_1_c
    simp only [List.getElem?_cons_zero, List.getElem?_cons_succ, rd_some, bok, as_int, as_bl, tru_bl, add_int, sub_int, eq_int, ib_int, lst0, lst1, lst2, lst3, lst6, tup2, tup3, isi_is, isi_ss, isi_it, isi_st, isi_tt, isi_bb, set_val, set_new, List.set_cons_zero, List.set_cons_succ, if_true, ent_val, ent_nil]
    rfl
  unfold F__law_right_3
  simp only [List.getElem?_cons_zero, List.getElem?_cons_succ, rd_some, bok, as_int, as_bl, tru_bl, add_int, sub_int, eq_int, ib_int, lst0, lst1, lst2, lst3, lst6, tup2, tup3, isi_is, isi_ss, isi_it, isi_st, isi_tt, isi_bb, set_val, set_new, List.set_cons_zero, List.set_cons_succ, if_true, ent_val, ent_nil, he, andF, itL_loc h0]
  rw [if_pos (by simp), hc]
  rfl
theorem right_ok {one other : MV} {x y : Bool} (S : Sto) (h1 : ∀ S, callF 2 f_ahead [.val one, .val other] S = .ok (.val (.bl x)) S) (h2 : ∀ S, callF 2 f_ahead [.val other, .val one] S = .ok (.val (.bl y)) S) (h3 : ∀ S, callF 2 f_ahead [.val one, .val one] S = .ok (.val (.bl false)) S)
    (h4 : ∀ t T, F__law_right_2 [some one, some other, some t, none] T = .ok (.next [some one, some other, some t, some (.loc T.length)]) (T ++ [.lst [.bl x, .bl y, .bl false]])) : callF 2 f__law_right [.val one, .val other] S = .ok (.val (.bl true)) S := by
  refine call_val (T := [.lst [.bl x, .bl y, .bl false], .lst [.bl x, .bl y, .bl false]]) rfl ?_ (lo_bl _ _) (fun l => by simp)
  have hs : startR ["_law_one", "_law_other", "_law_told", "_law_due"] [one, other] = [some one, some other, none, none] := rfl
  have e1 : F__law_right_1 [some one, some other, none, none] S = .ok (.next [some one, some other, some (.loc S.length), none]) (S ++ [.lst [.bl x, .bl y, .bl false]]) := by
    unfold F__law_right_1
    simp only [List.getElem?_cons_zero, List.getElem?_cons_succ, rd_some, bok, as_int, as_bl, tru_bl, add_int, sub_int, eq_int, ib_int, lst0, lst1, lst2, lst3, lst6, tup2, tup3, isi_is, isi_ss, isi_it, isi_st, isi_tt, isi_bb, set_val, set_new, List.set_cons_zero, List.set_cons_succ, if_true, ent_val, ent_nil, h1, h2, h3]
  have e2 := h4 (.loc S.length) (S ++ [.lst [.bl x, .bl y, .bl false]])
  rw [List.length_append, List.length_singleton] at e2
  show f__law_right [one, other] S = _
  unfold f__law_right F__law_right
  rw [hs, seq_next e1, seq_next e2, right3]
  rw [List.append_assoc]
  rfl
theorem right_v {d e : MV} (hd : Vl d) (he : Vl e) (S : Sto) : callF 2 f__law_right [.val d, .val e] S = .ok (.val (.bl true)) S :=
  right_ok S (c_ahv hd he) (c_ahv he hd) (fun S => by rw [c_ahv hd hd, bef_self hd]) fun t T => by
    unfold F__law_right_2
    rcases hd.cases with ⟨i, rfl, _⟩ | ⟨x, rfl, _⟩
    · simp only [List.getElem?_cons_zero, List.getElem?_cons_succ, rd_some, bok, as_int, as_bl, tru_bl, add_int, sub_int, eq_int, ib_int, lst0, lst1, lst2, lst3, lst6, tup2, tup3, isi_is, isi_ss, isi_it, isi_st, isi_tt, isi_bb, set_val, set_new, List.set_cons_zero, List.set_cons_succ, if_true, ent_val, ent_nil, c_bef hd he, c_bef he hd]
      rfl
    · simp only [List.getElem?_cons_zero, List.getElem?_cons_succ, rd_some, bok, as_int, as_bl, tru_bl, add_int, sub_int, eq_int, ib_int, lst0, lst1, lst2, lst3, lst6, tup2, tup3, isi_is, isi_ss, isi_it, isi_st, isi_tt, isi_bb, set_val, set_new, List.set_cons_zero, List.set_cons_succ, if_true, ent_val, ent_nil, c_bef hd he, c_bef he hd]
      rfl
theorem right_t {ds es : List MV} (hd : ∀ d ∈ ds, Vl d) (he : ∀ e ∈ es, Vl e) (hl : ds.length = es.length) (hm : ds.length < 1000000) (S : Sto) : callF 2 f__law_right [.val (.tup ds), .val (.tup es)] S = .ok (.val (.bl true)) S :=
  right_ok S (c_aht hd he hl hm) (c_aht he hd hl.symm (hl ▸ hm)) (fun S => by rw [c_aht hd hd rfl hm, rows_self hd]) fun t T => by
    unfold F__law_right_2
    simp only [List.getElem?_cons_zero, List.getElem?_cons_succ, rd_some, bok, as_int, as_bl, tru_bl, add_int, sub_int, eq_int, ib_int, lst0, lst1, lst2, lst3, lst6, tup2, tup3, isi_is, isi_ss, isi_it, isi_st, isi_tt, isi_bb, set_val, set_new, List.set_cons_zero, List.set_cons_succ, if_true, ent_val, ent_nil, c_rows hd he hl, c_rows he hd hl.symm]

/-! ### the values of a cell, and the law -/
theorem vals_ok (c : Int) (S : Sto) : ∃ a b e, Vl a ∧ Vl b ∧ Vl e ∧ callF 1 f__law_values [.val (.int c)] S = .ok (.new [a, b, e]) S := by
  obtain ⟨d, hd, vd⟩ := drawn_ok c S
  have hc : callF 1 f__law_value [.val (.int c)] S = .ok (.val d) S := call_pure rfl hd (vd.lo _) vd.noloc
  have hs : startR ["_law_cell", "_law_value_here"] [.int c] = [some (.int c), none] := rfl
  have e1 : F__law_values_1 [some (.int c), none] S = .ok (.next [some (.int c), some d]) S := by
    unfold F__law_values_1
    simp only [List.getElem?_cons_zero, List.getElem?_cons_succ, rd_some, bok, as_int, as_bl, tru_bl, add_int, sub_int, eq_int, ib_int, lst0, lst1, lst2, lst3, lst6, tup2, tup3, isi_is, isi_ss, isi_it, isi_st, isi_tt, isi_bb, set_val, set_new, List.set_cons_zero, List.set_cons_succ, if_true, ent_val, ent_nil, hc]
  have fin : ∀ a b e, Vl a → Vl b → Vl e → f__law_values [.int c] S = .ok (.new [a, b, e]) S → callF 1 f__law_values [.val (.int c)] S = .ok (.new [a, b, e]) S := fun a b e ha hb he h => call_new (T := []) rfl (by rw [List.append_nil]; exact h) (loL_of (by
    intro x hx; simp at hx
    rcases hx with rfl | rfl | rfl
    · exact ha.lo _
    · exact hb.lo _
    · exact he.lo _))
  rcases vd.cases with ⟨i, rfl, hi⟩ | ⟨x, rfl, hx⟩
  · have va : Vl (.int i) := hi
    have vb : Vl (.int (0 - i)) := ⟨by omega, by omega⟩
    have ve : Vl (.int (i / 2)) := ⟨by omega, by omega⟩
    refine ⟨_, _, _, va, vb, ve, fin _ _ _ va vb ve ?_⟩
    have e2 : F__law_values_2 [some (.int c), some (.int i)] S = .ok (.next [some (.int c), some (.int i)]) S := by
      unfold F__law_values_2
      simp only [List.getElem?_cons_zero, List.getElem?_cons_succ, rd_some, bok, as_int, as_bl, tru_bl, add_int, sub_int, eq_int, ib_int, lst0, lst1, lst2, lst3, lst6, tup2, tup3, isi_is, isi_ss, isi_it, isi_st, isi_tt, isi_bb, set_val, set_new, List.set_cons_zero, List.set_cons_succ, if_true, ent_val, ent_nil]
      rfl
    unfold f__law_values F__law_values
    rw [hs, seq_next e1, seq_next e2]
    unfold F__law_values_3
    simp only [List.getElem?_cons_zero, List.getElem?_cons_succ, rd_some, bok, as_int, as_bl, tru_bl, add_int, sub_int, eq_int, ib_int, lst0, lst1, lst2, lst3, lst6, tup2, tup3, isi_is, isi_ss, isi_it, isi_st, isi_tt, isi_bb, set_val, set_new, List.set_cons_zero, List.set_cons_succ, if_true, ent_val, ent_nil, div_lit (show (0 : Int) < 2 by decide) (show (2 : Int) < 1073741824 by decide)]
    rfl
  · obtain ⟨h1, h2, h3⟩ := hx
    have va : Vl (.str x) := ⟨h1, h2, h3⟩
    have hcl := cutL_len x none (some (-1))
    have hcm : (cutL x none (some (-1))).length = x.length - 1 := by
      unfold cutL
      have z1 : HT.sIx x.length 0 none = 0 := rfl
      have z2 : HT.sIx x.length x.length (some (-1)) = x.length - 1 := by
        unfold HT.sIx
        simp only
        split <;> omega
      rw [z1, z2, List.length_take, List.length_drop]
      omega
    have vb : Vl (.str (cutL x none (some (-1)) ++ [109])) := by
      refine ⟨by rw [List.length_append, List.length_singleton]; omega, by rw [List.length_append, List.length_singleton]; omega, fun k hk => ?_⟩
      rw [List.mem_append, List.mem_singleton] at hk
      rcases hk with hk | rfl
      · exact h3 k (cutL_mem hk)
      · decide
    have ve : Vl (.str (cutL (x ++ [97]) none (some 8))) := by
      have z : cutL (x ++ [97]) none (some 8) = (x ++ [97]).take 8 := cutL_to _ 8 (by decide)
      refine ⟨?_, ?_, fun k hk => ?_⟩
      · rw [z, List.length_take, List.length_append, List.length_singleton]; omega
      · rw [z, List.length_take]; omega
      · have := cutL_mem hk
        rw [List.mem_append, List.mem_singleton] at this
        rcases this with hk | rfl
        · exact h3 k hk
        · decide
    refine ⟨_, _, _, va, vb, ve, fin _ _ _ va vb ve ?_⟩
    have e2 : F__law_values_2 [some (.int c), some (.str x)] S = .ok (.ret (.new [.str x, .str (cutL x none (some (-1)) ++ [109]), .str (cutL (x ++ [97]) none (some 8))])) S := by
      unfold F__law_values_2
      simp only [List.getElem?_cons_zero, List.getElem?_cons_succ, rd_some, bok, as_int, as_bl, tru_bl, add_int, sub_int, eq_int, ib_int, lst0, lst1, lst2, lst3, lst6, tup2, tup3, isi_is, isi_ss, isi_it, isi_st, isi_tt, isi_bb, set_val, set_new, List.set_cons_zero, List.set_cons_succ, if_true, ent_val, ent_nil, cut_str (S := S) (fits (show x.length ≤ 1000000 by omega)), add_str (S := S) (x := cutL x none (some (-1))) (y := [109]) (fits (by rw [List.length_singleton]; omega)), add_str (S := S) (x := x) (y := [97]) (fits (by rw [List.length_singleton]; omega)),
        cut_str (S := S) (x := x ++ [97]) (fits (show (x ++ [97]).length ≤ 1000000 by rw [List.length_append, List.length_singleton]; omega))]
    unfold f__law_values F__law_values
    rw [hs, seq_next e1, seq_ret e2]
    rfl
/-- the first loop -/
theorem loop1 (q : MV) (r : List (Option MV)) (L : List MV) (hL : ∀ d ∈ L, ∃ c, d = .int c) (hn : L.length ≤ 1000) : ∃ x2 l vs S', forF (gNm 2) B_law_1 [] L ([some q, some (.loc 0), none] ++ r) [.lst []] = .ok (.next ([some q, some (.loc l), x2] ++ r)) S' ∧ S'[l]? = some (.lst vs) ∧ vs.length = 3 * L.length ∧ ∀ d ∈ vs, Vl d := by
  obtain ⟨ρ', S', e, x2, l, vs, hρ, h1, h2, h3⟩ := for_ix (L := L) (gf := gNm 2) (body := B_law_1) (gs := []) (S := [.lst []]) (ρ := [some q, some (.loc 0), none] ++ r)
    (fun i ρ S => ∃ x2 l vs, ρ = [some q, some (.loc l), x2] ++ r ∧ S[l]? = some (.lst vs) ∧ vs.length = 3 * i ∧ ∀ d ∈ vs, Vl d) (fun i d hi ρ S ⟨x2, l, vs, hρ, h1, h2, h3⟩ => by
      obtain ⟨c, rfl⟩ := hL d (List.mem_of_getElem? hi)
      have hil : i < L.length := (List.getElem?_eq_some_iff.mp hi).1
      obtain ⟨a, b, e, va, vb, ve, hv⟩ := vals_ok c S
      have hadd : addF (.val (.loc l)) (.new [a, b, e]) S = .ok (.new (vs ++ [a, b, e])) S := add_ls (lsW_loc h1) rfl (fits (by rw [h2]; simp only [List.length_cons, List.length_nil]; omega))
      refine ⟨[some q, some (.loc S.length), some (.int c)] ++ r, S ++ [.lst (vs ++ [a, b, e])], ?_, stay0 _, some (.int c), S.length, vs ++ [a, b, e], rfl, by simp, by rw [List.length_append, h2]; simp only [List.length_cons, List.length_nil]; omega, ?_⟩
      · subst hρ
        show B_law_1 ([some q, some (.loc l), some (.int c)] ++ r) S = _
        unfold B_law_1 B_law_1_1
        simp only [List.cons_append, List.nil_append]
        simp only [List.getElem?_cons_zero, List.getElem?_cons_succ, rd_some, bok, as_int, as_bl, tru_bl, add_int, sub_int, eq_int, ib_int, lst0, lst1, lst2, lst3, lst6, tup2, tup3, isi_is, isi_ss, isi_it, isi_st, isi_tt, isi_bb, set_val, set_new, List.set_cons_zero, List.set_cons_succ, if_true, ent_val, ent_nil, hv, hadd]
      · intro d hd
        rw [List.mem_append] at hd
        rcases hd with hd | hd
        · exact h3 d hd
        · simp at hd
          rcases hd with rfl | rfl | rfl
          · exact va
          · exact vb
          · exact ve) ⟨none, 0, [], rfl, rfl, rfl, fun d hd => by simp at hd⟩
  exact ⟨x2, l, vs, S', by rw [e, hρ], h1, h2, h3⟩
theorem sq_in {k : Nat} (hk : k < 3000) : -(2 ^ 64) < (k : Int) ∧ (k : Int) < 2 ^ 64 := by
  constructor
  · exact Int.lt_of_lt_of_le (by decide) (Int.natCast_nonneg k)
  · exact Int.lt_trans (Int.ofNat_lt.mpr hk) (by decide)
abbrev Q9 (q : MV) (l : Nat) (x2 : Option MV) (k : Nat) (x4 x5 x6 x7 x8 : Option MV) : Rho := [some q, some (.loc l), x2, some (.int k), x4, x5, x6, x7, x8]
section
variable {q : MV} {x2 x4 x5 x6 x7 x8 : Option MV} {l : Nat} {vs : List MV} {k : Nat} {S : Sto}
theorem t2_1 {far : MV} (hk : k < 3000) (h9 : 0 < vs.length) (hS : S[l]? = some (.lst vs)) (hfar : atI vs ((k : Int) * k % vs.length) = some far) : B_law_2_1 (Q9 q l x2 k x4 x5 x6 x7 x8) S = .ok (.next (Q9 q l x2 k (some far) x5 x6 x7 x8)) S := by
  have hp : (0 : Int) < (vs.length : Int) := by omega
  unfold B_law_2_1
  simp only [List.getElem?_cons_zero, List.getElem?_cons_succ, rd_some, bok, as_int, as_bl, tru_bl, add_int, sub_int, eq_int, ib_int, lst0, lst1, lst2, lst3, lst6, tup2, tup3, isi_is, isi_ss, isi_it, isi_st, isi_tt, isi_bb, set_val, set_new, List.set_cons_zero, List.set_cons_succ, if_true, ent_val, ent_nil, len_loc hS, mul_lit (sq_in hk), mod_lit hp, ix_loc hS hfar]
theorem t2_2 {far a b : MV} (hS : S[l]? = some (.lst vs)) (ha : atI vs (k : Int) = some a) (hb : atI vs ((k : Int) - 1) = some b) (va : Vl a) (vb : Vl b) (vf : Vl far) : B_law_2_2 (Q9 q l x2 k (some far) x5 x6 x7 x8) S = .ok (.next (Q9 q l x2 k (some far) x5 x6 x7 x8)) S := by
  unfold B_law_2_2
  simp only [List.getElem?_cons_zero, List.getElem?_cons_succ, rd_some, bok, as_int, as_bl, tru_bl, add_int, sub_int, eq_int, ib_int, lst0, lst1, lst2, lst3, lst6, tup2, tup3, isi_is, isi_ss, isi_it, isi_st, isi_tt, isi_bb, set_val, set_new, List.set_cons_zero, List.set_cons_succ, if_true, ent_val, ent_nil, ix_loc hS ha, ix_loc hS hb, right_v va vb, right_v va vf]
  rfl
theorem t2_3 : B_law_2_3 (Q9 q l x2 k x4 x5 x6 x7 x8) S = .ok (.next (Q9 q l x2 k x4 (some (.int ((k : Int) % 5))) x6 x7 x8)) S := by
  unfold B_law_2_3
  simp only [List.getElem?_cons_zero, List.getElem?_cons_succ, rd_some, bok, as_int, as_bl, tru_bl, add_int, sub_int, eq_int, ib_int, lst0, lst1, lst2, lst3, lst6, tup2, tup3, isi_is, isi_ss, isi_it, isi_st, isi_tt, isi_bb, set_val, set_new, List.set_cons_zero, List.set_cons_succ, if_true, ent_val, ent_nil, mod_lit (show (0 : Int) < 5 by decide)]
theorem emod_in {a : Int} {n : Nat} (h : 0 < n) : 0 ≤ a % (n : Int) ∧ a % (n : Int) < n := ⟨Int.emod_nonneg _ (by omega), Int.emod_lt_of_pos _ (by omega)⟩
theorem t2_c1 (hv : ∀ d ∈ vs, Vl d) (h9 : 0 < vs.length) (hS : S[l]? = some (.lst vs)) (m : Int) : ∃ one, compF (gNm 0) C_law_3_c C_law_3_e [none, some (.loc l), some (.int k)] [] ((List.range m.toNat).map fun j => MV.int (j : Nat)) S = .ok one S ∧ one.length = m.toNat ∧ ∀ d ∈ one, Vl d := by
  have hp : (0 : Int) < (vs.length : Int) := by omega
  obtain ⟨one, c1, l1, p1⟩ := comp_all (gf := gNm 0) (cf := C_law_3_c) (ef := C_law_3_e) (ρb := [none, some (.loc l), some (.int k)]) (gs := []) (P := Vl) (stay0 S) (ds := (List.range m.toNat).map fun j => MV.int (j : Nat)) (fun d hd => by
    obtain ⟨j, _, rfl⟩ := List.mem_map.mp hd
    obtain ⟨y, hy⟩ := atI_pos (xs := vs) (i := ((k : Int) + (j : Nat)) % vs.length) (emod_in (by omega)).1 (emod_in (by omega)).2
    refine ⟨[some (.int (j : Nat)), some (.loc l), some (.int k)], y, rfl, rfl, ?_, atI_all hv hy⟩
    unfold C_law_3_e
    simp only [List.getElem?_cons_zero, List.getElem?_cons_succ, rd_some, bok, as_int, as_bl, tru_bl, add_int, sub_int, eq_int, ib_int, lst0, lst1, lst2, lst3, lst6, tup2, tup3, isi_is, isi_ss, isi_it, isi_st, isi_tt, isi_bb, set_val, set_new, List.set_cons_zero, List.set_cons_succ, if_true, ent_val, ent_nil, len_loc hS, mod_lit hp, ix_loc hS hy])
  rw [List.length_map, List.length_range] at l1
  exact ⟨one, c1, l1, p1⟩
theorem t2_c2 (hk : k < 3000) (hv : ∀ d ∈ vs, Vl d) (h9 : 0 < vs.length) (hS : S[l]? = some (.lst vs)) (m : Int) : ∃ one, compF (gNm 0) C_law_4_c C_law_4_e [none, some (.loc l), some (.int k)] [] ((List.range (m - m / 2).toNat).map fun j => MV.int (m / 2 + (j : Nat))) S = .ok one S ∧ one.length = (m - m / 2).toNat ∧ ∀ d ∈ one, Vl d := by
  have hp : (0 : Int) < (vs.length : Int) := by omega
  obtain ⟨one, c1, l1, p1⟩ := comp_all (gf := gNm 0) (cf := C_law_4_c) (ef := C_law_4_e) (ρb := [none, some (.loc l), some (.int k)]) (gs := []) (P := Vl) (stay0 S) (ds := (List.range (m - m / 2).toNat).map fun j => MV.int (m / 2 + (j : Nat))) (fun d hd => by
    obtain ⟨j, _, rfl⟩ := List.mem_map.mp hd
    obtain ⟨y, hy⟩ := atI_pos (xs := vs) (i := ((k : Int) * k + (m / 2 + (j : Nat))) % vs.length) (emod_in (by omega)).1 (emod_in (by omega)).2
    refine ⟨[some (.int (m / 2 + (j : Nat))), some (.loc l), some (.int k)], y, rfl, rfl, ?_, atI_all hv hy⟩
    unfold C_law_4_e
    simp only [List.getElem?_cons_zero, List.getElem?_cons_succ, rd_some, bok, as_int, as_bl, tru_bl, add_int, sub_int, eq_int, ib_int, lst0, lst1, lst2, lst3, lst6, tup2, tup3, isi_is, isi_ss, isi_it, isi_st, isi_tt, isi_bb, set_val, set_new, List.set_cons_zero, List.set_cons_succ, if_true, ent_val, ent_nil, len_loc hS, mul_lit (sq_in hk), mod_lit hp, ix_loc hS hy])
  rw [List.length_map, List.length_range] at l1
  exact ⟨one, c1, l1, p1⟩
theorem t2_4 {m : Int} {one : List MV} (hm : 0 ≤ m ∧ m < 5) (c1 : compF (gNm 0) C_law_3_c C_law_3_e [none, some (.loc l), some (.int k)] [] ((List.range m.toNat).map fun j => MV.int (j : Nat)) S = .ok one S) :
    B_law_2_4 (Q9 q l x2 k x4 (some (.int m)) x6 x7 x8) S = .ok (.next (Q9 q l x2 k x4 (some (.int m)) (some (.tup one)) x7 x8)) S := by
  have hl : ((List.range m.toNat).map fun j => MV.int (j : Nat)).length < 1000000 := by rw [List.length_map, List.length_range]; omega
  unfold B_law_2_4
  simp only [List.getElem?_cons_zero, List.getElem?_cons_succ, rd_some, bok, as_int, as_bl, tru_bl, add_int, sub_int, eq_int, ib_int, lst0, lst1, lst2, lst3, lst6, tup2, tup3, isi_is, isi_ss, isi_it, isi_st, isi_tt, isi_bb, set_val, set_new, List.set_cons_zero, List.set_cons_succ, if_true, ent_val, ent_nil, rng_ok (S := S) (show -(2 ^ 62) ≤ m ∧ m < 2 ^ 62 by omega)]
  rw [if_pos hl]
  rw [show blk 1 [1, 3] [some q, some (.loc l), x2, some (.int k), x4, some (.int m), x6, x7, x8] = [none, some (.loc l), some (.int k)] from rfl, c1]
  rfl
theorem t2_5 {m : Int} {more : List MV} (hm : 0 ≤ m ∧ m < 5) (c2 : compF (gNm 0) C_law_4_c C_law_4_e [none, some (.loc l), some (.int k)] [] ((List.range (m - m / 2).toNat).map fun j => MV.int (m / 2 + (j : Nat))) S = .ok more S) :
    B_law_2_5 (Q9 q l x2 k x4 (some (.int m)) x6 x7 x8) S = .ok (.next (Q9 q l x2 k x4 (some (.int m)) x6 (some (.loc S.length)) x8)) (S ++ [.lst more]) := by
  have hl : ((List.range (m - m / 2).toNat).map fun j => MV.int (m / 2 + (j : Nat))).length < 1000000 := by rw [List.length_map, List.length_range]; omega
  unfold B_law_2_5
  simp only [List.getElem?_cons_zero, List.getElem?_cons_succ, rd_some, bok, as_int, as_bl, tru_bl, add_int, sub_int, eq_int, ib_int, lst0, lst1, lst2, lst3, lst6, tup2, tup3, isi_is, isi_ss, isi_it, isi_st, isi_tt, isi_bb, set_val, set_new, List.set_cons_zero, List.set_cons_succ, if_true, ent_val, ent_nil, div_lit (show (0 : Int) < 2 by decide) (show (2 : Int) < 1073741824 by decide), rng2_ok (S := S) (i := m / 2) (j := m) ⟨by omega, by omega, by omega, by omega⟩]
  rw [if_pos hl]
  rw [show blk 1 [1, 3] [some q, some (.loc l), x2, some (.int k), x4, some (.int m), x6, x7, x8] = [none, some (.loc l), some (.int k)] from rfl, c2]
  rfl
theorem t2_6 {m : Int} {n : Nat} {one more : List MV} {T : Sto} (hm : 0 ≤ m ∧ m < 5) (hN : T[n]? = some (.lst more)) (hl : one.length + more.length ≤ 1000) : B_law_2_6 (Q9 q l x2 k x4 (some (.int m)) (some (.tup one)) (some (.loc n)) x8) T = .ok (.next (Q9 q l x2 k x4 (some (.int m)) (some (.tup one)) (some (.loc n)) (some (.tup (one.take (m / 2).toNat ++ more))))) T := by
  have hcut : cutF (.val (.tup one)) none (some (m / 2)) T = .ok (.val (.tup (one.take (m / 2).toNat))) T := by rw [← cutL_to _ _ (show 0 ≤ m / 2 by omega)]; rfl
  have ht : tupleF [.val (.loc n)] T = .ok (.val (.tup more)) T := by
    show (match lsOf T (.val (.loc n)) with | some ds => R.ok (Er.val (.tup ds)) T | none => .no) = _
    rw [lsOf_loc hN]
  have hsz : (one.take (m / 2).toNat).length + more.length ≤ sizeLine := fits (by rw [List.length_take]; omega)
  unfold B_law_2_6
  simp only [List.getElem?_cons_zero, List.getElem?_cons_succ, rd_some, bok, as_int, as_bl, tru_bl, add_int, sub_int, eq_int, ib_int, lst0, lst1, lst2, lst3, lst6, tup2, tup3, isi_is, isi_ss, isi_it, isi_st, isi_tt, isi_bb, set_val, set_new, List.set_cons_zero, List.set_cons_succ, if_true, ent_val, ent_nil, div_lit (show (0 : Int) < 2 by decide) (show (2 : Int) < 1073741824 by decide), hcut, ht, add_tup hsz]
theorem t2_7 {one other : List MV} {T : Sto} (p1 : ∀ d ∈ one, Vl d) (po : ∀ d ∈ other, Vl d) (hol : one.length = other.length) (hm : one.length < 1000000) : B_law_2_7 (Q9 q l x2 k x4 x5 (some (.tup one)) x7 (some (.tup other))) T = .ok (.next (Q9 q l x2 k x4 x5 (some (.tup one)) x7 (some (.tup other)))) T := by
  unfold B_law_2_7
  simp only [List.getElem?_cons_zero, List.getElem?_cons_succ, rd_some, bok, as_int, as_bl, tru_bl, add_int, sub_int, eq_int, ib_int, lst0, lst1, lst2, lst3, lst6, tup2, tup3, isi_is, isi_ss, isi_it, isi_st, isi_tt, isi_bb, set_val, set_new, List.set_cons_zero, List.set_cons_succ, if_true, ent_val, ent_nil, right_t p1 po hol hm]
  rfl
/-- a turn of the second loop -/
theorem turn2 (hv : ∀ d ∈ vs, Vl d) (h9 : 9 ≤ vs.length) (hn : vs.length ≤ 3000) (hk : k < vs.length) (hS : S[l]? = some (.lst vs)) :
    ∃ y4 y5 y6 y7 y8 S', B_law_2 (Q9 q l x2 k x4 x5 x6 x7 x8) S = .ok (.next (Q9 q l x2 k y4 y5 y6 y7 y8)) S' ∧ S'[l]? = some (.lst vs) := by
  obtain ⟨far, hfar⟩ := atI_pos (xs := vs) (i := (k : Int) * k % vs.length) (emod_in (by omega)).1 (emod_in (by omega)).2
  obtain ⟨a, ha⟩ := atI_pos (xs := vs) (i := (k : Int)) (by omega) (by omega)
  obtain ⟨b, hb⟩ := atI_any (xs := vs) (i := (k : Int) - 1) (by omega) (by omega)
  have hm : (0 : Int) ≤ (k : Int) % 5 ∧ (k : Int) % 5 < 5 := ⟨Int.emod_nonneg _ (by decide), Int.emod_lt_of_pos _ (by decide)⟩
  obtain ⟨one, c1, l1, p1⟩ := t2_c1 (k := k) hv (by omega) hS ((k : Int) % 5)
  obtain ⟨more, c2, l2, p2⟩ := t2_c2 (k := k) (by omega) hv (by omega) hS ((k : Int) % 5)
  have hS' : (S ++ [MO.lst more])[l]? = some (.lst vs) := by
    rw [List.getElem?_append_left (List.getElem?_eq_some_iff.mp hS).1]; exact hS
  have hN : (S ++ [MO.lst more])[S.length]? = some (.lst more) := by simp
  have hol : one.length = (one.take ((k : Int) % 5 / 2).toNat ++ more).length := by
    rw [List.length_append, List.length_take, l1, l2]; omega
  have po : ∀ d ∈ one.take ((k : Int) % 5 / 2).toNat ++ more, Vl d := fun d hd => by
    rw [List.mem_append] at hd
    rcases hd with hd | hd
    · exact p1 d (List.mem_of_mem_take hd)
    · exact p2 d hd
  refine ⟨some far, some (.int ((k : Int) % 5)), some (.tup one), some (.loc S.length), some (.tup (one.take ((k : Int) % 5 / 2).toNat ++ more)), S ++ [.lst more], ?_, hS'⟩
  unfold B_law_2
  rw [seq_next (t2_1 (by omega) (by omega) hS hfar), seq_next (t2_2 hS ha hb (atI_all hv ha) (atI_all hv hb) (atI_all hv hfar)), seq_next t2_3, seq_next (t2_4 hm c1), seq_next (t2_5 hm c2), seq_next (t2_6 hm hN (by omega))]
  exact t2_7 p1 po hol (by omega)
end
theorem law_true (ns : List Int) (h : ns.length ≤ 63) : ∃ S, f_law [.scr (ns.map MV.int)] [] = .ok (.val (.bl true)) S := by
  have hs : startR ["_law_script", "_law_values_here", "_law_cell", "_law_k", "_law_far", "_law_many", "_law_one", "_law_more", "_law_other"] [.scr (ns.map MV.int)] = [some (.scr (ns.map MV.int)), none, none, none, none, none, none, none, none] := rfl
  generalize hq : MV.scr (ns.map MV.int) = q at hs
  have e1 : F_law_1 [some q, none, none, none, none, none, none, none, none] [] = .ok (.next [some q, some (.loc 0), none, none, none, none, none, none, none]) [.lst []] := by
    unfold F_law_1
    simp only [List.getElem?_cons_zero, List.getElem?_cons_succ, rd_some, bok, as_int, as_bl, tru_bl, add_int, sub_int, eq_int, ib_int, lst0, lst1, lst2, lst3, lst6, tup2, tup3, isi_is, isi_ss, isi_it, isi_st, isi_tt, isi_bb, set_val, set_new, List.set_cons_zero, List.set_cons_succ, if_true, ent_val, ent_nil]
    rfl
  have hcl : (cutL (ns.map MV.int) none (some 24)).length ≤ 24 := by rw [cutL_to _ 24 (by decide), List.length_take]; exact Nat.min_le_left _ _
  obtain ⟨x2, l, vs, S1, h1, h2, h3, h4⟩ := loop1 q [none, none, none, none, none, none] (cutL (ns.map MV.int) none (some 24) ++ [.int 3, .int 5, .int 7]) (fun d hd => by
    rw [List.mem_append] at hd
    rcases hd with hd | hd
    · obtain ⟨c, _, rfl⟩ := List.mem_map.mp (cutL_mem hd)
      exact ⟨c, rfl⟩
    · simp at hd
      rcases hd with rfl | rfl | rfl <;> exact ⟨_, rfl⟩) (by rw [List.length_append]; simp only [List.length_cons, List.length_nil]; omega)
  rw [List.length_append] at h3
  simp only [List.length_cons, List.length_nil] at h3
  have e2 : F_law_2 [some q, some (.loc 0), none, none, none, none, none, none, none] [.lst []] = .ok (.next [some q, some (.loc l), x2, none, none, none, none, none, none]) S1 := by
    unfold F_law_2
    simp only [List.getElem?_cons_zero, List.getElem?_cons_succ, rd_some, bok, as_int, as_bl, tru_bl, add_int, sub_int, eq_int, ib_int, lst0, lst1, lst2, lst3, lst6, tup2, tup3, isi_is, isi_ss, isi_it, isi_st, isi_tt, isi_bb, set_val, set_new, List.set_cons_zero, List.set_cons_succ, if_true, ent_val, ent_nil]
    rw [← hq]
    rw [show cutF (.val (.scr (ns.map MV.int))) none (some 24) [.lst []] = .ok (.new (cutL (ns.map MV.int) none (some 24))) [.lst []] from rfl]
    simp only [List.getElem?_cons_zero, List.getElem?_cons_succ, rd_some, bok, as_int, as_bl, tru_bl, add_int, sub_int, eq_int, ib_int, lst0, lst1, lst2, lst3, lst6, tup2, tup3, isi_is, isi_ss, isi_it, isi_st, isi_tt, isi_bb, set_val, set_new, List.set_cons_zero, List.set_cons_succ, if_true, ent_val, ent_nil]
    rw [add_ls (S := [.lst []]) (p := .new (cutL (ns.map MV.int) none (some 24))) (q := .new [.int 3, .int 5, .int 7]) rfl rfl (fits (by simp only [List.length_cons, List.length_nil]; omega))]
    rw [hq]
    exact h1
  have e3 : ∃ ρ S', F_law_3 [some q, some (.loc l), x2, none, none, none, none, none, none] S1 = .ok (.next ρ) S' := by
    unfold F_law_3
    simp only [List.getElem?_cons_zero, List.getElem?_cons_succ, rd_some, bok, as_int, as_bl, tru_bl, add_int, sub_int, eq_int, ib_int, lst0, lst1, lst2, lst3, lst6, tup2, tup3, isi_is, isi_ss, isi_it, isi_st, isi_tt, isi_bb, set_val, set_new, List.set_cons_zero, List.set_cons_succ, if_true, ent_val, ent_nil, len_loc h2]
    rw [rng_ok (by omega), bok]
    obtain ⟨ρ', S', e, _⟩ := for_ix (L := (List.range ((vs.length : Nat) : Int).toNat).map fun k => MV.int (k : Nat)) (gf := gNm 3) (body := B_law_2) (gs := []) (S := S1) (ρ := [some q, some (.loc l), x2, none, none, none, none, none, none])
      (fun i ρ S => ∃ y3 y4 y5 y6 y7 y8, ρ = [some q, some (.loc l), x2, y3, y4, y5, y6, y7, y8] ∧ S[l]? = some (.lst vs)) (fun i d hi ρ S ⟨y3, y4, y5, y6, y7, y8, hρ, hS⟩ => by
        obtain ⟨k, hk, rfl⟩ := List.mem_map.mp (List.mem_of_getElem? hi)
        rw [List.mem_range] at hk
        obtain ⟨z4, z5, z6, z7, z8, S', hb, hS'⟩ := turn2 (q := q) (x2 := x2) (k := k) (x4 := y4) (x5 := y5) (x6 := y6) (x7 := y7) (x8 := y8) h4 (by omega) (by omega) (by omega) hS
        subst hρ
        have hb' : ((gNm 3 (.int (k : Nat)) [some q, some (.loc l), x2, y3, y4, y5, y6, y7, y8] S).bind fun ρ0 S0 => B_law_2 ρ0 S0) = .ok (.next (Q9 q l x2 k z4 z5 z6 z7 z8)) S' := by
          rw [show gNm 3 (.int (k : Nat)) [some q, some (.loc l), x2, y3, y4, y5, y6, y7, y8] S = .ok (Q9 q l x2 k y4 y5 y6 y7 y8) S from rfl, bok]
          exact hb
        exact ⟨_, S', hb', stay0 _, some (.int (k : Nat)), z4, z5, z6, z7, z8, rfl, hS'⟩) ⟨none, none, none, none, none, none, rfl, h2⟩
    exact ⟨ρ', S', e⟩
  obtain ⟨ρ, S', e3⟩ := e3
  refine ⟨S', ?_⟩
  unfold f_law F_law
  rw [hs, seq_next e1, seq_next e2, seq_next e3]
  rfl

section
variable {P : Program} {w : World} {K : PySem.W.Frag} {mg : Str → Option Value} {base : Heap}
def top (i : Nat) : Stmt := PySem.Challenge.pw_mendsure_k02_which_is_ahead.main.body.getD i (.Pass ⟨0, 0, 0, 0⟩)
abbrev s_value_rank : Stmt := top 1
theorem sc_value_rank : FnScope ["value"] ["value"] (defScope s_value_rank) := ⟨rfl, rfl, rfl, by decide +kernel, rfl, by decide +kernel, by decide +kernel⟩
theorem ok_value_rank {f : Addr} {fd : FuncData} (F : Fun K "value_rank" "value_rank" s_value_rank f fd) (z_str : mg "str" = none) (z_isinstance : mg "isinstance" = none) : FnOk P w K mg base CX0 1 f fd ["value"] (spM ⟨K, mg, P, w⟩ 1 f_value_rank) :=
  okM (k := 0) F_value_rank F sc_value_rank fun cdv A outer s H E hr => (sm_cons (sm_if (tm_plain (pm_callB call_isi cm_isi rfl z_isinstance bt_isinstance (am_cons (pm_var 0) (am_cons (pm_ty rfl z_str bt_str) am_nil)))) (sm_one (sm_ret (pm_tup (am_cons pm_int (am_cons pm_int (am_cons (pm_var 0) am_nil)))))) sm_nil) (sm_one (sm_ret (pm_tup (am_cons pm_int (am_cons (pm_var 0) (am_cons (pm_str []) am_nil)))))))
abbrev s_tuple_rank : Stmt := top 2
theorem sc_tuple_rank : FnScope ["values"] ["values"] (defScope s_tuple_rank) := ⟨rfl, rfl, rfl, by decide +kernel, rfl, by decide +kernel, by decide +kernel⟩
theorem ok_tuple_rank {f : Addr} {fd : FuncData} (F : Fun K "tuple_rank" "tuple_rank" s_tuple_rank f fd) {fa_value_rank : Addr} {fd_value_rank : FuncData} (G_value_rank : FnOk P w K mg base CX0 1 fa_value_rank fd_value_rank ["value"] (spM ⟨K, mg, P, w⟩ 1 f_value_rank)) (m_value_rank : mg "value_rank" = some (.ref fa_value_rank)) (kp_value_rank : PySem.W.keepIn K (.ref fa_value_rank) = true) (b_value_rank : Binds K fd_value_rank ["value"] []) (z_tuple : mg "tuple" = none) : FnOk P w K mg base CX0 2 f fd ["values"] (spM ⟨K, mg, P, w⟩ 1 f_tuple_rank) :=
  okM (k := 1) F_tuple_rank F sc_tuple_rank fun cdv A outer s H E hr => (sm_one (sm_ret (pm_callTy call_tuple_of cm_tuple rfl z_tuple bt_tuple (am_cons (pm_comp (defScope s_tuple_rank) ["values"] ["value"] [] (im_tup (pm_var 0)) rfl (fun _ _ _ _ hN => (gn_name 0 hN)) (fun _ _ _ _ => ifm_nil) (fun _ _ _ _ => (pm_call G_value_rank (hr.mono (by decide)) rfl m_value_rank kp_value_rank b_value_rank (am_cons (pm_var 0) am_nil)))) am_nil))))
abbrev s_ahead : Stmt := top 3
theorem sc_ahead : FnScope ["one", "other"] ["one", "other"] (defScope s_ahead) := ⟨rfl, rfl, rfl, by decide +kernel, rfl, by decide +kernel, by decide +kernel⟩
theorem ok_ahead {f : Addr} {fd : FuncData} (F : Fun K "ahead" "ahead" s_ahead f fd) (z_tuple : mg "tuple" = none) (z_isinstance : mg "isinstance" = none) {fa_tuple_rank : Addr} {fd_tuple_rank : FuncData} (G_tuple_rank : FnOk P w K mg base CX0 2 fa_tuple_rank fd_tuple_rank ["values"] (spM ⟨K, mg, P, w⟩ 1 f_tuple_rank)) (m_tuple_rank : mg "tuple_rank" = some (.ref fa_tuple_rank)) (kp_tuple_rank : PySem.W.keepIn K (.ref fa_tuple_rank) = true) (b_tuple_rank : Binds K fd_tuple_rank ["values"] []) {fa_value_rank : Addr} {fd_value_rank : FuncData} (G_value_rank : FnOk P w K mg base CX0 1 fa_value_rank fd_value_rank ["value"] (spM ⟨K, mg, P, w⟩ 1 f_value_rank)) (m_value_rank : mg "value_rank" = some (.ref fa_value_rank)) (kp_value_rank : PySem.W.keepIn K (.ref fa_value_rank) = true) (b_value_rank : Binds K fd_value_rank ["value"] []) : FnOk P w K mg base CX0 3 f fd ["one", "other"] (spM ⟨K, mg, P, w⟩ 2 f_ahead) :=
  okM (k := 2) F_ahead F sc_ahead fun cdv A outer s H E hr => (sm_cons (sm_if (tm_plain (pm_callB call_isi cm_isi rfl z_isinstance bt_isinstance (am_cons (pm_var 0) (am_cons (pm_ty rfl z_tuple bt_tuple) am_nil)))) (sm_one (sm_ret (pm_lt hr.units (pm_call G_tuple_rank (hr.mono (by decide)) rfl m_tuple_rank kp_tuple_rank b_tuple_rank (am_cons (pm_var 0) am_nil)) (pm_call G_tuple_rank (hr.mono (by decide)) rfl m_tuple_rank kp_tuple_rank b_tuple_rank (am_cons (pm_var 1) am_nil))))) sm_nil) (sm_one (sm_ret (pm_lt hr.units (pm_call G_value_rank (hr.mono (by decide)) rfl m_value_rank kp_value_rank b_value_rank (am_cons (pm_var 0) am_nil)) (pm_call G_value_rank (hr.mono (by decide)) rfl m_value_rank kp_value_rank b_value_rank (am_cons (pm_var 1) am_nil))))))
abbrev s__law_name : Stmt := top 5
theorem sc__law_name : FnScope ["_law_cell", "_law_letters", "_law_number", "_law_name_here", "_law_k"] ["_law_cell"] (defScope s__law_name) := ⟨rfl, rfl, rfl, by decide +kernel, rfl, by decide +kernel, by decide +kernel⟩
theorem ok__law_name {f : Addr} {fd : FuncData} (F : Fun K "_law_name" "_law_name" s__law_name f fd) (z_range : mg "range" = none) : FnOk P w K mg base CX0 1 f fd ["_law_cell"] (spM ⟨K, mg, P, w⟩ 1 f__law_name) :=
  okM (k := 0) F__law_name F sc__law_name fun cdv A outer s H E hr => (sm_cons (sm_set 1 sc__law_name.nd (pm_str [97, 98, 99, 100, 101, 102, 103, 104, 105, 106, 107, 108, 109, 110, 111, 112, 113, 114, 115, 116, 117, 118, 119, 120, 121, 122])) (sm_cons (sm_set 2 sc__law_name.nd (pm_div (pm_var 0) pm_int)) (sm_cons (sm_set 3 sc__law_name.nd (pm_str [])) (sm_cons (sm_for PassesOwn.never rfl (im_range1 rfl z_range (am_cons (pm_add pm_int (pm_mod (pm_var 0) pm_int)) am_nil)) (gm_name 4 sc__law_name.nd) (sm_cons (sm_set 3 sc__law_name.nd (pm_add (pm_var 3) (pm_at (pm_var 1) (pm_mod (pm_var 2) pm_int)))) (sm_one (sm_set 2 sc__law_name.nd (pm_div (pm_var 2) pm_int))))) (sm_one (sm_ret (pm_var 3)))))))
abbrev s__law_value : Stmt := top 6
theorem sc__law_value : FnScope ["_law_cell", "_law_rest"] ["_law_cell"] (defScope s__law_value) := ⟨rfl, rfl, rfl, by decide +kernel, rfl, by decide +kernel, by decide +kernel⟩
theorem ok__law_value {f : Addr} {fd : FuncData} (F : Fun K "_law_value" "_law_value" s__law_value f fd) {fa__law_name : Addr} {fd__law_name : FuncData} (G__law_name : FnOk P w K mg base CX0 1 fa__law_name fd__law_name ["_law_cell"] (spM ⟨K, mg, P, w⟩ 1 f__law_name)) (m__law_name : mg "_law_name" = some (.ref fa__law_name)) (kp__law_name : PySem.W.keepIn K (.ref fa__law_name) = true) (b__law_name : Binds K fd__law_name ["_law_cell"] []) : FnOk P w K mg base CX0 2 f fd ["_law_cell"] (spM ⟨K, mg, P, w⟩ 1 f__law_value) :=
  okM (k := 1) F__law_value F sc__law_value fun cdv A outer s H E hr => (sm_cons (sm_set 1 sc__law_value.nd (pm_div (pm_var 0) pm_int)) (sm_cons (sm_if (tm_eq hr.units (pm_mod (pm_var 0) pm_int) pm_int) (sm_one (sm_ret (pm_at (pm_lst (am_cons pm_int (am_cons pm_int (am_cons pm_neg (am_cons (pm_sub (pm_pow pm_int pm_int) pm_int) (am_cons (pm_sub pm_int (pm_pow pm_int pm_int)) (am_cons (pm_pow pm_int pm_int) am_nil))))))) (pm_mod (pm_var 1) pm_int)))) sm_nil) (sm_cons (sm_if (tm_eq hr.units (pm_mod (pm_var 0) pm_int) pm_int) (sm_one (sm_ret (pm_sub (pm_mod (pm_var 1) pm_int) pm_int))) sm_nil) (sm_cons (sm_if (tm_eq hr.units (pm_mod (pm_var 0) pm_int) pm_int) (sm_one (sm_ret (pm_add (pm_sub (pm_mod (pm_pow (pm_add (pm_mul (pm_mod (pm_var 1) (pm_pow pm_int pm_int)) pm_int) pm_int) pm_int) (pm_sub (pm_mul pm_int (pm_pow pm_int pm_int)) pm_int)) (pm_pow pm_int pm_int)) pm_int))) sm_nil) (sm_cons (sm_if (tm_eq hr.units (pm_mod (pm_var 0) pm_int) pm_int) (sm_one (sm_ret (pm_add (pm_sub (pm_mod (pm_var 1) (pm_sub (pm_mul pm_int (pm_pow pm_int pm_int)) pm_int)) (pm_pow pm_int pm_int)) pm_int))) sm_nil) (sm_one (sm_ret (pm_call G__law_name (hr.mono (by decide)) rfl m__law_name kp__law_name b__law_name (am_cons (pm_var 1) am_nil)))))))))
abbrev s__law_values : Stmt := top 7
theorem sc__law_values : FnScope ["_law_cell", "_law_value_here"] ["_law_cell"] (defScope s__law_values) := ⟨rfl, rfl, rfl, by decide +kernel, rfl, by decide +kernel, by decide +kernel⟩
theorem ok__law_values {f : Addr} {fd : FuncData} (F : Fun K "_law_values" "_law_values" s__law_values f fd) {fa__law_value : Addr} {fd__law_value : FuncData} (G__law_value : FnOk P w K mg base CX0 2 fa__law_value fd__law_value ["_law_cell"] (spM ⟨K, mg, P, w⟩ 1 f__law_value)) (m__law_value : mg "_law_value" = some (.ref fa__law_value)) (kp__law_value : PySem.W.keepIn K (.ref fa__law_value) = true) (b__law_value : Binds K fd__law_value ["_law_cell"] []) (z_str : mg "str" = none) (z_isinstance : mg "isinstance" = none) : FnOk P w K mg base CX0 3 f fd ["_law_cell"] (spM ⟨K, mg, P, w⟩ 1 f__law_values) :=
  okM (k := 2) F__law_values F sc__law_values fun cdv A outer s H E hr => (sm_cons (sm_set 1 sc__law_values.nd (pm_call G__law_value (hr.mono (by decide)) rfl m__law_value kp__law_value b__law_value (am_cons (pm_var 0) am_nil))) (sm_cons (sm_if (tm_plain (pm_callB call_isi cm_isi rfl z_isinstance bt_isinstance (am_cons (pm_var 1) (am_cons (pm_ty rfl z_str bt_str) am_nil)))) (sm_one (sm_ret (pm_lst (am_cons (pm_var 1) (am_cons (pm_add (pm_cut (pm_var 1) om_none (om_some pm_neg)) (pm_str [109])) (am_cons (pm_cut (pm_add (pm_var 1) (pm_str [97])) om_none (om_some pm_int)) am_nil)))))) sm_nil) (sm_one (sm_ret (pm_lst (am_cons (pm_var 1) (am_cons (pm_sub pm_int (pm_var 1)) (am_cons (pm_div (pm_var 1) pm_int) am_nil))))))))
abbrev s__law_before : Stmt := top 8
theorem sc__law_before : FnScope ["_law_one", "_law_other"] ["_law_one", "_law_other"] (defScope s__law_before) := ⟨rfl, rfl, rfl, by decide +kernel, rfl, by decide +kernel, by decide +kernel⟩
theorem ok__law_before {f : Addr} {fd : FuncData} (F : Fun K "_law_before" "_law_before" s__law_before f fd) (z_str : mg "str" = none) (z_isinstance : mg "isinstance" = none) : FnOk P w K mg base CX0 1 f fd ["_law_one", "_law_other"] (spM ⟨K, mg, P, w⟩ 2 f__law_before) :=
  okM (k := 0) F__law_before F sc__law_before fun cdv A outer s H E hr => (sm_cons (sm_if (tm_ne hr.units (pm_callB call_isi cm_isi rfl z_isinstance bt_isinstance (am_cons (pm_var 0) (am_cons (pm_ty rfl z_str bt_str) am_nil))) (pm_callB call_isi cm_isi rfl z_isinstance bt_isinstance (am_cons (pm_var 1) (am_cons (pm_ty rfl z_str bt_str) am_nil)))) (sm_one (sm_ret (pm_callB call_isi cm_isi rfl z_isinstance bt_isinstance (am_cons (pm_var 1) (am_cons (pm_ty rfl z_str bt_str) am_nil))))) sm_nil) (sm_one (sm_ret (pm_lt hr.units (pm_var 0) (pm_var 1)))))
abbrev s__law_rows_before : Stmt := top 9
theorem sc__law_rows_before : FnScope ["_law_one", "_law_other", "_law_here", "_law_there"] ["_law_one", "_law_other"] (defScope s__law_rows_before) := ⟨rfl, rfl, rfl, by decide +kernel, rfl, by decide +kernel, by decide +kernel⟩
theorem ok__law_rows_before {f : Addr} {fd : FuncData} (F : Fun K "_law_rows_before" "_law_rows_before" s__law_rows_before f fd) (z_zip : mg "zip" = none) {fa__law_before : Addr} {fd__law_before : FuncData} (G__law_before : FnOk P w K mg base CX0 1 fa__law_before fd__law_before ["_law_one", "_law_other"] (spM ⟨K, mg, P, w⟩ 2 f__law_before)) (m__law_before : mg "_law_before" = some (.ref fa__law_before)) (kp__law_before : PySem.W.keepIn K (.ref fa__law_before) = true) (b__law_before : Binds K fd__law_before ["_law_one", "_law_other"] []) : FnOk P w K mg base CX0 2 f fd ["_law_one", "_law_other"] (spM ⟨K, mg, P, w⟩ 2 f__law_rows_before) :=
  okM (k := 1) F__law_rows_before F sc__law_rows_before fun cdv A outer s H E hr => (sm_cons (sm_for PassesOwn.never rfl (im_zip rfl z_zip (am_cons (pm_var 0) (am_cons (pm_var 1) am_nil))) (gm_tup rfl (gm_cons (gm_name 2 sc__law_rows_before.nd) (gm_cons (gm_name 3 sc__law_rows_before.nd) gm_nil))) (sm_one (sm_if (tm_ne hr.units (pm_var 2) (pm_var 3)) (sm_one (sm_ret (pm_call G__law_before (hr.mono (by decide)) rfl m__law_before kp__law_before b__law_before (am_cons (pm_var 2) (am_cons (pm_var 3) am_nil))))) sm_nil))) (sm_one (sm_ret pm_bl)))
abbrev s__law_right : Stmt := top 10
theorem sc__law_right : FnScope ["_law_one", "_law_other", "_law_told", "_law_due"] ["_law_one", "_law_other"] (defScope s__law_right) := ⟨rfl, rfl, rfl, by decide +kernel, rfl, by decide +kernel, by decide +kernel⟩
theorem ok__law_right {f : Addr} {fd : FuncData} (F : Fun K "_law_right" "_law_right" s__law_right f fd) {fa_ahead : Addr} {fd_ahead : FuncData} (G_ahead : FnOk P w K mg base CX0 3 fa_ahead fd_ahead ["one", "other"] (spM ⟨K, mg, P, w⟩ 2 f_ahead)) (m_ahead : mg "ahead" = some (.ref fa_ahead)) (kp_ahead : PySem.W.keepIn K (.ref fa_ahead) = true) (b_ahead : Binds K fd_ahead ["one", "other"] []) (z_tuple : mg "tuple" = none) (z_isinstance : mg "isinstance" = none) {fa__law_rows_before : Addr} {fd__law_rows_before : FuncData} (G__law_rows_before : FnOk P w K mg base CX0 2 fa__law_rows_before fd__law_rows_before ["_law_one", "_law_other"] (spM ⟨K, mg, P, w⟩ 2 f__law_rows_before)) (m__law_rows_before : mg "_law_rows_before" = some (.ref fa__law_rows_before)) (kp__law_rows_before : PySem.W.keepIn K (.ref fa__law_rows_before) = true) (b__law_rows_before : Binds K fd__law_rows_before ["_law_one", "_law_other"] []) {fa__law_before : Addr} {fd__law_before : FuncData} (G__law_before : FnOk P w K mg base CX0 1 fa__law_before fd__law_before ["_law_one", "_law_other"] (spM ⟨K, mg, P, w⟩ 2 f__law_before)) (m__law_before : mg "_law_before" = some (.ref fa__law_before)) (kp__law_before : PySem.W.keepIn K (.ref fa__law_before) = true) (b__law_before : Binds K fd__law_before ["_law_one", "_law_other"] []) (z_bool : mg "bool" = none) : FnOk P w K mg base CX0 4 f fd ["_law_one", "_law_other"] (spM ⟨K, mg, P, w⟩ 2 f__law_right) :=
  okM (k := 3) F__law_right F sc__law_right fun cdv A outer s H E hr => (sm_cons (sm_set 2 sc__law_right.nd (pm_lst (am_cons (pm_call G_ahead (hr.mono (by decide)) rfl m_ahead kp_ahead b_ahead (am_cons (pm_var 0) (am_cons (pm_var 1) am_nil))) (am_cons (pm_call G_ahead (hr.mono (by decide)) rfl m_ahead kp_ahead b_ahead (am_cons (pm_var 1) (am_cons (pm_var 0) am_nil))) (am_cons (pm_call G_ahead (hr.mono (by decide)) rfl m_ahead kp_ahead b_ahead (am_cons (pm_var 0) (am_cons (pm_var 0) am_nil))) am_nil))))) (sm_cons (sm_if (tm_plain (pm_callB call_isi cm_isi rfl z_isinstance bt_isinstance (am_cons (pm_var 0) (am_cons (pm_ty rfl z_tuple bt_tuple) am_nil)))) (sm_one (sm_set 3 sc__law_right.nd (pm_lst (am_cons (pm_call G__law_rows_before (hr.mono (by decide)) rfl m__law_rows_before kp__law_rows_before b__law_rows_before (am_cons (pm_var 0) (am_cons (pm_var 1) am_nil))) (am_cons (pm_call G__law_rows_before (hr.mono (by decide)) rfl m__law_rows_before kp__law_rows_before b__law_rows_before (am_cons (pm_var 1) (am_cons (pm_var 0) am_nil))) (am_cons pm_bl am_nil)))))) (sm_one (sm_set 3 sc__law_right.nd (pm_lst (am_cons (pm_call G__law_before (hr.mono (by decide)) rfl m__law_before kp__law_before b__law_before (am_cons (pm_var 0) (am_cons (pm_var 1) am_nil))) (am_cons (pm_call G__law_before (hr.mono (by decide)) rfl m__law_before kp__law_before b__law_before (am_cons (pm_var 1) (am_cons (pm_var 0) am_nil))) (am_cons pm_bl am_nil))))))) (sm_one (sm_ret (pm_and (pm_eq hr.units (pm_var 2) (pm_var 3)) (pm_one (pm_eq hr.units (pm_comp (defScope s__law_right) ["_law_one", "_law_other", "_law_told", "_law_due"] ["_law_one"] [] (im_list (pm_var 2)) rfl (fun _ _ _ _ hN => (gn_name 0 hN)) (fun _ _ _ _ => (ifm_one (tm_not (tm_plain (pm_callB call_isi cm_isi rfl z_isinstance bt_isinstance (am_cons (pm_var 0) (am_cons (pm_ty rfl z_bool bt_bool) am_nil))))))) (fun _ _ _ _ => (pm_var 0))) (pm_lst am_nil))))))))
abbrev s_law : Stmt := top 11
theorem sc_law : FnScope ["_law_script", "_law_values_here", "_law_cell", "_law_k", "_law_far", "_law_many", "_law_one", "_law_more", "_law_other"] ["_law_script"] (defScope s_law) := ⟨rfl, rfl, rfl, by decide +kernel, rfl, by decide +kernel, by decide +kernel⟩
theorem ok_law {f : Addr} {fd : FuncData} (F : Fun K "law" "law" s_law f fd) {fa__law_values : Addr} {fd__law_values : FuncData} (G__law_values : FnOk P w K mg base CX0 3 fa__law_values fd__law_values ["_law_cell"] (spM ⟨K, mg, P, w⟩ 1 f__law_values)) (m__law_values : mg "_law_values" = some (.ref fa__law_values)) (kp__law_values : PySem.W.keepIn K (.ref fa__law_values) = true) (b__law_values : Binds K fd__law_values ["_law_cell"] []) (z_range : mg "range" = none) (z_len : mg "len" = none) {fa__law_right : Addr} {fd__law_right : FuncData} (G__law_right : FnOk P w K mg base CX0 4 fa__law_right fd__law_right ["_law_one", "_law_other"] (spM ⟨K, mg, P, w⟩ 2 f__law_right)) (m__law_right : mg "_law_right" = some (.ref fa__law_right)) (kp__law_right : PySem.W.keepIn K (.ref fa__law_right) = true) (b__law_right : Binds K fd__law_right ["_law_one", "_law_other"] []) (z_tuple : mg "tuple" = none) : FnOk P w K mg base CX0 5 f fd ["_law_script"] (spM ⟨K, mg, P, w⟩ 1 f_law) :=
  okM (k := 4) F_law F sc_law fun cdv A outer s H E hr => (sm_cons (sm_set 1 sc_law.nd (pm_lst am_nil)) (sm_cons (sm_for PassesOwn.never rfl (im_list (pm_add (pm_cut (pm_var 0) om_none (om_some pm_int)) (pm_lst (am_cons pm_int (am_cons pm_int (am_cons pm_int am_nil)))))) (gm_name 2 sc_law.nd) (sm_one (sm_set 1 sc_law.nd (pm_add (pm_var 1) (pm_call G__law_values (hr.mono (by decide)) rfl m__law_values kp__law_values b__law_values (am_cons (pm_var 2) am_nil)))))) (sm_cons (sm_for PassesOwn.never rfl (im_range1 rfl z_range (am_cons (pm_callB call_lenM cm_len rfl z_len bt_len (am_cons (pm_var 1) am_nil)) am_nil)) (gm_name 3 sc_law.nd) (sm_cons (sm_set 4 sc_law.nd (pm_at (pm_var 1) (pm_mod (pm_mul (pm_var 3) (pm_var 3)) (pm_callB call_lenM cm_len rfl z_len bt_len (am_cons (pm_var 1) am_nil))))) (sm_cons (sm_if (wm_pt (wm_or (tm_not (tm_plain (pm_call G__law_right (hr.mono (by decide)) rfl m__law_right kp__law_right b__law_right (am_cons (pm_at (pm_var 1) (pm_var 3)) (am_cons (pm_at (pm_var 1) (pm_sub (pm_var 3) pm_int)) am_nil))))) (wm_or1 (tm_not (tm_plain (pm_call G__law_right (hr.mono (by decide)) rfl m__law_right kp__law_right b__law_right (am_cons (pm_at (pm_var 1) (pm_var 3)) (am_cons (pm_var 4) am_nil)))))))) (sm_one (sm_ret pm_bl)) sm_nil) (sm_cons (sm_set 5 sc_law.nd (pm_mod (pm_var 3) pm_int)) (sm_cons (sm_set 6 sc_law.nd (pm_callTy call_tuple_of cm_tuple rfl z_tuple bt_tuple (am_cons (pm_comp (defScope s_law) ["_law_script", "_law_values_here", "_law_cell", "_law_k", "_law_far", "_law_many", "_law_one", "_law_more", "_law_other"] ["_law_j"] [1, 3] (im_range1 rfl z_range (am_cons (pm_var 5) am_nil)) rfl (fun _ _ _ _ hN => (gn_name 0 hN)) (fun _ _ _ _ => ifm_nil) (fun _ _ _ _ => (pm_at (pm_var 1) (pm_mod (pm_add (pm_var 2) (pm_var 0)) (pm_callB call_lenM cm_len rfl z_len bt_len (am_cons (pm_var 1) am_nil)))))) am_nil))) (sm_cons (sm_setC 7 sc_law.nd (defScope s_law) ["_law_script", "_law_values_here", "_law_cell", "_law_k", "_law_far", "_law_many", "_law_one", "_law_more", "_law_other"] ["_law_j"] [1, 3] (im_range2 rfl z_range (am_cons (pm_div (pm_var 5) pm_int) (am_cons (pm_var 5) am_nil))) rfl (fun _ _ _ _ hN => (gn_name 0 hN)) (fun _ _ _ _ => ifm_nil) (fun _ _ _ _ => (pm_at (pm_var 1) (pm_mod (pm_add (pm_mul (pm_var 2) (pm_var 2)) (pm_var 0)) (pm_callB call_lenM cm_len rfl z_len bt_len (am_cons (pm_var 1) am_nil)))))) (sm_cons (sm_set 8 sc_law.nd (pm_add (pm_cut (pm_var 6) om_none (om_some (pm_div (pm_var 5) pm_int))) (pm_callTy call_tuple_of cm_tuple rfl z_tuple bt_tuple (am_cons (pm_var 7) am_nil)))) (sm_one (sm_if (tm_not (tm_plain (pm_call G__law_right (hr.mono (by decide)) rfl m__law_right kp__law_right b__law_right (am_cons (pm_var 6) (am_cons (pm_var 8) am_nil))))) (sm_one (sm_ret pm_bl)) sm_nil))))))))) (sm_one (sm_ret pm_bl)))))
end
theorem all_mk {l : PySem.W.OpenLaw} {w : World} {K : PySem.W.Frag} {h : Heap} {mg : Str → Option Value} {fa : Addr} (X : K.In h) (GG : h.Ns mainGlobals mg) (hfa : mg "law" = some (.ref fa))
    {g0 : Addr} {od0 an0 : Option Addr} {sl0 : Array (Option Value)} {oc0 kV0 dc0 pm0 cd0 ct0 : Value} (a0 : PySem.W.nsIn K mainGlobals "value_rank" = some (some (.ref g0))) (l0 : K.lookup g0 = some ⟨oc0, od0, .func (PySem.W.fnOf "value_rank" "value_rank" (defArgs s_value_rank) (defBody s_value_rank) (defScope s_value_rank) .none kV0 dc0 pm0 an0 cd0 ct0), sl0⟩) (c0 : PySem.W.codeIn K cd0 "value_rank" = true) (k0 : PySem.W.keepIn K (.ref g0) = true)
    {g1 : Addr} {od1 an1 : Option Addr} {sl1 : Array (Option Value)} {oc1 kV1 dc1 pm1 cd1 ct1 : Value} (a1 : PySem.W.nsIn K mainGlobals "tuple_rank" = some (some (.ref g1))) (l1 : K.lookup g1 = some ⟨oc1, od1, .func (PySem.W.fnOf "tuple_rank" "tuple_rank" (defArgs s_tuple_rank) (defBody s_tuple_rank) (defScope s_tuple_rank) .none kV1 dc1 pm1 an1 cd1 ct1), sl1⟩) (c1 : PySem.W.codeIn K cd1 "tuple_rank" = true) (k1 : PySem.W.keepIn K (.ref g1) = true)
    {g2 : Addr} {od2 an2 : Option Addr} {sl2 : Array (Option Value)} {oc2 kV2 dc2 pm2 cd2 ct2 : Value} (a2 : PySem.W.nsIn K mainGlobals "ahead" = some (some (.ref g2))) (l2 : K.lookup g2 = some ⟨oc2, od2, .func (PySem.W.fnOf "ahead" "ahead" (defArgs s_ahead) (defBody s_ahead) (defScope s_ahead) .none kV2 dc2 pm2 an2 cd2 ct2), sl2⟩) (c2 : PySem.W.codeIn K cd2 "ahead" = true) (k2 : PySem.W.keepIn K (.ref g2) = true)
    {g3 : Addr} {od3 an3 : Option Addr} {sl3 : Array (Option Value)} {oc3 kV3 dc3 pm3 cd3 ct3 : Value} (a3 : PySem.W.nsIn K mainGlobals "_law_name" = some (some (.ref g3))) (l3 : K.lookup g3 = some ⟨oc3, od3, .func (PySem.W.fnOf "_law_name" "_law_name" (defArgs s__law_name) (defBody s__law_name) (defScope s__law_name) .none kV3 dc3 pm3 an3 cd3 ct3), sl3⟩) (c3 : PySem.W.codeIn K cd3 "_law_name" = true) (k3 : PySem.W.keepIn K (.ref g3) = true)
    {g4 : Addr} {od4 an4 : Option Addr} {sl4 : Array (Option Value)} {oc4 kV4 dc4 pm4 cd4 ct4 : Value} (a4 : PySem.W.nsIn K mainGlobals "_law_value" = some (some (.ref g4))) (l4 : K.lookup g4 = some ⟨oc4, od4, .func (PySem.W.fnOf "_law_value" "_law_value" (defArgs s__law_value) (defBody s__law_value) (defScope s__law_value) .none kV4 dc4 pm4 an4 cd4 ct4), sl4⟩) (c4 : PySem.W.codeIn K cd4 "_law_value" = true) (k4 : PySem.W.keepIn K (.ref g4) = true)
    {g5 : Addr} {od5 an5 : Option Addr} {sl5 : Array (Option Value)} {oc5 kV5 dc5 pm5 cd5 ct5 : Value} (a5 : PySem.W.nsIn K mainGlobals "_law_values" = some (some (.ref g5))) (l5 : K.lookup g5 = some ⟨oc5, od5, .func (PySem.W.fnOf "_law_values" "_law_values" (defArgs s__law_values) (defBody s__law_values) (defScope s__law_values) .none kV5 dc5 pm5 an5 cd5 ct5), sl5⟩) (c5 : PySem.W.codeIn K cd5 "_law_values" = true) (k5 : PySem.W.keepIn K (.ref g5) = true)
    {g6 : Addr} {od6 an6 : Option Addr} {sl6 : Array (Option Value)} {oc6 kV6 dc6 pm6 cd6 ct6 : Value} (a6 : PySem.W.nsIn K mainGlobals "_law_before" = some (some (.ref g6))) (l6 : K.lookup g6 = some ⟨oc6, od6, .func (PySem.W.fnOf "_law_before" "_law_before" (defArgs s__law_before) (defBody s__law_before) (defScope s__law_before) .none kV6 dc6 pm6 an6 cd6 ct6), sl6⟩) (c6 : PySem.W.codeIn K cd6 "_law_before" = true) (k6 : PySem.W.keepIn K (.ref g6) = true)
    {g7 : Addr} {od7 an7 : Option Addr} {sl7 : Array (Option Value)} {oc7 kV7 dc7 pm7 cd7 ct7 : Value} (a7 : PySem.W.nsIn K mainGlobals "_law_rows_before" = some (some (.ref g7))) (l7 : K.lookup g7 = some ⟨oc7, od7, .func (PySem.W.fnOf "_law_rows_before" "_law_rows_before" (defArgs s__law_rows_before) (defBody s__law_rows_before) (defScope s__law_rows_before) .none kV7 dc7 pm7 an7 cd7 ct7), sl7⟩) (c7 : PySem.W.codeIn K cd7 "_law_rows_before" = true) (k7 : PySem.W.keepIn K (.ref g7) = true)
    {g8 : Addr} {od8 an8 : Option Addr} {sl8 : Array (Option Value)} {oc8 kV8 dc8 pm8 cd8 ct8 : Value} (a8 : PySem.W.nsIn K mainGlobals "_law_right" = some (some (.ref g8))) (l8 : K.lookup g8 = some ⟨oc8, od8, .func (PySem.W.fnOf "_law_right" "_law_right" (defArgs s__law_right) (defBody s__law_right) (defScope s__law_right) .none kV8 dc8 pm8 an8 cd8 ct8), sl8⟩) (c8 : PySem.W.codeIn K cd8 "_law_right" = true) (k8 : PySem.W.keepIn K (.ref g8) = true)
    {g9 : Addr} {od9 an9 : Option Addr} {sl9 : Array (Option Value)} {oc9 kV9 dc9 pm9 cd9 ct9 : Value} (a9 : PySem.W.nsIn K mainGlobals "law" = some (some (.ref g9))) (l9 : K.lookup g9 = some ⟨oc9, od9, .func (PySem.W.fnOf "law" "law" (defArgs s_law) (defBody s_law) (defScope s_law) .none kV9 dc9 pm9 an9 cd9 ct9), sl9⟩) (c9 : PySem.W.codeIn K cd9 "law" = true) (k9 : PySem.W.keepIn K (.ref g9) = true)
    (z_bool : PySem.W.nsIn K mainGlobals "bool" = some none)
    (z_isinstance : PySem.W.nsIn K mainGlobals "isinstance" = some none)
    (z_len : PySem.W.nsIn K mainGlobals "len" = some none)
    (z_range : PySem.W.nsIn K mainGlobals "range" = some none)
    (z_str : PySem.W.nsIn K mainGlobals "str" = some none)
    (z_tuple : PySem.W.nsIn K mainGlobals "tuple" = some none)
    (z_zip : PySem.W.nsIn K mainGlobals "zip" = some none)
    : ∃ fd : FuncData, (∀ (s : Shared) (v : Value), BindsTo s fd ⟨[v], []⟩ [("_law_script", v)]) ∧ ∀ base : Heap, K.In base → base.Ns mainGlobals mg → FnOk l.prog w K mg base CX0 5 fa fd ["_law_script"] (spLaw K f_law) := by
  have e := hfa.symm.trans (PySem.W.mg_of X GG a9)
  cases e
  have Z_bool := PySem.W.mg_none_of X GG z_bool
  have Z_isinstance := PySem.W.mg_none_of X GG z_isinstance
  have Z_len := PySem.W.mg_none_of X GG z_len
  have Z_range := PySem.W.mg_none_of X GG z_range
  have Z_str := PySem.W.mg_none_of X GG z_str
  have Z_tuple := PySem.W.mg_none_of X GG z_tuple
  have Z_zip := PySem.W.mg_none_of X GG z_zip
  have F0 := fun_mk (st := s_value_rank) l0 c0 k0
  have b0 := F0.binds (ps := ["value"]) fun _ _ _ _ _ _ us hl => match us, hl with | [_], _ => rfl
  have m0 := PySem.W.mg_of X GG a0
  have F1 := fun_mk (st := s_tuple_rank) l1 c1 k1
  have b1 := F1.binds (ps := ["values"]) fun _ _ _ _ _ _ us hl => match us, hl with | [_], _ => rfl
  have m1 := PySem.W.mg_of X GG a1
  have F2 := fun_mk (st := s_ahead) l2 c2 k2
  have b2 := F2.binds (ps := ["one", "other"]) fun _ _ _ _ _ _ us hl => match us, hl with | [_, _], _ => rfl
  have m2 := PySem.W.mg_of X GG a2
  have F3 := fun_mk (st := s__law_name) l3 c3 k3
  have b3 := F3.binds (ps := ["_law_cell"]) fun _ _ _ _ _ _ us hl => match us, hl with | [_], _ => rfl
  have m3 := PySem.W.mg_of X GG a3
  have F4 := fun_mk (st := s__law_value) l4 c4 k4
  have b4 := F4.binds (ps := ["_law_cell"]) fun _ _ _ _ _ _ us hl => match us, hl with | [_], _ => rfl
  have m4 := PySem.W.mg_of X GG a4
  have F5 := fun_mk (st := s__law_values) l5 c5 k5
  have b5 := F5.binds (ps := ["_law_cell"]) fun _ _ _ _ _ _ us hl => match us, hl with | [_], _ => rfl
  have m5 := PySem.W.mg_of X GG a5
  have F6 := fun_mk (st := s__law_before) l6 c6 k6
  have b6 := F6.binds (ps := ["_law_one", "_law_other"]) fun _ _ _ _ _ _ us hl => match us, hl with | [_, _], _ => rfl
  have m6 := PySem.W.mg_of X GG a6
  have F7 := fun_mk (st := s__law_rows_before) l7 c7 k7
  have b7 := F7.binds (ps := ["_law_one", "_law_other"]) fun _ _ _ _ _ _ us hl => match us, hl with | [_, _], _ => rfl
  have m7 := PySem.W.mg_of X GG a7
  have F8 := fun_mk (st := s__law_right) l8 c8 k8
  have b8 := F8.binds (ps := ["_law_one", "_law_other"]) fun _ _ _ _ _ _ us hl => match us, hl with | [_, _], _ => rfl
  have m8 := PySem.W.mg_of X GG a8
  have F9 := fun_mk (st := s_law) l9 c9 k9
  have b9 := F9.binds (ps := ["_law_script"]) fun _ _ _ _ _ _ us hl => match us, hl with | [_], _ => rfl
  have m9 := PySem.W.mg_of X GG a9
  refine ⟨PySem.W.fnOf "law" "law" (defArgs s_law) (defBody s_law) (defScope s_law) .none kV9 dc9 pm9 an9 cd9 ct9, fun s v => .of_eq rfl, fun base _ _ => ?_⟩
  have G0 := ok_value_rank (P := l.prog) (w := w) (base := base) F0 Z_str Z_isinstance
  have G1 := ok_tuple_rank (P := l.prog) (w := w) (base := base) F1 G0 m0 k0 b0 Z_tuple
  have G2 := ok_ahead (P := l.prog) (w := w) (base := base) F2 Z_tuple Z_isinstance G1 m1 k1 b1 G0 m0 k0 b0
  have G3 := ok__law_name (P := l.prog) (w := w) (base := base) F3 Z_range
  have G4 := ok__law_value (P := l.prog) (w := w) (base := base) F4 G3 m3 k3 b3
  have G5 := ok__law_values (P := l.prog) (w := w) (base := base) F5 G4 m4 k4 b4 Z_str Z_isinstance
  have G6 := ok__law_before (P := l.prog) (w := w) (base := base) F6 Z_str Z_isinstance
  have G7 := ok__law_rows_before (P := l.prog) (w := w) (base := base) F7 Z_zip G6 m6 k6 b6
  have G8 := ok__law_right (P := l.prog) (w := w) (base := base) F8 G2 m2 k2 b2 Z_tuple Z_isinstance G7 m7 k7 b7 G6 m6 k6 b6 Z_bool
  have G9 := ok_law (P := l.prog) (w := w) (base := base) F9 G5 m5 k5 b5 Z_range Z_len G8 m8 k8 b8 Z_tuple
  exact G9.imp fun vs H Q E => spLaw_of (g := ⟨K, mg, l.prog, w⟩) vs H Q E
theorem walk {l : PySem.W.OpenLaw} {q : Program} {loose : List Str} {XP : (Str → Option Value) → Heap → Prop} {YP : World → Heap → Prop} {d : DefRec} {K : Params → PySem.W.Frag} (hn : l.most = some 63) (hdf : d.params.defaults = [])
    (hY : ∀ (w : World) (h : Heap), YP w h → (K w.params).In h)
    (F : ∀ (w : World) (mg : Str → Option Value) (fa : Addr) (h : Heap), (K w.params).In h → h.Ns mainGlobals mg → mg d.name = some (.ref fa) →
      ∃ fd : FuncData, (∀ (s : Shared) (u : Value), BindsTo s fd ⟨[u], []⟩ [("_law_script", u)]) ∧ ∀ base : Heap, (K w.params).In base → base.Ns mainGlobals mg → FnOk l.prog w (K w.params) mg base CX0 5 fa fd ["_law_script"] (spLaw (K w.params) f_law)) :
    PySem.W.WalkO q loose XP YP l.row.toRowW d [] (fun f vs => PySem.call f vs) :=
  L2.walk_of (n := 63) (k := 5) (x := "_law_script") (CX := fun _ => CX0) (sp := fun w => spLaw (K w.params) f_law) hn (by decide) hdf ⟨rfl, by decide, by decide⟩ hY F
    (fun w H a ns hl hO hS => law_head hO hS (law_true ns hl)) fun _ _ _ _ _ z => z

end My
end M
end L2
open PySem PySem.W PyProof.Rows
set_option maxRecDepth 100000 in
set_option maxHeartbeats 0 in
theorem PySem.Challenge.cw_mendsure_k02_which_is_ahead_holds : PySem.Challenge.rw_mendsure_k02_which_is_ahead.Holds := by
  w_on; o_law; k_head; (case hw => w_witness2)
  k_fill
  refine L2.M.My.walk (l := PySem.Challenge.rw_mendsure_k02_which_is_ahead) rfl rfl (fun w h Y => PySem.W.kIn_of Y) ?F
  case F =>
    intro w mg fa h KX G hmg
    refine' L2.M.My.all_mk KX G hmg ?a0 ?l0 ?c0 ?k0 ?a1 ?l1 ?c1 ?k1 ?a2 ?l2 ?c2 ?k2 ?a3 ?l3 ?c3 ?k3 ?a4 ?l4 ?c4 ?k4 ?a5 ?l5 ?c5 ?k5 ?a6 ?l6 ?c6 ?k6 ?a7 ?l7 ?c7 ?k7 ?a8 ?l8 ?c8 ?k8 ?a9 ?l9 ?c9 ?k9 ?z_bool ?z_isinstance ?z_len ?z_range ?z_str ?z_tuple ?z_zip
    (case a0 => k_is)
    (case l0 => k_is)
    (case c0 => k_is)
    (case k0 => k_is)
    (case a1 => k_is)
    (case l1 => k_is)
    (case c1 => k_is)
    (case k1 => k_is)
    (case a2 => k_is)
    (case l2 => k_is)
    (case c2 => k_is)
    (case k2 => k_is)
    (case a3 => k_is)
    (case l3 => k_is)
    (case c3 => k_is)
    (case k3 => k_is)
    (case a4 => k_is)
    (case l4 => k_is)
    (case c4 => k_is)
    (case k4 => k_is)
    (case a5 => k_is)
    (case l5 => k_is)
    (case c5 => k_is)
    (case k5 => k_is)
    (case a6 => k_is)
    (case l6 => k_is)
    (case c6 => k_is)
    (case k6 => k_is)
    (case a7 => k_is)
    (case l7 => k_is)
    (case c7 => k_is)
    (case k7 => k_is)
    (case a8 => k_is)
    (case l8 => k_is)
    (case c8 => k_is)
    (case k8 => k_is)
    (case a9 => k_is)
    (case l9 => k_is)
    (case c9 => k_is)
    (case k9 => k_is)
    (case z_bool => k_is)
    (case z_isinstance => k_is)
    (case z_len => k_is)
    (case z_range => k_is)
    (case z_str => k_is)
    (case z_tuple => k_is)
    (case z_zip => k_is)
#print axioms PySem.Challenge.cw_mendsure_k02_which_is_ahead_holds
